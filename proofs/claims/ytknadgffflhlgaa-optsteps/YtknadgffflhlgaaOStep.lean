/- OptSteps: any state, any gradient, any rate: the next state, or why there is none. -/
import Derived.Test.YtknadgffflhlgaaOpS
namespace Go.Proofs.Ytknadgffflhlgaa.Wd
open Go.RowKit Fx
set_option linter.unusedVariables false
set_option linter.unusedSimpArgs false
set_option maxRecDepth 8000
set_option maxHeartbeats 8000000
theorem both_any (w : World) (p q pg : Option Addr) (n c m d ng cg : Nat) (P M G : List Int) (many ss kk bb : Int) (hn : n ≤ 60) (hmm : m ≤ 60) (h1 : Nums .i64 w (.slice p n c) P) (h2 : Nums .i64 w (.slice q m d) M) (h3 : WdR w pg ng G) (hP : RI P) (hM : RI M) (hm : InR many) (hs : InR ss) (hk : InR kk) (hb : InR bb) :
    ∃ (E : Int) (RP RM : List Int), RP.length ≤ 60 ∧ RM.length ≤ 60 ∧ (∀ W, Below w.heap.size w W → Calls Try.prog 12 #[.agg #[.slice p n c, .slice q m d], .slice pg ng cg, .int .i64 many, .agg #[.int .i64 ss, .int .i64 kk, .int .i64 bb]] W fun e w' => ∃ v, e = .returned (.tuple #[v, .int .i64 E]) ∧ SRes w' v RP RM ∧ Below W.heap.size W w') ∧ (∀ W, Below w.heap.size w W → Calls Try.prog 13 #[.agg #[.slice p n c, .slice q m d], .slice pg ng cg, .int .i64 many, .agg #[.int .i64 ss, .int .i64 kk, .int .i64 bb]] W fun e w' => ∃ v, e = .returned (.tuple #[v, .int .i64 E]) ∧ SRes w' v RP RM ∧ Below W.heap.size W w') := by
  have lP := nums_len h1
  have lM := nums_len h2
  by_cases e1 : n = m ∧ n = ng
  · obtain ⟨rfl, rfl⟩ := e1
    by_cases e2 : many < 1 ∨ bb < 0
    · exact ⟨1, [], [], by simp, by simp, fun W _ => apply_arg p q pg n c d cg many ss kk bb W e2, fun W _ => rapply_arg p q pg n c d cg many ss kk bb W e2⟩
    · refine ⟨0, opP P M G many ss bb kk, opM M G many bb kk, by rw [opP_len, h3.1]; exact hn, by rw [opM_len, h3.1]; exact hn, fun W hW => ?_, fun W hW => ?_⟩
      · exact apply_ok p q pg n c d cg P M G many ss kk bb (by omega) hP hM hm hs hk hb (by omega) (by omega) lP lM W (h1.up hW) (h2.up hW) (h3.up hW)
      · exact rapply_ok p q pg n c d cg P M G many ss kk bb (by omega) hP hM hm hs hk hb (by omega) (by omega) lP lM W (h1.up hW) (h2.up hW) (h3.up hW)
  · exact ⟨4, [], [], by simp, by simp, fun W _ => apply_shape p q pg n c m d ng cg many ss kk bb W e1, fun W _ => rapply_shape p q pg n c m d ng cg many ss kk bb W e1⟩
theorem osteps_walk (w : World) (z : Nat → Int) (n c : Nat) (p : Option Addr) (y : Nat → Int) (m d : Nat) (q : Option Addr) (G : List Int) (ng cg : Nat) (pg : Option Addr) (many ss kk bb : Int) (h1 : RowN .i64 w p n c z) (h2 : RowN .i64 w q m d y) (h3 : WdsN w pg ng cg G) (ha : -9223372036854775808 ≤ many ∧ many ≤ 9223372036854775807) (hs : -9223372036854775808 ≤ ss ∧ ss ≤ 9223372036854775807) (hk : -9223372036854775808 ≤ kk ∧ kk ≤ 9223372036854775807) (hb : -9223372036854775808 ≤ bb ∧ bb ≤ 9223372036854775807) :
    Calls Try.prog 4 #[.agg #[.slice p n c, .slice q m d], .slice pg ng cg, .int .i64 many, .agg #[.int .i64 ss, .int .i64 kk, .int .i64 bb]] w fun e w' => e = .returned (.bool true) ∧ Below w.heap.size w w' := by
  haveI : Nonempty World := ⟨w⟩
  obtain ⟨P, lP, dP, rP⟩ : ∃ P : List Int, P.length = n ∧ Nums .i64 w (.slice p n c) P ∧ RI P := ⟨nlst n z, nlst_len n z, h1.nums, h1.riI⟩
  obtain ⟨M, lM, dM, rM⟩ : ∃ M : List Int, M.length = m ∧ Nums .i64 w (.slice q m d) M ∧ RI M := ⟨nlst m y, nlst_len m y, h2.nums, h2.riI⟩
  have HN : Hid (Nums .i64 w (.slice p n c) P ∧ Nums .i64 w (.slice q m d) M ∧ WdR w pg ng G ∧ RI P ∧ RI M ∧ P.length = n ∧ M.length = m ∧ InR many ∧ InR ss ∧ InR kk ∧ InR bb) := ⟨dP, dM, h3.2.2, rP, rM, lP, lM, ha, hs, hk, hb⟩
  clear h1 h2 h3 lP lM dP dM rP rM
  go_enter Try.func4, Try.ntmps4
  go_wp2_with fail
  generalize hW0 : World.alloc _ _ = W0
  have HB0 := hidB (w := w) hW0 (by go_grown)
  have XA : Hid (Cel W0 w.heap.size (.slice p n c) (.slice q m d)) := celW hW0 (by simp [go_sem])
  have XB : Hid (Cel3 W0 (w.heap.size + 1) ss kk bb) := celX hW0 (by simp [go_sem])
  clear hW0
  refine (awake15_any W0).mono ?_
  rintro e w1 ⟨rfl, hB⟩
  have H1 : Hid (Below w.heap.size w w1 ∧ Cel w1 w.heap.size (.slice p n c) (.slice q m d) ∧ Cel3 w1 (w.heap.size + 1) ss kk bb) := ⟨bstep HB0.out hB, XA.out.up hB, XB.out.up hB⟩
  clear hB HB0 XA XB
  obtain ⟨a0, a1, _, _⟩ := H1.out.2.1
  obtain ⟨x0, x1, x2⟩ := H1.out.2.2
  have ka := cell_lt a0
  have kx := cell_lt x0
  by_cases t1 : 60 < n
  · have t1' : (60 : Int) < (n : Int) := by omega
    go_wp2
    go_ret
    exact ⟨rfl, H1.out.1⟩
  have t1' : (n : Int) ≤ 60 := by omega
  by_cases t2 : 60 < m
  · have t2' : (60 : Int) < (m : Int) := by omega
    go_wp2
    go_ret
    exact ⟨rfl, H1.out.1⟩
  have t2' : (m : Int) ≤ 60 := by omega
  by_cases t3 : 60 < ng
  · have t3' : (60 : Int) < (ng : Int) := by omega
    go_wp2
    go_ret
    exact ⟨rfl, H1.out.1⟩
  have t3' : (ng : Int) ≤ 60 := by omega
  obtain ⟨E, RP, RM, l1, l2, cA, cR⟩ := both_any w p q pg n c m d ng cg P M G many ss kk bb (by omega) (by omega) HN.out.1 HN.out.2.1 HN.out.2.2.1 HN.out.2.2.2.1 HN.out.2.2.2.2.1 HN.out.2.2.2.2.2.2.2.1 HN.out.2.2.2.2.2.2.2.2.1 HN.out.2.2.2.2.2.2.2.2.2.1 HN.out.2.2.2.2.2.2.2.2.2.2
  have HL : Hid (RP.length ≤ 60 ∧ RM.length ≤ 60 ∧ n ≤ 60) := ⟨l1, l2, by omega⟩
  have cR' : Hid (∀ W, Below w.heap.size w W → Calls Try.prog 13 #[.agg #[.slice p n c, .slice q m d], .slice pg ng cg, .int .i64 many, .agg #[.int .i64 ss, .int .i64 kk, .int .i64 bb]] W fun e w' => ∃ v, e = .returned (.tuple #[v, .int .i64 E]) ∧ SRes w' v RP RM ∧ Below W.heap.size W w') := cR
  have cT : Hid (∀ W, Calls Try.prog 14 #[.agg #[.int .i64 ss, .int .i64 kk, .int .i64 bb]] W fun e w' => e = .returned (.agg #[.int .i64 ss, .int .i64 kk, .int .i64 bb]) ∧ Below W.heap.size W w') := rate_any ss kk bb
  have cc := cA w1 H1.out.1
  clear cA cR l1 l2
  go_wp2_with fail
  refine cc.mono ?_
  rintro e w2 ⟨v, rfl, ⟨p2, n2, c2, q2, m2, d2, rfl, hP, hM⟩, hB⟩
  replace hP := hP.nums
  replace hM := hM.nums
  obtain ⟨b2, eb2⟩ : ∃ b, w2.heap.size = b := ⟨_, rfl⟩
  obtain ⟨K2, eK2⟩ : ∃ K, w2.alloc (.cells #[.slice p2 n2 c2, .slice q2 m2 d2] 25) = K := ⟨_, rfl⟩
  have hB2 : Below w2.heap.size w2 K2 := by rw [← eK2]; exact up_alloc w2 _
  have H2 : Hid (Below w.heap.size w K2 ∧ Cel K2 w.heap.size (.slice p n c) (.slice q m d) ∧ Cel3 K2 (w.heap.size + 1) ss kk bb ∧ Cel K2 b2 (.slice p2 n2 c2) (.slice q2 m2 d2) ∧ Nums .i64 K2 (.slice p2 n2 c2) RP ∧ Nums .i64 K2 (.slice q2 m2 d2) RM) := ⟨bstep H1.out.1 (bstep hB hB2), H1.out.2.1.up (bstep hB hB2), H1.out.2.2.up (bstep hB hB2), by rw [← eK2, ← eb2]; unfold Cel; simp [go_sem], hP.up hB2, hM.up hB2⟩
  (try rw [eb2])
  clear a0 a1 x0 x1 x2 ka kx hP hM hB hB2 cc
  obtain ⟨a0, a1, _, _⟩ := H2.out.2.1
  obtain ⟨x0, x1, x2⟩ := H2.out.2.2.1
  have ka := cell_lt a0
  have kx := cell_lt x0
  go_wp2_with fail
  clear eK2 eb2 H1
  refine relM [⟨9, 49, TupS E RP RM⟩, ⟨10, 39, TupS E RP RM⟩, ⟨11, 50, StV RP RM⟩, ⟨13, 11, NewS K2.heap.size 38⟩] 14 70 (by kernel_rfl) rfl rfl [12] (by kernel_rfl) (by kernel_rfl) (fun i0 hi o0 ho c a w v h => ?_) (by rfl) ?_ ?_
  · simp only [List.mem_cons, List.not_mem_nil, or_false] at hi
    rcases hi with rfl
    · cases ho
      exact h
  · intro e he v W W' h hb
    simp only [List.mem_cons, List.not_mem_nil, or_false] at he
    rcases he with rfl | rfl | rfl | rfl
    · exact TupS.up h hb
    · exact TupS.up h hb
    · exact StV.up h hb
    · exact NewS.up h hb
  apply Exists.intro
  refine ⟨?yt1, ?yl1, ?wk1, ?pk1, ?rest1⟩
  case wk1 =>
    intro x
    simp only [List.take_succ_cons, List.take_zero]
    refine relQuiet rfl rfl ?_
    apply Exists.intro
    refine ⟨fun F hF hf K hK => ?_, ?_⟩
    · have hFc := hF.cell
      have hFf := hF.frozen
      go_big_quiet_op
      first | exact hK | (apply Exists.intro; refine ⟨fun _ => ?_, ?_⟩; (· fail); exact hK)
    (try simp only [Act.put, List.setIfInBounds_toArray, List.set_cons_zero, List.set_cons_succ])
    refine relQuiet rfl rfl ?_
    apply Exists.intro
    refine ⟨fun F hF hf K hK => ?_, ?_⟩
    · have hFc := hF.cell
      have hFf := hF.frozen
      go_big_quiet_op
      first | exact hK | (apply Exists.intro; refine ⟨fun _ => ?_, ?_⟩; (· fail); exact hK)
    (try simp only [Act.put, List.setIfInBounds_toArray, List.set_cons_zero, List.set_cons_succ])
    refine relQuiet rfl rfl ?_
    apply Exists.intro
    refine ⟨fun F hF hf K hK => ?_, ?_⟩
    · have hFc := hF.cell
      have hFf := hF.frozen
      go_big_quiet_op
      first | exact hK | (apply Exists.intro; refine ⟨fun _ => ?_, ?_⟩; (· fail); exact hK)
    (try simp only [Act.put, List.setIfInBounds_toArray, List.set_cons_zero, List.set_cons_succ])
    refine relQuiet rfl rfl ?_
    apply Exists.intro
    refine ⟨fun F hF hf K hK => ?_, ?_⟩
    · have hFc := hF.cell
      have hFf := hF.frozen
      go_big_quiet_op
      first | exact hK | (apply Exists.intro; refine ⟨fun _ => ?_, ?_⟩; (· fail); exact hK)
    (try simp only [Act.put, List.setIfInBounds_toArray, List.set_cons_zero, List.set_cons_succ])
    refine relQuiet rfl rfl ?_
    apply Exists.intro
    refine ⟨fun F hF hf K hK => ?_, ?_⟩
    · have hFc := hF.cell
      have hFf := hF.frozen
      go_big_quiet_op
      first | exact hK | (apply Exists.intro; refine ⟨fun _ => ?_, ?_⟩; (· fail); exact hK)
    (try simp only [Act.put, List.setIfInBounds_toArray, List.set_cons_zero, List.set_cons_succ])
    refine relQuiet rfl rfl ?_
    apply Exists.intro
    refine ⟨fun F hF hf K hK => ?_, ?_⟩
    · have hFc := hF.cell
      have hFf := hF.frozen
      go_big_quiet_op
      first | exact hK | (apply Exists.intro; refine ⟨fun _ => ?_, ?_⟩; (· fail); exact hK)
    (try simp only [Act.put, List.setIfInBounds_toArray, List.set_cons_zero, List.set_cons_succ])
    refine relQuiet rfl rfl ?_
    apply Exists.intro
    refine ⟨fun F hF hf K hK => ?_, ?_⟩
    · have hFc := hF.cell
      have hFf := hF.frozen
      go_big_quiet_op
      first | exact hK | (apply Exists.intro; refine ⟨fun _ => ?_, ?_⟩; (· fail); exact hK)
    (try simp only [Act.put, List.setIfInBounds_toArray, List.set_cons_zero, List.set_cons_succ])
    refine relQuiet rfl rfl ?_
    apply Exists.intro
    refine ⟨fun F hF hf K hK => ?_, ?_⟩
    · have hFc := hF.cell
      have hFf := hF.frozen
      go_big_quiet_op
      first | exact hK | (apply Exists.intro; refine ⟨fun _ => ?_, ?_⟩; (· fail); exact hK)
    (try simp only [Act.put, List.setIfInBounds_toArray, List.set_cons_zero, List.set_cons_succ])
    refine relQuiet rfl rfl ?_
    apply Exists.intro
    refine ⟨fun F hF hf K hK => ?_, ?_⟩
    · have hFc := hF.cell
      have hFf := hF.frozen
      go_big_quiet_op
      first | exact hK | (apply Exists.intro; refine ⟨fun _ => ?_, ?_⟩; (· exact hF.call (cT.out _)); exact hK)
    (try simp only [Act.put, List.setIfInBounds_toArray, List.set_cons_zero, List.set_cons_succ])
    refine relTold rfl rfl ?_ ?_
    · intro F hF hf d
      have hFc := hF.cell
      have hFf := hF.frozen
      simp [yieldsR, yieldsUpon, go_sem]
      refine (cR'.out (F d) (bstep H2.out.1 (hF.below d))).mono ?_
      rintro e' w8 ⟨v8, rfl, hs8, hb8⟩
      exact ⟨_, rfl, ⟨v8, rfl, hs8⟩, hb8⟩
    (try simp only [Act.put, List.setIfInBounds_toArray, List.set_cons_zero, List.set_cons_succ])
    refine relTold rfl rfl ?_ ?_
    · intro F hF hf d
      have hFc := hF.cell
      have hFf := hF.frozen
      have h9 := hf _ List.mem_cons_self (by rfl) d
      simp [yieldsR, yieldsUpon, go_sem]
      exact ⟨h9, Below.refl _ _⟩
    (try simp only [Act.put, List.setIfInBounds_toArray, List.set_cons_zero, List.set_cons_succ])
    refine relTold rfl rfl ?_ ?_
    · intro F hF hf d
      have hFc := hF.cell
      have hFf := hF.frozen
      have h9 := hf _ (List.mem_cons_of_mem _ List.mem_cons_self) (by rfl) d
      obtain ⟨u9, e9, s9⟩ := h9
      simp only [] at e9
      simp [yieldsR, yieldsUpon, go_sem, e9]
      exact ⟨s9, Below.refl _ _⟩
    (try simp only [Act.put, List.setIfInBounds_toArray, List.set_cons_zero, List.set_cons_succ])
    refine relQuiet rfl rfl ?_
    apply Exists.intro
    refine ⟨fun F hF hf K hK => ?_, ?_⟩
    · have hFc := hF.cell
      have hFf := hF.frozen
      have h9 := hf _ (List.mem_cons_of_mem _ List.mem_cons_self) (by rfl)
      obtain ⟨u9, e9, _⟩ := h9 K2
      simp only [] at e9
      go_big_quiet_op
      first | exact hK | (apply Exists.intro; refine ⟨fun _ => ?_, ?_⟩; (· fail); exact hK)
    (try simp only [Act.put, List.setIfInBounds_toArray, List.set_cons_zero, List.set_cons_succ])
    refine relTold rfl rfl ?_ ?_
    · intro F hF hf d
      have hFc := hF.cell
      have hFf := hF.frozen
      simp [yieldsR, yieldsUpon, go_sem]
      exact ⟨⟨(F d).heap.size, rfl, heap_alloc_new _ _, (hF.below d).size⟩, up_alloc _ _⟩
    (try simp only [Act.put, List.setIfInBounds_toArray, List.set_cons_zero, List.set_cons_succ])
    refine relEnd ?_
    exact rfl
  case pk1 =>
    intro x
    simp only [putsK, List.foldl_cons, List.foldl_nil, Act.put, List.setIfInBounds_toArray, List.set_cons_zero, List.set_cons_succ]
  case yt1 =>
    intro i0 hi o0 ho e he W x hx
    simp only [List.mem_cons, List.not_mem_nil, or_false] at hi
    rcases hi with rfl
    · cases he
  case yl1 =>
    intro i0 hi o0 ho hn x hx
    simp only [List.mem_cons, List.not_mem_nil, or_false] at hi
    rcases hi with rfl
    · cases ho
      obtain ⟨W9, u9, e9, _⟩ := hx _ (List.mem_cons_of_mem _ List.mem_cons_self) (by rfl)
      simp only [] at e9
      refine ⟨.int .i64 E, fun t ht => ?_, .inl ⟨by rfl, fun w => ?_⟩⟩
      · cases ht
        rfl
      · simp [execOp, Act.eval, e9, go_sem]
  intro w9 xs hB9 hf
  simp only [List.drop_succ_cons, List.drop_zero]
  obtain ⟨z4, ez4⟩ : ∃ z, xs 9 = z := ⟨_, rfl⟩
  obtain ⟨z5, ez5⟩ : ∃ z, xs 10 = z := ⟨_, rfl⟩
  have hS := hf _ (List.mem_cons_of_mem _ (List.mem_cons_of_mem _ List.mem_cons_self))
  have hN := hf _ (List.mem_cons_of_mem _ (List.mem_cons_of_mem _ (List.mem_cons_of_mem _ List.mem_cons_self)))
  simp only [] at hS hN
  obtain ⟨b, eb, hb_, hbB⟩ := hN
  obtain ⟨p3, n3, c3, q3, m3, d3, e6, l1, l2, y_0, y_1, hP, hM⟩ := put_state (by decide) hb_ hS
  simp only [ez4, ez5, e6, eb]
  have HZ : Hid (Below K2.heap.size K2 (set2 w9 b (.slice p3 n3 c3) (.slice q3 m3 d3)) ∧ Nums .i64 (set2 w9 b (.slice p3 n3 c3) (.slice q3 m3 d3)) (.slice p3 n3 c3) RP ∧ Nums .i64 (set2 w9 b (.slice p3 n3 c3) (.slice q3 m3 d3)) (.slice q3 m3 d3) RM ∧ Cel (set2 w9 b (.slice p3 n3 c3) (.slice q3 m3 d3)) b (.slice p3 n3 c3) (.slice q3 m3 d3)) := ⟨below_put hB9 hbB _ _, hP, hM, y_1⟩
  obtain ⟨y0, y1, y2, y3⟩ := y_0
  obtain ⟨Z, eZ⟩ : ∃ Z, set2 w9 b (.slice p3 n3 c3) (.slice q3 m3 d3) = Z := ⟨_, rfl⟩
  rw [eZ] at HZ
  have H3 : Hid (Below w.heap.size w Z ∧ Cel Z w.heap.size (.slice p n c) (.slice q m d) ∧ Cel Z b2 (.slice p2 n2 c2) (.slice q2 m2 d2) ∧ Cel Z b (.slice p3 n3 c3) (.slice q3 m3 d3) ∧ Nums .i64 Z (.slice p2 n2 c2) RP ∧ Nums .i64 Z (.slice q2 m2 d2) RM ∧ Nums .i64 Z (.slice p3 n3 c3) RP ∧ Nums .i64 Z (.slice q3 m3 d3) RM) := ⟨bstep H2.out.1 HZ.out.1, H2.out.2.1.up HZ.out.1, H2.out.2.2.2.1.up HZ.out.1, HZ.out.2.2.2, H2.out.2.2.2.2.1.up HZ.out.1, H2.out.2.2.2.2.2.up HZ.out.1, HZ.out.2.1, HZ.out.2.2.1⟩
  clear hf hB9 hS hb_ hP hM a0 a1 x0 x1 x2 ka kx ez4 ez5 e6 eb l1 l2 HZ H2 cR' cT
  obtain ⟨a0, a1, _, _⟩ := H3.out.2.1
  go_wp2_with fail
  clear eZ y0 y1 y2 y3
  refine (new_any p n c P HN.out.2.2.2.2.2.1 (by have := HL.out; omega) Z (HN.out.1.up H3.out.1)).mono ?_
  rintro e w4 ⟨v, rfl, ⟨p4, n4, c4, q4, m4, d4, rfl, hP, hM⟩, hB⟩
  replace hP := hP.nums
  replace hM := hM.nums
  obtain ⟨b4, eb4⟩ : ∃ b, w4.heap.size = b := ⟨_, rfl⟩
  obtain ⟨K4, eK4⟩ : ∃ K, w4.alloc (.cells #[.slice p4 n4 c4, .slice q4 m4 d4] 25) = K := ⟨_, rfl⟩
  have hB4 : Below w4.heap.size w4 K4 := by rw [← eK4]; exact up_alloc w4 _
  have hBZ := bstep hB hB4
  have l4 := nums_len hP
  have l5 := nums_len hM
  have H4 : Hid (Below w.heap.size w K4 ∧ Cel K4 w.heap.size (.slice p n c) (.slice q m d) ∧ Cel K4 b2 (.slice p2 n2 c2) (.slice q2 m2 d2) ∧ Cel K4 b (.slice p3 n3 c3) (.slice q3 m3 d3) ∧ Cel K4 b4 (.slice p4 n4 c4) (.slice q4 m4 d4) ∧ Nums .i64 K4 (.slice p2 n2 c2) RP ∧ Nums .i64 K4 (.slice q2 m2 d2) RM ∧ Nums .i64 K4 (.slice p3 n3 c3) RP ∧ Nums .i64 K4 (.slice q3 m3 d3) RM ∧ Nums .i64 K4 (.slice p4 n4 c4) P ∧ Nums .i64 K4 (.slice q4 m4 d4) (List.replicate n 0)) := ⟨bstep H3.out.1 hBZ, H3.out.2.1.up hBZ, H3.out.2.2.1.up hBZ, H3.out.2.2.2.1.up hBZ, by rw [← eK4, ← eb4]; unfold Cel; simp [go_sem], H3.out.2.2.2.2.1.up hBZ, H3.out.2.2.2.2.2.1.up hBZ, H3.out.2.2.2.2.2.2.1.up hBZ, H3.out.2.2.2.2.2.2.2.up hBZ, hP.up hB4, hM.up hB4⟩
  have c1 : Hid (∀ W, Below K4.heap.size K4 W → Calls Try.prog 15 #[.agg #[.slice p2 n2 c2, .slice q2 m2 d2], .agg #[.slice p3 n3 c3, .slice q3 m3 d3]] W fun e w' => e = .returned (.bool true) ∧ Below W.heap.size W w') := fun W hW => by
    have hl := HL.out
    have l6 := nums_len H4.out.2.2.2.2.2.1
    have l7 := nums_len H4.out.2.2.2.2.2.2.1
    exact same15_any p2 q2 p3 q3 n2 c2 m2 d2 n3 c3 m3 d3 RP RM (by omega) (by omega) W (H4.out.2.2.2.2.2.1.up hW) (H4.out.2.2.2.2.2.2.1.up hW) (H4.out.2.2.2.2.2.2.2.1.up hW) (H4.out.2.2.2.2.2.2.2.2.1.up hW)
  have c2' : Hid (∀ W v, Below K4.heap.size K4 W → StV P (List.replicate n 0) v W → Calls Try.prog 15 #[.agg #[.slice p4 n4 c4, .slice q4 m4 d4], v] W fun e w' => e = .returned (.bool true) ∧ Below W.heap.size W w') := fun W v hW hv => by
    obtain ⟨p8, n8, c8, q8, m8, d8, rfl, g1, g2⟩ := hv
    have hl := HL.out
    have hx := HN.out.2.2.2.2.2.1
    simp only [List.length_replicate] at l5
    exact same15_any p4 q4 p8 q8 n4 c4 m4 d4 n8 c8 m8 d8 P (List.replicate n 0) (by omega) (by omega) W (H4.out.2.2.2.2.2.2.2.2.2.1.up hW) (H4.out.2.2.2.2.2.2.2.2.2.2.up hW) g1.nums g2.nums
  have c3' : Hid (∀ W, Below K4.heap.size K4 W → Calls Try.prog 16 #[.slice p n c] W fun e w' => ∃ v, e = .returned v ∧ SRes w' v P (List.replicate n 0) ∧ Below W.heap.size W w') := fun W hW => begin_any p n c P HN.out.2.2.2.2.2.1 (by have := HL.out; omega) W (HN.out.1.up (bstep H4.out.1 hW))
  have nE : (E == E) = true := by simp
  (try rw [eb4])
  clear a0 a1 hP hM hB hB4 hBZ H3
  obtain ⟨a0, a1, _, _⟩ := H4.out.2.1
  obtain ⟨r0, r1, _, _⟩ := H4.out.2.2.1
  obtain ⟨s0, s1, _, _⟩ := H4.out.2.2.2.1
  obtain ⟨t0, t1, _, _⟩ := H4.out.2.2.2.2.1
  have ka := cell_lt a0
  have kr := cell_lt r0
  have ks := cell_lt s0
  have kt := cell_lt t0
  go_wp2_with fail
  clear eK4 eb4
  refine rel [⟨12, 67, StV P (List.replicate n 0)⟩] 15 70 (by kernel_rfl) rfl rfl (by kernel_rfl) (by rfl) ?_ ?_
  · intro e he v W W' h hb
    simp only [List.mem_cons, List.not_mem_nil, or_false] at he
    subst he
    exact StV.up h hb
  apply Exists.intro
  refine ⟨fun x => ?_, ?_, ?_⟩
  · simp only [List.take_succ_cons, List.take_zero]
    refine relQuiet rfl rfl ?_
    apply Exists.intro
    refine ⟨fun F hF hf K hK => ?_, ?_⟩
    · have hFc := hF.cell
      have hFf := hF.frozen
      go_big_quiet_op
      first | exact hK | (apply Exists.intro; refine ⟨fun _ => ?_, ?_⟩; (· fail); exact hK)
    (try simp only [Act.put, List.setIfInBounds_toArray, List.set_cons_zero, List.set_cons_succ])
    refine relQuiet rfl rfl ?_
    apply Exists.intro
    refine ⟨fun F hF hf K hK => ?_, ?_⟩
    · have hFc := hF.cell
      have hFf := hF.frozen
      go_big_quiet_op
      first | exact hK | (apply Exists.intro; refine ⟨fun _ => ?_, ?_⟩; (· fail); exact hK)
    (try simp only [Act.put, List.setIfInBounds_toArray, List.set_cons_zero, List.set_cons_succ])
    refine relQuiet rfl rfl ?_
    apply Exists.intro
    refine ⟨fun F hF hf K hK => ?_, ?_⟩
    · have hFc := hF.cell
      have hFf := hF.frozen
      go_big_quiet_op
      first | exact hK | (apply Exists.intro; refine ⟨fun _ => ?_, ?_⟩; (· fail); exact hK)
    (try simp only [Act.put, List.setIfInBounds_toArray, List.set_cons_zero, List.set_cons_succ])
    refine relQuiet rfl rfl ?_
    apply Exists.intro
    refine ⟨fun F hF hf K hK => ?_, ?_⟩
    · have hFc := hF.cell
      have hFf := hF.frozen
      go_big_quiet_op
      first | exact hK | (apply Exists.intro; refine ⟨fun _ => ?_, ?_⟩; (· fail); exact hK)
    (try simp only [Act.put, List.setIfInBounds_toArray, List.set_cons_zero, List.set_cons_succ])
    refine relQuiet rfl rfl ?_
    apply Exists.intro
    refine ⟨fun F hF hf K hK => ?_, ?_⟩
    · have hFc := hF.cell
      have hFf := hF.frozen
      go_big_quiet_op
      first | exact hK | (apply Exists.intro; refine ⟨fun _ => ?_, ?_⟩; (· fail); exact hK)
    (try simp only [Act.put, List.setIfInBounds_toArray, List.set_cons_zero, List.set_cons_succ])
    refine relQuiet rfl rfl ?_
    apply Exists.intro
    refine ⟨fun F hF hf K hK => ?_, ?_⟩
    · have hFc := hF.cell
      have hFf := hF.frozen
      go_big_quiet_op
      first | exact hK | (apply Exists.intro; refine ⟨fun _ => ?_, ?_⟩; (· fail); exact hK)
    (try simp only [Act.put, List.setIfInBounds_toArray, List.set_cons_zero, List.set_cons_succ])
    refine relQuiet rfl rfl ?_
    apply Exists.intro
    refine ⟨fun F hF hf K hK => ?_, ?_⟩
    · have hFc := hF.cell
      have hFf := hF.frozen
      go_big_quiet_op
      first | exact hK | (apply Exists.intro; refine ⟨fun _ => ?_, ?_⟩; (· with_reducible exact hF.call (c1.out _ (hF.below _))); exact hK)
    (try simp only [Act.put, List.setIfInBounds_toArray, List.set_cons_zero, List.set_cons_succ])
    refine relQuiet rfl rfl ?_
    apply Exists.intro
    refine ⟨fun F hF hf K hK => ?_, ?_⟩
    · have hFc := hF.cell
      have hFf := hF.frozen
      go_big_quiet_op
      first | exact hK | (apply Exists.intro; refine ⟨fun _ => ?_, ?_⟩; (· fail); exact hK)
    (try simp only [Act.put, List.setIfInBounds_toArray, List.set_cons_zero, List.set_cons_succ])
    refine relQuiet rfl rfl ?_
    apply Exists.intro
    refine ⟨fun F hF hf K hK => ?_, ?_⟩
    · have hFc := hF.cell
      have hFf := hF.frozen
      go_big_quiet_op
      first | exact hK | (apply Exists.intro; refine ⟨fun _ => ?_, ?_⟩; (· fail); exact hK)
    (try simp only [Act.put, List.setIfInBounds_toArray, List.set_cons_zero, List.set_cons_succ])
    refine relQuiet rfl rfl ?_
    apply Exists.intro
    refine ⟨fun F hF hf K hK => ?_, ?_⟩
    · have hFc := hF.cell
      have hFf := hF.frozen
      go_big_quiet_op
      first | exact hK | (apply Exists.intro; refine ⟨fun _ => ?_, ?_⟩; (· fail); exact hK)
    (try simp only [Act.put, List.setIfInBounds_toArray, List.set_cons_zero, List.set_cons_succ])
    refine relQuiet rfl rfl ?_
    apply Exists.intro
    refine ⟨fun F hF hf K hK => ?_, ?_⟩
    · have hFc := hF.cell
      have hFf := hF.frozen
      go_big_quiet_op
      first | exact hK | (apply Exists.intro; refine ⟨fun _ => ?_, ?_⟩; (· fail); exact hK)
    (try simp only [Act.put, List.setIfInBounds_toArray, List.set_cons_zero, List.set_cons_succ])
    refine relQuiet rfl rfl ?_
    apply Exists.intro
    refine ⟨fun F hF hf K hK => ?_, ?_⟩
    · have hFc := hF.cell
      have hFf := hF.frozen
      go_big_quiet_op
      first | exact hK | (apply Exists.intro; refine ⟨fun _ => ?_, ?_⟩; (· fail); exact hK)
    (try simp only [Act.put, List.setIfInBounds_toArray, List.set_cons_zero, List.set_cons_succ])
    refine relTold rfl rfl ?_ ?_
    · intro F hF hf d
      have hFc := hF.cell
      have hFf := hF.frozen
      simp [yieldsR, yieldsUpon, go_sem]
      refine (c3'.out (F d) (hF.below d)).mono ?_
      rintro e' w8 ⟨v8, rfl, hs8, hb8⟩
      exact ⟨_, rfl, hs8, hb8⟩
    (try simp only [Act.put, List.setIfInBounds_toArray, List.set_cons_zero, List.set_cons_succ])
    refine relQuiet rfl rfl ?_
    apply Exists.intro
    refine ⟨fun F hF hf K hK => ?_, ?_⟩
    · have hFc := hF.cell
      have hFf := hF.frozen
      have h8 : ∀ d, StV P (List.replicate n 0) (x 12) (F d) := fun d => hf _ List.mem_cons_self (by rfl) d
      go_big_quiet_op
      first | exact hK | (apply Exists.intro; refine ⟨fun _ => ?_, ?_⟩; (· exact hF.call (c2'.out _ _ (hF.below _) (h8 _))); exact hK)
    (try simp only [Act.put, List.setIfInBounds_toArray, List.set_cons_zero, List.set_cons_succ])
    refine relQuiet rfl rfl ?_
    apply Exists.intro
    refine ⟨fun F hF hf K hK => ?_, ?_⟩
    · have hFc := hF.cell
      have hFf := hF.frozen
      go_big_quiet_op
      first | exact hK | (apply Exists.intro; refine ⟨fun _ => ?_, ?_⟩; (· fail); exact hK)
    (try simp only [Act.put, List.setIfInBounds_toArray, List.set_cons_zero, List.set_cons_succ])
    refine relEnd ?_
    exact rfl
  · exact fun x => rfl
  · intro w9 xs hB9 hf
    simp only [List.drop_succ_cons, List.drop_zero]
    have H9 : Hid (Below w.heap.size w w9) := bstep H4.out.1 hB9
    obtain ⟨z9, ez9⟩ : ∃ z, xs 12 = z := ⟨_, rfl⟩
    simp only [ez9]
    clear hf hB9 c1 c2' c3' a0 a1 r0 r1 s0 s1 t0 t1 ka kr ks kt ez9
    go_wp2
    go_ret
    exact ⟨rfl, H9.out⟩
end Go.Proofs.Ytknadgffflhlgaa.Wd
