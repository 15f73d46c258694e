/- OptAlone: each parameter goes by its own numbers. -/
import Derived.Test.YtknadgffflhlgaaOpV
import Derived.Test.YtknadgffflhlgaaCut
namespace Go.Proofs.Ytknadgffflhlgaa.Wd
open Go.RowKit Fx
set_option linter.unusedVariables false
set_option linter.unusedSimpArgs false
set_option maxRecDepth 8000
set_option maxHeartbeats 8000000
theorem cutW_lh (p : Option Addr) (n cap i j : Nat) (h : i ≤ j) (h2 : j ≤ cap) (W : World) : Sem.run Try.prog (Instr.slice 32 (.slice p n cap) (some (.int .i64 (i : Int))) (some (.int .i64 (j : Int))) none) W = .ok (sliced p i j cap 2) W := by
  have hz : ∀ W, Sem.run Try.prog (sizeOf (Try.prog.elem 32)) W = .ok 2 W := fun W => by kernel_rfl
  have := run_slice_lh (P := Try.prog) W 32 p n cap (by kernel_rfl) .i64 .i64 (i : Int) (j : Int) (by omega) (by omega) (by omega)
  rw [this, hz]
  simp [Result.andThen]
theorem wdr_cut {W : World} {p : Option Addr} {n cap i : Nat} {l : List Int} (h : WdR W p n l) (hi : i < n) (hn : n ≤ cap) : ∃ q, sliced p i (i + 1) cap 2 = .slice q 1 (cap - i) ∧ WdR W q 1 [l.getD i 0] := by
  obtain ⟨b, o, rfl, c0, c1⟩ := h.2.2 i hi
  refine ⟨some ⟨b, o + i * 2, none⟩, ?_, rfl, fun y hy => ?_, fun j hj => ?_⟩
  · unfold sliced
    rw [if_neg (by omega)]
    simp [Addr.add]
  · simp only [List.mem_singleton] at hy
    subst hy
    exact getD_W h.2.1 i (by rw [h.1]; exact hi)
  · obtain rfl : j = 0 := by omega
    exact ⟨b, o + i * 2, rfl, by simpa using c0, by simpa using c1⟩
/-- A row's place alone. -/
theorem one_cut {W : World} {p : Option Addr} {n cap i : Nat} {l : List Int} (h : Nums .i64 W (.slice p n cap) l) (hi : i < n) (hn : n ≤ cap) : ∃ q, sliced p i (i + 1) cap 1 = .slice q 1 (cap - i) ∧ Nums .i64 W (.slice q 1 (cap - i)) [l.getD i 0] := by
  have hl := nums_len h
  have := cut_nums (i := i) (j := i + 1) (by omega) (by omega) hl hn h
  obtain ⟨q, e⟩ := sliced_is p i (i + 1) cap
  have e1 : i + 1 - i = 1 := by omega
  rw [e1] at e this
  rw [e] at this
  have e2 : (l.drop i).take 1 = [l.getD i 0] := by
    rw [List.drop_eq_getElem_cons (by rw [hl]; exact hi), List.getD_eq_getElem?_getD, List.getElem?_eq_getElem (by rw [hl]; exact hi)]
    rfl
  rw [e2] at this
  exact ⟨q, e, this⟩
theorem oalone_walk (w : World) (z : Nat → Int) (n c : Nat) (p : Option Addr) (y : Nat → Int) (m d : Nat) (q : Option Addr) (G : List Int) (ng cg : Nat) (pg : Option Addr) (at_ ss kk bb : Int) (h1 : RowN .i64 w p n c z) (h2 : RowN .i64 w q m d y) (h3 : WdsN w pg ng cg G) (ha : -9223372036854775808 ≤ at_ ∧ at_ ≤ 9223372036854775807) (hs : -9223372036854775808 ≤ ss ∧ ss ≤ 9223372036854775807) (hk : -9223372036854775808 ≤ kk ∧ kk ≤ 9223372036854775807) (hb : -9223372036854775808 ≤ bb ∧ bb ≤ 9223372036854775807) :
    Calls Try.prog 7 #[.slice p n c, .slice q m d, .slice pg ng cg, .int .i64 at_, .agg #[.int .i64 ss, .int .i64 kk, .int .i64 bb]] w fun e w' => e = .returned (.bool true) ∧ Below w.heap.size w w' := by
  haveI : Nonempty World := ⟨w⟩
  obtain ⟨P, lP, dP, rP⟩ : ∃ P : List Int, P.length = n ∧ Nums .i64 w (.slice p n c) P ∧ RI P := ⟨nlst n z, nlst_len n z, h1.nums, h1.riI⟩
  obtain ⟨M, lM, dM, rM⟩ : ∃ M : List Int, M.length = m ∧ Nums .i64 w (.slice q m d) M ∧ RI M := ⟨nlst m y, nlst_len m y, h2.nums, h2.riI⟩
  have HN : Hid (Nums .i64 w (.slice p n c) P ∧ Nums .i64 w (.slice q m d) M ∧ WdR w pg ng G ∧ RI P ∧ RI M ∧ P.length = n ∧ M.length = m ∧ InR ss ∧ InR kk ∧ InR bb) := ⟨dP, dM, h3.2.2, rP, rM, lP, lM, hs, hk, hb⟩
  have HC : Hid (n ≤ c ∧ m ≤ d ∧ ng ≤ cg) := ⟨h1.room, h2.room, h3.1⟩
  clear h1 h2 h3 lP lM dP dM rP rM
  go_enter Try.func7, Try.ntmps7
  go_wp2_with fail
  generalize hW0 : World.alloc _ _ = W0
  have HB0 : Hid (Below w.heap.size w W0) := by rw [← hW0]; exact up_alloc w _
  have XA : Hid (Cel3 W0 w.heap.size ss kk bb) := celX hW0 (by simp [go_sem])
  clear hW0
  refine (awake15_any W0).mono ?_
  rintro e w1 ⟨rfl, hB⟩
  have H1 : Hid (Below w.heap.size w w1 ∧ Cel3 w1 w.heap.size ss kk bb) := ⟨bstep HB0.out hB, XA.out.up hB⟩
  clear hB HB0 XA
  obtain ⟨a0, a1, a2⟩ := H1.out.2
  have ka := cell_lt a0
  by_cases t1 : 40 < n
  · have t1' : (40 : Int) < (n : Int) := by omega
    go_wp2
    go_ret
    exact ⟨rfl, H1.out.1⟩
  have t1' : (n : Int) ≤ 40 := by omega
  by_cases t2 : ¬ m = n
  · have t2' : ((m : Int) != (n : Int)) = true := by simpa using (show (m : Int) ≠ (n : Int) by omega)
    go_wp2
    go_ret
    exact ⟨rfl, H1.out.1⟩
  obtain rfl : n = m := by omega
  by_cases t3 : ¬ ng = n
  · have t3' : ((ng : Int) != (n : Int)) = true := by simpa using (show (ng : Int) ≠ (n : Int) by omega)
    go_wp2
    go_ret
    exact ⟨rfl, H1.out.1⟩
  obtain rfl : n = ng := by omega
  by_cases t4 : at_ < 0
  · skip
    go_wp2
    go_ret
    exact ⟨rfl, H1.out.1⟩
  have t4' : 0 ≤ at_ := by omega
  by_cases t5 : (n : Int) ≤ at_
  · skip
    go_wp2
    go_ret
    exact ⟨rfl, H1.out.1⟩
  have t5' : at_ < (n : Int) := by omega
  by_cases t6 : bb < 0
  · skip
    go_wp2
    go_ret
    exact ⟨rfl, H1.out.1⟩
  have t6' : 0 ≤ bb := by omega
  obtain ⟨i, rfl⟩ : ∃ i : Nat, at_ = (i : Int) := ⟨at_.toNat, by omega⟩
  have hi : i < n := by omega
  obtain ⟨M', eM⟩ : ∃ M', opM M G 3 bb kk = M' := ⟨_, rfl⟩
  obtain ⟨P', eP⟩ : ∃ P', opP P M G 3 ss bb kk = P' := ⟨_, rfl⟩
  obtain ⟨X, eX⟩ : ∃ X, P'.getD i 0 = X := ⟨_, rfl⟩
  obtain ⟨Y, eY⟩ : ∃ X, M'.getD i 0 = X := ⟨_, rfl⟩
  have lG := HN.out.2.2.1.1
  have HV : Hid (P'.length = n ∧ M'.length = n ∧ n ≤ 40 ∧ P'.getD i 0 = X ∧ M'.getD i 0 = Y ∧ i < n ∧ opP [P.getD i 0] [M.getD i 0] [G.getD i 0] 3 ss bb kk = [X] ∧ opM [M.getD i 0] [G.getD i 0] 3 bb kk = [Y]) := by
    refine ⟨by rw [← eP, opP_len, lG], by rw [← eM, opM_len, lG], by omega, eX, eY, hi, ?_, ?_⟩
    · rw [← eX, ← eP, opP_at _ _ _ _ _ _ _ _ (by rw [lG]; exact hi)]
      rfl
    · rw [← eY, ← eM, opM_at _ _ _ _ _ _ (by rw [lG]; exact hi)]
      rfl
  have cc := apply_ok p q pg n c d cg P M G 3 ss kk bb (by omega) HN.out.2.2.2.1 HN.out.2.2.2.2.1 (by unfold InR; omega) hs hk hb (by omega) (by omega) HN.out.2.2.2.2.2.1 HN.out.2.2.2.2.2.2.1 w1 (HN.out.1.up H1.out.1) (HN.out.2.1.up H1.out.1) (HN.out.2.2.1.up H1.out.1)
  rw [eM, eP] at cc
  clear eM eP eX eY lG
  go_wp2_with fail
  refine cc.mono ?_
  rintro e w2 ⟨v, rfl, ⟨p2, n2, c2, q2, m2, d2, rfl, hP, hM⟩, hB⟩
  replace hP := hP.nums
  replace hM := hM.nums
  obtain rfl : n = n2 := by rw [← HV.out.1]; exact nums_len hP
  obtain rfl : n = m2 := by rw [← HV.out.2.1]; exact nums_len hM
  obtain ⟨b2, eb2⟩ : ∃ b, w2.heap.size = b := ⟨_, rfl⟩
  obtain ⟨K2, eK2⟩ : ∃ K, w2.alloc (.cells #[.slice p2 n c2, .slice q2 n d2] 25) = K := ⟨_, rfl⟩
  have hB2 : Below w2.heap.size w2 K2 := by rw [← eK2]; exact up_alloc w2 _
  have H2 : Hid (Below w.heap.size w K2 ∧ Cel3 K2 w.heap.size ss kk bb ∧ Cel K2 b2 (.slice p2 n c2) (.slice q2 n d2) ∧ Nums .i64 K2 (.slice p2 n c2) P' ∧ Nums .i64 K2 (.slice q2 n d2) M') := ⟨bstep H1.out.1 (bstep hB hB2), H1.out.2.up (bstep hB hB2), by rw [← eK2, ← eb2]; unfold Cel; simp [go_sem], hP.up hB2, hM.up hB2⟩
  (try rw [eb2])
  clear a0 a1 a2 ka hP hM hB hB2 cc
  go_wp2_with fail
  clear eK2 eb2 H1
  obtain ⟨a0, a1, a2⟩ := H2.out.2.1
  have ka := cell_lt a0
  obtain ⟨pa, ea, na⟩ := one_cut (HN.out.1.up H2.out.1) hi HC.out.1
  obtain ⟨qa, eb, nb⟩ := one_cut (HN.out.2.1.up H2.out.1) hi HC.out.2.1
  obtain ⟨ga, ec, nc⟩ := wdr_cut (HN.out.2.2.1.up H2.out.1) hi HC.out.2.2
  have lC := HC.out
  have ei : ((i + 1 : Nat) : Int) = (i : Int) + 1 := by omega
  have hc1 : ∀ W, Sem.run Try.prog (Instr.slice 23 (.slice p n c) (some (.int .i64 (i : Int))) (some (.int .i64 ((i : Int) + 1))) none) W = .ok (.slice pa 1 (c - i)) W := fun W => by
    have := cutF_lh p n c i (i + 1) (by omega) (by omega) W
    rw [ea, ei] at this
    exact this
  have hc2 : ∀ W, Sem.run Try.prog (Instr.slice 23 (.slice q n d) (some (.int .i64 (i : Int))) (some (.int .i64 ((i : Int) + 1))) none) W = .ok (.slice qa 1 (d - i)) W := fun W => by
    have := cutF_lh q n d i (i + 1) (by omega) (by omega) W
    rw [eb, ei] at this
    exact this
  have hc3 : ∀ W, Sem.run Try.prog (Instr.slice 32 (.slice pg n cg) (some (.int .i64 (i : Int))) (some (.int .i64 ((i : Int) + 1))) none) W = .ok (.slice ga 1 (cg - i)) W := fun W => by
    have := cutW_lh pg n cg i (i + 1) (by omega) (by omega) W
    rw [ec, ei] at this
    exact this
  have cA : Hid (∀ W, Below K2.heap.size K2 W → Calls Try.prog 12 #[.agg #[.slice pa 1 (c - i), .slice qa 1 (d - i)], .slice ga 1 (cg - i), .int .i64 3, .agg #[.int .i64 ss, .int .i64 kk, .int .i64 bb]] W fun e w' => ∃ v, e = .returned (.tuple #[v, .int .i64 0]) ∧ SRes w' v [X] [Y] ∧ Below W.heap.size W w') := fun W hW => by
    have cc := apply_ok pa qa ga 1 (c - i) (d - i) (cg - i) [P.getD i 0] [M.getD i 0] [G.getD i 0] 3 ss kk bb (by omega) (one_R _ (getD_R HN.out.2.2.2.1 i (by rw [HN.out.2.2.2.2.2.1]; exact hi))) (one_R _ (getD_R HN.out.2.2.2.2.1 i (by rw [HN.out.2.2.2.2.2.2.1]; exact hi))) (by unfold InR; omega) hs hk hb (by omega) (by omega) rfl rfl W (na.up hW) (nb.up hW) (nc.up hW)
    rw [HV.out.2.2.2.2.2.2.1, HV.out.2.2.2.2.2.2.2] at cc
    exact cc
  clear ea eb ec na nb nc lC ei
  refine relM [⟨17, 76, TupS 0 [X] [Y]⟩, ⟨18, 58, TupS 0 [X] [Y]⟩, ⟨19, 77, StV [X] [Y]⟩, ⟨21, 13, NewS K2.heap.size 25⟩] 22 109 (by kernel_rfl) rfl rfl [20] (by kernel_rfl) (by kernel_rfl) (fun i0 hi o0 ho c a w v h => ?_) (by rfl) ?_ ?_
  · simp only [List.mem_cons, List.not_mem_nil, or_false] at hi
    rcases hi with rfl
    · cases ho
      exact h
  · intro e he v W W' h hb
    simp only [List.mem_cons, List.not_mem_nil, or_false] at he
    rcases he with rfl | rfl | rfl | rfl
    · exact TupS.up h hb
    · exact TupS.up h hb
    · exact StV.up h hb
    · exact NewS.up h hb
  apply Exists.intro
  refine ⟨?yt1, ?yl1, ?wk1, ?pk1, ?rest1⟩
  case wk1 =>
    intro x
    simp only [List.take_succ_cons, List.take_zero]
    refine relQuiet rfl rfl ?_
    apply Exists.intro
    refine ⟨fun F hF hf K hK => ?_, ?_⟩
    · have hFc := hF.cell
      have hFf := hF.frozen
      go_big_quiet_op
      first | exact hK | (apply Exists.intro; refine ⟨fun _ => ?_, ?_⟩; (· fail); exact hK)
    (try simp only [Act.put, List.setIfInBounds_toArray, List.set_cons_zero, List.set_cons_succ])
    refine relQuiet rfl rfl ?_
    apply Exists.intro
    refine ⟨fun F hF hf K hK => ?_, ?_⟩
    · have hFc := hF.cell
      have hFf := hF.frozen
      go_big_quiet_op
      first | exact hK | (apply Exists.intro; refine ⟨fun _ => ?_, ?_⟩; (· fail); exact hK)
    (try simp only [Act.put, List.setIfInBounds_toArray, List.set_cons_zero, List.set_cons_succ])
    refine relQuiet rfl rfl ?_
    apply Exists.intro
    refine ⟨fun F hF hf K hK => ?_, ?_⟩
    · have hFc := hF.cell
      have hFf := hF.frozen
      go_big_quiet_op
      first | exact hK | (apply Exists.intro; refine ⟨fun _ => ?_, ?_⟩; (· fail); exact hK)
    (try simp only [Act.put, List.setIfInBounds_toArray, List.set_cons_zero, List.set_cons_succ])
    refine relQuiet rfl rfl ?_
    apply Exists.intro
    refine ⟨fun F hF hf K hK => ?_, ?_⟩
    · have hFc := hF.cell
      have hFf := hF.frozen
      go_big_quiet_op
      first | exact hK | (apply Exists.intro; refine ⟨fun _ => ?_, ?_⟩; (· fail); exact hK)
    (try simp only [Act.put, List.setIfInBounds_toArray, List.set_cons_zero, List.set_cons_succ])
    refine relQuiet rfl rfl ?_
    apply Exists.intro
    refine ⟨fun F hF hf K hK => ?_, ?_⟩
    · have hFc := hF.cell
      have hFf := hF.frozen
      go_big_quiet_op
      first | exact hK | (apply Exists.intro; refine ⟨fun _ => ?_, ?_⟩; (· fail); exact hK)
    (try simp only [Act.put, List.setIfInBounds_toArray, List.set_cons_zero, List.set_cons_succ])
    refine relQuiet rfl rfl ?_
    apply Exists.intro
    refine ⟨fun F hF hf K hK => ?_, ?_⟩
    · have hFc := hF.cell
      have hFf := hF.frozen
      go_big_quiet_op
      first | exact hK | (apply Exists.intro; refine ⟨fun _ => ?_, ?_⟩; (· fail); exact hK)
    (try simp only [Act.put, List.setIfInBounds_toArray, List.set_cons_zero, List.set_cons_succ])
    refine relQuiet rfl rfl ?_
    apply Exists.intro
    refine ⟨fun F hF hf K hK => ?_, ?_⟩
    · have hFc := hF.cell
      have hFf := hF.frozen
      go_big_quiet_op
      first | exact hK | (apply Exists.intro; refine ⟨fun _ => ?_, ?_⟩; (· fail); exact hK)
    (try simp only [Act.put, List.setIfInBounds_toArray, List.set_cons_zero, List.set_cons_succ])
    refine relQuiet rfl rfl ?_
    apply Exists.intro
    refine ⟨fun F hF hf K hK => ?_, ?_⟩
    · have hFc := hF.cell
      have hFf := hF.frozen
      go_big_quiet_op
      first | exact hK | (apply Exists.intro; refine ⟨fun _ => ?_, ?_⟩; (· fail); exact hK)
    (try simp only [Act.put, List.setIfInBounds_toArray, List.set_cons_zero, List.set_cons_succ])
    refine relQuiet rfl rfl ?_
    apply Exists.intro
    refine ⟨fun F hF hf K hK => ?_, ?_⟩
    · have hFc := hF.cell
      have hFf := hF.frozen
      go_big_quiet_op
      first | exact hK | (apply Exists.intro; refine ⟨fun _ => ?_, ?_⟩; (· fail); exact hK)
    (try simp only [Act.put, List.setIfInBounds_toArray, List.set_cons_zero, List.set_cons_succ])
    refine relQuiet rfl rfl ?_
    apply Exists.intro
    refine ⟨fun F hF hf K hK => ?_, ?_⟩
    · have hFc := hF.cell
      have hFf := hF.frozen
      go_big_quiet_op
      first | exact hK | (apply Exists.intro; refine ⟨fun _ => ?_, ?_⟩; (· fail); exact hK)
    (try simp only [Act.put, List.setIfInBounds_toArray, List.set_cons_zero, List.set_cons_succ])
    refine relQuiet rfl rfl ?_
    apply Exists.intro
    refine ⟨fun F hF hf K hK => ?_, ?_⟩
    · have hFc := hF.cell
      have hFf := hF.frozen
      go_big_quiet_op
      first | exact hK | (apply Exists.intro; refine ⟨fun _ => ?_, ?_⟩; (· fail); exact hK)
    (try simp only [Act.put, List.setIfInBounds_toArray, List.set_cons_zero, List.set_cons_succ])
    refine relQuiet rfl rfl ?_
    apply Exists.intro
    refine ⟨fun F hF hf K hK => ?_, ?_⟩
    · have hFc := hF.cell
      have hFf := hF.frozen
      go_big_quiet_op
      first | exact hK | (apply Exists.intro; refine ⟨fun _ => ?_, ?_⟩; (· fail); exact hK)
    (try simp only [Act.put, List.setIfInBounds_toArray, List.set_cons_zero, List.set_cons_succ])
    refine relQuiet rfl rfl ?_
    apply Exists.intro
    refine ⟨fun F hF hf K hK => ?_, ?_⟩
    · have hFc := hF.cell
      have hFf := hF.frozen
      go_big_quiet_op
      first | exact hK | (apply Exists.intro; refine ⟨fun _ => ?_, ?_⟩; (· fail); exact hK)
    (try simp only [Act.put, List.setIfInBounds_toArray, List.set_cons_zero, List.set_cons_succ])
    refine relQuiet rfl rfl ?_
    apply Exists.intro
    refine ⟨fun F hF hf K hK => ?_, ?_⟩
    · have hFc := hF.cell
      have hFf := hF.frozen
      go_big_quiet_op
      first | exact hK | (apply Exists.intro; refine ⟨fun _ => ?_, ?_⟩; (· fail); exact hK)
    (try simp only [Act.put, List.setIfInBounds_toArray, List.set_cons_zero, List.set_cons_succ])
    refine relQuiet rfl rfl ?_
    apply Exists.intro
    refine ⟨fun F hF hf K hK => ?_, ?_⟩
    · have hFc := hF.cell
      have hFf := hF.frozen
      go_big_quiet_op
      first | exact hK | (apply Exists.intro; refine ⟨fun _ => ?_, ?_⟩; (· fail); exact hK)
    (try simp only [Act.put, List.setIfInBounds_toArray, List.set_cons_zero, List.set_cons_succ])
    refine relQuiet rfl rfl ?_
    apply Exists.intro
    refine ⟨fun F hF hf K hK => ?_, ?_⟩
    · have hFc := hF.cell
      have hFf := hF.frozen
      go_big_quiet_op
      first | exact hK | (apply Exists.intro; refine ⟨fun _ => ?_, ?_⟩; (· fail); exact hK)
    (try simp only [Act.put, List.setIfInBounds_toArray, List.set_cons_zero, List.set_cons_succ])
    refine relQuiet rfl rfl ?_
    apply Exists.intro
    refine ⟨fun F hF hf K hK => ?_, ?_⟩
    · have hFc := hF.cell
      have hFf := hF.frozen
      go_big_quiet_op
      first | exact hK | (apply Exists.intro; refine ⟨fun _ => ?_, ?_⟩; (· fail); exact hK)
    (try simp only [Act.put, List.setIfInBounds_toArray, List.set_cons_zero, List.set_cons_succ])
    refine relTold rfl rfl ?_ ?_
    · intro F hF hf d
      have hFc := hF.cell
      have hFf := hF.frozen
      simp [yieldsR, yieldsUpon, go_sem]
      refine (cA.out (F d) (hF.below d)).mono ?_
      rintro e' w8 ⟨v8, rfl, hs8, hb8⟩
      exact ⟨_, rfl, ⟨v8, rfl, hs8⟩, hb8⟩
    (try simp only [Act.put, List.setIfInBounds_toArray, List.set_cons_zero, List.set_cons_succ])
    refine relTold rfl rfl ?_ ?_
    · intro F hF hf d
      have hFc := hF.cell
      have hFf := hF.frozen
      have h9 := hf _ List.mem_cons_self (by rfl) d
      simp [yieldsR, yieldsUpon, go_sem]
      exact ⟨h9, Below.refl _ _⟩
    (try simp only [Act.put, List.setIfInBounds_toArray, List.set_cons_zero, List.set_cons_succ])
    refine relTold rfl rfl ?_ ?_
    · intro F hF hf d
      have hFc := hF.cell
      have hFf := hF.frozen
      have h9 := hf _ (List.mem_cons_of_mem _ List.mem_cons_self) (by rfl) d
      obtain ⟨u9, e9, s9⟩ := h9
      simp only [] at e9
      simp [yieldsR, yieldsUpon, go_sem, e9]
      exact ⟨s9, Below.refl _ _⟩
    (try simp only [Act.put, List.setIfInBounds_toArray, List.set_cons_zero, List.set_cons_succ])
    refine relQuiet rfl rfl ?_
    apply Exists.intro
    refine ⟨fun F hF hf K hK => ?_, ?_⟩
    · have hFc := hF.cell
      have hFf := hF.frozen
      have h9 := hf _ (List.mem_cons_of_mem _ List.mem_cons_self) (by rfl)
      obtain ⟨u9, e9, _⟩ := h9 K2
      simp only [] at e9
      go_big_quiet_op
      first | exact hK | (apply Exists.intro; refine ⟨fun _ => ?_, ?_⟩; (· fail); exact hK)
    (try simp only [Act.put, List.setIfInBounds_toArray, List.set_cons_zero, List.set_cons_succ])
    refine relTold rfl rfl ?_ ?_
    · intro F hF hf d
      have hFc := hF.cell
      have hFf := hF.frozen
      simp [yieldsR, yieldsUpon, go_sem]
      exact ⟨⟨(F d).heap.size, rfl, heap_alloc_new _ _, (hF.below d).size⟩, up_alloc _ _⟩
    (try simp only [Act.put, List.setIfInBounds_toArray, List.set_cons_zero, List.set_cons_succ])
    refine relEnd ?_
    exact rfl
  case pk1 =>
    intro x
    simp only [putsK, List.foldl_cons, List.foldl_nil, Act.put, List.setIfInBounds_toArray, List.set_cons_zero, List.set_cons_succ]
  case yt1 =>
    intro i0 hi o0 ho e he W x hx
    simp only [List.mem_cons, List.not_mem_nil, or_false] at hi
    rcases hi with rfl
    · cases he
  case yl1 =>
    intro i0 hi o0 ho hn x hx
    simp only [List.mem_cons, List.not_mem_nil, or_false] at hi
    rcases hi with rfl
    · cases ho
      obtain ⟨W9, u9, e9, _⟩ := hx _ (List.mem_cons_of_mem _ List.mem_cons_self) (by rfl)
      simp only [] at e9
      refine ⟨.int .i64 0, fun t ht => ?_, .inl ⟨by rfl, fun w => ?_⟩⟩
      · cases ht
        rfl
      · simp [execOp, Act.eval, e9, go_sem]
  intro w9 xs hB9 hf
  simp only [List.drop_succ_cons, List.drop_zero]
  obtain ⟨z4, ez4⟩ : ∃ z, xs 17 = z := ⟨_, rfl⟩
  obtain ⟨z5, ez5⟩ : ∃ z, xs 18 = z := ⟨_, rfl⟩
  have hS := hf _ (List.mem_cons_of_mem _ (List.mem_cons_of_mem _ List.mem_cons_self))
  have hN := hf _ (List.mem_cons_of_mem _ (List.mem_cons_of_mem _ (List.mem_cons_of_mem _ List.mem_cons_self)))
  simp only [] at hS hN
  obtain ⟨b, eb, hb_, hbB⟩ := hN
  obtain ⟨p3, n3, c3, q3, m3, d3, e6, l1, l2, x0, x1, hP, hM⟩ := put_state (by decide) hb_ hS
  obtain rfl : n3 = 1 := l1.symm
  obtain rfl : m3 = 1 := l2.symm
  simp only [ez4, ez5, e6, eb]
  have HZ : Hid (Below K2.heap.size K2 (set2 w9 b (.slice p3 1 c3) (.slice q3 1 d3)) ∧ Nums .i64 (set2 w9 b (.slice p3 1 c3) (.slice q3 1 d3)) (.slice p3 1 c3) [X] ∧ Nums .i64 (set2 w9 b (.slice p3 1 c3) (.slice q3 1 d3)) (.slice q3 1 d3) [Y] ∧ Cel (set2 w9 b (.slice p3 1 c3) (.slice q3 1 d3)) b (.slice p3 1 c3) (.slice q3 1 d3)) := ⟨below_put hB9 hbB _ _, hP, hM, x1⟩
  obtain ⟨y0, y1, y2, y3⟩ := x0
  obtain ⟨Z, eZ⟩ : ∃ Z, set2 w9 b (.slice p3 1 c3) (.slice q3 1 d3) = Z := ⟨_, rfl⟩
  rw [eZ] at HZ
  obtain ⟨_, _, _, i1, HP1⟩ := (H2.out.2.2.2.1.up HZ.out.1).lst
  cases i1
  obtain ⟨_, _, _, i2, HM1⟩ := (H2.out.2.2.2.2.up HZ.out.1).lst
  cases i2
  obtain ⟨_, _, _, i3, HP2⟩ := HZ.out.2.1.lst
  cases i3
  obtain ⟨_, _, _, i4, HM2⟩ := HZ.out.2.2.1.lst
  cases i4
  obtain ⟨f1, o1, rfl, r1⟩ := HP1.out.2 i hi
  obtain ⟨f2, o2, rfl, r2⟩ := HM1.out.2 i hi
  obtain ⟨f3, o3, rfl, r3⟩ := HP2.out.2 0 (by omega)
  obtain ⟨f4, o4, rfl, r4⟩ := HM2.out.2 0 (by omega)
  obtain ⟨s0, s1, _, _⟩ := H2.out.2.2.1.up HZ.out.1
  obtain ⟨t0, t1, _, _⟩ := HZ.out.2.2.2
  rw [HV.out.2.2.2.1] at r1
  rw [HV.out.2.2.2.2.1] at r2
  simp at r3 r4
  have k1 := cell_lt r1
  have k2 := cell_lt r2
  have k3 := cell_lt r3
  have k4 := cell_lt r4
  have k5 := cell_lt s0
  have k6 := cell_lt t0
  clear hf hB9 hS hb_ hP hM cA a0 a1 a2 ka HP1 HM1 HP2 HM2 ez4 ez5 e6 eb l1 l2 hc1 hc2 hc3
  go_wp2_with fail
  go_quiet (fail)
  go_wp2
  go_ret
  exact ⟨rfl, below_drew (bstep H2.out.1 HZ.out.1) _⟩
end Go.Proofs.Ytknadgffflhlgaa.Wd
