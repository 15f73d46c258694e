/- OptBounds: what moves one is never more than the bound. -/
import Derived.Test.YtknadgffflhlgaaOpV
import Derived.Test.YtknadgffflhlgaaRefJ
namespace Go.Proofs.Ytknadgffflhlgaa.Wd
open Go.RowKit Fx
set_option linter.unusedVariables false
set_option linter.unusedSimpArgs false
set_option maxRecDepth 8000
set_option maxHeartbeats 8000000
theorem obounds_walk (w : World) (z : Nat → Int) (n c : Nat) (p : Option Addr) (y : Nat → Int) (m d : Nat) (q : Option Addr) (G : List Int) (ng cg : Nat) (pg : Option Addr) (many bb : Int) (h1 : RowN .i64 w p n c z) (h2 : RowN .i64 w q m d y) (h3 : WdsN w pg ng cg G) (hm : -9223372036854775808 ≤ many ∧ many ≤ 9223372036854775807) (hb : -9223372036854775808 ≤ bb ∧ bb ≤ 9223372036854775807) :
    Calls Try.prog 6 #[.agg #[.slice p n c, .slice q m d], .slice pg ng cg, .int .i64 many, .int .i64 bb] w fun e w' => e = .returned (.bool true) ∧ Below w.heap.size w w' := by
  haveI : Nonempty World := ⟨w⟩
  obtain ⟨P, lP, dP, rP⟩ : ∃ P : List Int, P.length = n ∧ Nums .i64 w (.slice p n c) P ∧ RI P := ⟨nlst n z, nlst_len n z, h1.nums, h1.riI⟩
  obtain ⟨M, lM, dM, rM⟩ : ∃ M : List Int, M.length = m ∧ Nums .i64 w (.slice q m d) M ∧ RI M := ⟨nlst m y, nlst_len m y, h2.nums, h2.riI⟩
  have HN : Hid (Nums .i64 w (.slice p n c) P ∧ Nums .i64 w (.slice q m d) M ∧ WdR w pg ng G ∧ RI P ∧ RI M ∧ P.length = n ∧ M.length = m) := ⟨dP, dM, h3.2.2, rP, rM, lP, lM⟩
  clear h1 h2 h3 lP lM dP dM rP rM
  go_enter Try.func6, Try.ntmps6
  go_wp2_with fail
  generalize hW0 : World.alloc _ _ = W0
  have HB0 : Hid (Below w.heap.size w W0) := by rw [← hW0]; exact up_alloc w _
  have XA : Hid (Cel W0 w.heap.size (.slice p n c) (.slice q m d)) := celW hW0 (by simp [go_sem])
  clear hW0
  refine (awake15_any W0).mono ?_
  rintro e w1 ⟨rfl, hB⟩
  have H1 : Hid (Below w.heap.size w w1 ∧ Cel w1 w.heap.size (.slice p n c) (.slice q m d)) := ⟨bstep HB0.out hB, XA.out.up hB⟩
  clear hB HB0 XA
  obtain ⟨a0, a1, _, _⟩ := H1.out.2
  have ka := cell_lt a0
  by_cases t1 : 60 < n
  · have t1' : (60 : Int) < (n : Int) := by omega
    go_wp2
    go_ret
    exact ⟨rfl, H1.out.1⟩
  have t1' : (n : Int) ≤ 60 := by omega
  by_cases t2 : ¬ m = n
  · have t2' : ((m : Int) != (n : Int)) = true := by simpa using (show (m : Int) ≠ (n : Int) by omega)
    go_wp2
    go_ret
    exact ⟨rfl, H1.out.1⟩
  obtain rfl : n = m := by omega
  by_cases t3 : ¬ ng = n
  · have t3' : ((ng : Int) != (n : Int)) = true := by simpa using (show (ng : Int) ≠ (n : Int) by omega)
    go_wp2
    go_ret
    exact ⟨rfl, H1.out.1⟩
  obtain rfl : n = ng := by omega
  by_cases t4 : many < 1
  · skip
    go_wp2
    go_ret
    exact ⟨rfl, H1.out.1⟩
  have t4' : 1 ≤ many := by omega
  by_cases t5 : bb < 1
  · skip
    go_wp2
    go_ret
    exact ⟨rfl, H1.out.1⟩
  have hb1 : 1 ≤ bb := by omega
  obtain ⟨M', eM⟩ : ∃ M', opM M G many bb 0 = M' := ⟨_, rfl⟩
  obtain ⟨P', eP⟩ : ∃ P', opP P M G many 4294967296 bb 0 = P' := ⟨_, rfl⟩
  have HV : Hid (P'.length = n ∧ M'.length = n ∧ n ≤ 60 ∧ ∀ i, i < n → (-bb ≤ M'.getD i 0 ∧ M'.getD i 0 ≤ bb) ∧ P'.getD i 0 = hold (P.getD i 0 - M'.getD i 0) ∧ InR (P.getD i 0) ∧ InR (M'.getD i 0)) := by
    have lG := HN.out.2.2.1.1
    refine ⟨by rw [← eP, opP_len, lG], by rw [← eM, opM_len, lG], by omega, fun i hi => ?_⟩
    have hD : InR (opD G many bb i) := bnd_R hb (ovI_R _ _)
    have e1 : M'.getD i 0 = opD G many bb i := by
      rw [← eM, opM_at _ _ _ _ _ _ (by rw [lG]; exact hi), mS_nought hD]
    rw [e1, ← eP, opP_at _ _ _ _ _ _ _ _ (by rw [lG]; exact hi), mS_nought hD, pS_one _ hD]
    exact ⟨bnd_in hb1, rfl, getD_R HN.out.2.2.2.1 i (by rw [HN.out.2.2.2.2.2.1]; exact hi), hD⟩
  have cc := apply_ok p q pg n c d cg P M G many 4294967296 0 bb (by omega) HN.out.2.2.2.1 HN.out.2.2.2.2.1 hm (by unfold InR; omega) (by unfold InR; omega) hb (by omega) (by omega) HN.out.2.2.2.2.2.1 HN.out.2.2.2.2.2.2 w1 (HN.out.1.up H1.out.1) (HN.out.2.1.up H1.out.1) (HN.out.2.2.1.up H1.out.1)
  rw [eM, eP] at cc
  clear eM eP
  go_wp2_with fail
  refine cc.mono ?_
  rintro e w2 ⟨v, rfl, ⟨p2, n2, c2, q2, m2, d2, rfl, hP, hM⟩, hB⟩
  replace hP := hP.nums
  replace hM := hM.nums
  obtain rfl : n = n2 := by rw [← HV.out.1]; exact nums_len hP
  obtain rfl : n = m2 := by rw [← HV.out.2.1]; exact nums_len hM
  obtain ⟨b2, eb2⟩ : ∃ b, w2.heap.size = b := ⟨_, rfl⟩
  obtain ⟨K2, eK2⟩ : ∃ K, w2.alloc (.cells #[.slice p2 n c2, .slice q2 n d2] 25) = K := ⟨_, rfl⟩
  have hB2 : Below w2.heap.size w2 K2 := by rw [← eK2]; exact up_alloc w2 _
  have H2 : Hid (Below w.heap.size w K2 ∧ Cel K2 w.heap.size (.slice p n c) (.slice q n d) ∧ Cel K2 b2 (.slice p2 n c2) (.slice q2 n d2) ∧ Nums .i64 K2 (.slice p2 n c2) P' ∧ Nums .i64 K2 (.slice q2 n d2) M') := ⟨bstep H1.out.1 (bstep hB hB2), H1.out.2.up (bstep hB hB2), by rw [← eK2, ← eb2]; unfold Cel; simp [go_sem], hP.up hB2, hM.up hB2⟩
  obtain ⟨_, _, _, i1, LP⟩ := (HN.out.1.up H2.out.1).lst
  cases i1
  obtain ⟨_, _, _, i2, LP2⟩ := H2.out.2.2.2.1.lst
  cases i2
  obtain ⟨_, _, _, i3, LM2⟩ := H2.out.2.2.2.2.lst
  cases i3
  (try rw [eb2])
  clear a0 a1 ka hP hM hB hB2 cc
  go_wp2_with fail
  clear eK2 eb2 H1
  go_loopg [11] n (fun gg i wr => ∃ (k : Nat), k ≤ n ∧ gg = n - k ∧ i = .int .i64 (k : Int) ∧ Hid (Below K2.heap.size K2 wr))
  case atStart => exact ⟨0, by omega, by omega, by first | rfl | simp, Below.refl _ _⟩
  case round =>
    obtain ⟨k, hk, hgg, rfl, HB⟩ := hrel
    obtain ⟨R1, eR1⟩ : ∃ R1 : World, R1 = wr := ⟨_, rfl⟩
    subst eR1
    obtain ⟨a0, a1, _, _⟩ := H2.out.2.1.up HB.out
    obtain ⟨x0, x1, _, _⟩ := H2.out.2.2.1.up HB.out
    have ka := cell_lt a0
    have kx := cell_lt x0
    by_cases hkn : k < n
    · have hk' : (k : Int) < (n : Int) := by omega
      obtain ⟨f1, o1, rfl, r1⟩ := LP.out.2 k hkn
      obtain ⟨f2, o2, rfl, r2⟩ := LP2.out.2 k hkn
      obtain ⟨f3, o3, rfl, r3⟩ := LM2.out.2 k hkn
      replace r1 := cell_low r1 HB.out
      replace r2 := cell_low r2 HB.out
      replace r3 := cell_low r3 HB.out
      obtain ⟨⟨b1, b2_⟩, hS, i1, i2⟩ := HV.out.2.2.2 k hkn
      obtain ⟨X, eX⟩ : ∃ X, P.getD k 0 = X := ⟨_, rfl⟩
      obtain ⟨Y, eY⟩ : ∃ X, P'.getD k 0 = X := ⟨_, rfl⟩
      obtain ⟨Z, eZ⟩ : ∃ X, M'.getD k 0 = X := ⟨_, rfl⟩
      rw [eX] at r1 i1 hS
      rw [eY] at r2 hS
      rw [eZ] at r3 b1 b2_ hS i2
      have cS : Hid (∀ W, Calls Try.prog 18 #[.int .i64 X, .int .i64 Z] W fun e w' => e = .returned (.int .i64 Y) ∧ Below W.heap.size W w') := fun W => Rf.sub_ref X Z i1 i2 Y hS.symm W
      have k1 := cell_lt r1
      have k2 := cell_lt r2
      have k3 := cell_lt r3
      have n1 : decide (bb < Z) = false := decide_eq_false (by omega)
      have n2 : decide (Z < -bb) = false := decide_eq_false (by omega)
      clear eX eY eZ hS i1 i2
      go_wp2_with fail
      refine flow 36 97 (by kernel_rfl) rfl rfl (by kernel_rfl) ?_
      apply Exists.intro
      refine ⟨?_, ?_⟩
      · intro F hF
        have hFc := hF.cell
        have hFf := hF.frozen
        simp only [List.take_succ_cons, List.take_zero, List.eraseIdx_cons_succ, List.eraseIdx_cons_zero]
        repeat (go_big_quiet_step (with_reducible exact hF.call (cS.out _)))
        refine wpQuiet_nil ?_
        exact rfl
      · intro W1 hb1
        simp only [List.drop_succ_cons, List.drop_zero]
        have H9 : Hid (Below K2.heap.size K2 W1) := bstep HB.out hb1
        clear r1 r2 r3 cS k1 k2 k3 a0 a1 x0 x1 ka kx hb1
        go_wp2
        go_roundg (n - (k + 1))
        case measure => omega
        case rel => exact ⟨k + 1, by omega, rfl, by first | rfl | simp, H9⟩
    · obtain rfl : k = n := by omega
      go_wp2
      go_ret
      exact ⟨rfl, bstep H2.out.1 HB.out⟩
end Go.Proofs.Ytknadgffflhlgaa.Wd
