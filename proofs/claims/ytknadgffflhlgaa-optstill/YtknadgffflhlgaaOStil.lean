/- OptStill: without a gradient, and nothing kept, nothing moves; a step of nought moves no parameter. -/
import Derived.Test.YtknadgffflhlgaaOpV
import Derived.Test.YtknadgffflhlgaaWmk
namespace Go.Proofs.Ytknadgffflhlgaa.Wd
open Go.RowKit Fx
set_option linter.unusedVariables false
set_option linter.unusedSimpArgs false
set_option maxRecDepth 8000
set_option maxHeartbeats 8000000
theorem rep_at (n i : Nat) : (List.replicate n (0 : Int)).getD i 0 = 0 := by
  rw [List.getD_eq_getElem?_getD, List.getElem?_replicate]
  split <;> rfl
theorem still_D (n i : Nat) : opD (List.replicate n 0) 1 0 i = 0 := by
  unfold opD
  rw [rep_at, bnd_zero, ovI_nought (by decide)]
theorem still_M (M : List Int) (n : Nat) : opM M (List.replicate n 0) 1 0 0 = List.replicate n 0 := by
  refine list_ext0 (by rw [opM_len]) fun i hi => ?_
  rw [opM_len] at hi
  rw [opM_at _ _ _ _ _ _ hi, still_D, rep_at]
  exact mS_nought (by unfold InR; omega)
theorem still_P (P M : List Int) (n : Nat) (hl : P.length = n) (hP : RI P) : opP P M (List.replicate n 0) 1 4294967296 0 0 = P := by
  refine list_ext0 (by rw [opP_len, List.length_replicate, hl]) fun i hi => ?_
  rw [opP_len] at hi
  rw [opP_at _ _ _ _ _ _ _ _ hi, still_D, mS_nought (by unfold InR; omega)]
  exact pS_still _ (getD_R hP i (by rw [List.length_replicate] at hi; omega))
theorem step_nought (P M G : List Int) (many bb kk : Int) (hl : P.length = G.length) (hP : RI P) : opP P M G many 0 bb kk = P := by
  refine list_ext0 (by rw [opP_len, hl]) fun i hi => ?_
  rw [opP_len] at hi
  rw [opP_at _ _ _ _ _ _ _ _ hi]
  exact pS_nought _ (getD_R hP i (by omega))
def MadeF (n : Nat) (v : Value) (W : World) : Prop := ∃ g, v = .slice (some ⟨g, 0, none⟩) n n ∧ Nums .i64 W (.slice (some ⟨g, 0, none⟩) n n) (List.replicate n 0)
theorem MadeF.up {n : Nat} {v : Value} {W W' : World} (h : MadeF n v W) (hB : Below W.heap.size W W') : MadeF n v W' := by
  obtain ⟨g, e, a⟩ := h
  exact ⟨g, e, a.up hB⟩
theorem ostill_walk (w : World) (z : Nat → Int) (n c : Nat) (p : Option Addr) (y : Nat → Int) (m d : Nat) (q : Option Addr) (G : List Int) (ng cg : Nat) (pg : Option Addr) (kk : Int) (h1 : RowN .i64 w p n c z) (h2 : RowN .i64 w q m d y) (h3 : WdsN w pg ng cg G) (hk : -9223372036854775808 ≤ kk ∧ kk ≤ 9223372036854775807) :
    Calls Try.prog 5 #[.agg #[.slice p n c, .slice q m d], .slice pg ng cg, .int .i64 kk] w fun e w' => e = .returned (.bool true) ∧ Below w.heap.size w w' := by
  haveI : Nonempty World := ⟨w⟩
  obtain ⟨P, lP, dP, rP⟩ : ∃ P : List Int, P.length = n ∧ Nums .i64 w (.slice p n c) P ∧ RI P := ⟨nlst n z, nlst_len n z, h1.nums, h1.riI⟩
  obtain ⟨M, lM, dM, rM⟩ : ∃ M : List Int, M.length = m ∧ Nums .i64 w (.slice q m d) M ∧ RI M := ⟨nlst m y, nlst_len m y, h2.nums, h2.riI⟩
  have HN : Hid (Nums .i64 w (.slice p n c) P ∧ Nums .i64 w (.slice q m d) M ∧ WdR w pg ng G ∧ RI P ∧ RI M ∧ P.length = n ∧ M.length = m ∧ InR kk) := ⟨dP, dM, h3.2.2, rP, rM, lP, lM, hk⟩
  clear h1 h2 h3 lP lM dP dM rP rM hk
  go_enter Try.func5, Try.ntmps5
  go_wp2_with fail
  generalize hW0 : World.alloc _ _ = W0
  have HB0 : Hid (Below w.heap.size w W0) := by rw [← hW0]; exact up_alloc w _
  have XA : Hid (Cel W0 w.heap.size (.slice p n c) (.slice q m d)) := celW hW0 (by simp [go_sem])
  clear hW0
  refine (awake15_any W0).mono ?_
  rintro e w1 ⟨rfl, hB⟩
  have H1 : Hid (Below w.heap.size w w1 ∧ Cel w1 w.heap.size (.slice p n c) (.slice q m d)) := ⟨bstep HB0.out hB, XA.out.up hB⟩
  clear hB HB0 XA
  obtain ⟨a0, a1, _, _⟩ := H1.out.2
  have ka := cell_lt a0
  by_cases t1 : 60 < n
  · have t1' : (60 : Int) < (n : Int) := by omega
    go_wp2
    go_ret
    exact ⟨rfl, H1.out.1⟩
  have t1' : (n : Int) ≤ 60 := by omega
  by_cases t2 : ¬ m = n
  · have t2' : ((m : Int) != (n : Int)) = true := by simpa using (show (m : Int) ≠ (n : Int) by omega)
    go_wp2
    go_ret
    exact ⟨rfl, H1.out.1⟩
  obtain rfl : n = m := by omega
  by_cases t3 : ¬ ng = n
  · have t3' : ((ng : Int) != (n : Int)) = true := by simpa using (show (ng : Int) ≠ (n : Int) by omega)
    go_wp2
    go_ret
    exact ⟨rfl, H1.out.1⟩
  obtain rfl : n = ng := by omega
  have hn9 : n ≤ 60 := by omega
  go_wp2_with fail
  have hmw : ∀ W, (Instr.makeSlice 32 (.int .i64 (n : Int)) (.int .i64 (n : Int))).run Try.prog W = .ok (.slice (some ⟨W.heap.size, 0, none⟩) n n) (W.alloc (.cells (madeCells (Value.agg #[.int .i64 0, .int .u64 0]).cells (n * 2)) 30)) := fun W => mkw_run n (by omega) W
  have cA : Hid (∀ W g8, Below w1.heap.size w1 W → WdR W (some ⟨g8, 0, none⟩) n (List.replicate n 0) → Calls Try.prog 12 #[.agg #[.slice p n c, .slice q n d], .slice (some ⟨g8, 0, none⟩) n n, .int .i64 1, .agg #[.int .i64 4294967296, .int .i64 0, .int .i64 0]] W fun e w' => ∃ v, e = .returned (.tuple #[v, .int .i64 0]) ∧ SRes w' v P (List.replicate n 0) ∧ Below W.heap.size W w') := fun W g8 hW hg => by
    have hW' := bstep H1.out.1 hW
    have cc := apply_ok p q (some ⟨g8, 0, none⟩) n c d n P M (List.replicate n 0) 1 4294967296 0 0 (by omega) HN.out.2.2.2.1 HN.out.2.2.2.2.1 (by unfold InR; omega) (by unfold InR; omega) (by unfold InR; omega) (by unfold InR; omega) (by omega) (by omega) HN.out.2.2.2.2.2.1 HN.out.2.2.2.2.2.2.1 W (HN.out.1.up hW') (HN.out.2.1.up hW') hg
    rw [still_P P M n HN.out.2.2.2.2.2.1 HN.out.2.2.2.1, still_M] at cc
    exact cc
  refine relM [⟨4, 39, LitW n (List.replicate n 0)⟩, ⟨6, 41, TupS 0 P (List.replicate n 0)⟩, ⟨7, 34, TupS 0 P (List.replicate n 0)⟩, ⟨8, 42, StV P (List.replicate n 0)⟩, ⟨10, 7, NewS w1.heap.size 25⟩] 11 81 (by kernel_rfl) rfl rfl [9] (by kernel_rfl) (by kernel_rfl) (fun i0 hi o0 ho c a w v h => ?_) (by rfl) ?_ ?_
  · simp only [List.mem_cons, List.not_mem_nil, or_false] at hi
    rcases hi with rfl
    · cases ho
      exact h
  · intro e he v W W' h hb
    simp only [List.mem_cons, List.not_mem_nil, or_false] at he
    rcases he with rfl | rfl | rfl | rfl | rfl
    · exact LitW.up h hb
    · exact TupS.up h hb
    · exact TupS.up h hb
    · exact StV.up h hb
    · exact NewS.up h hb
  apply Exists.intro
  refine ⟨?yt1, ?yl1, ?wk1, ?pk1, ?rest1⟩
  case wk1 =>
    intro x
    simp only [List.take_succ_cons, List.take_zero]
    refine relQuiet rfl rfl ?_
    apply Exists.intro
    refine ⟨fun F hF hf K hK => ?_, ?_⟩
    · have hFc := hF.cell
      have hFf := hF.frozen
      go_big_quiet_op
      first | exact hK | (apply Exists.intro; refine ⟨fun _ => ?_, ?_⟩; (· fail); exact hK)
    (try simp only [Act.put, List.setIfInBounds_toArray, List.set_cons_zero, List.set_cons_succ])
    refine relQuiet rfl rfl ?_
    apply Exists.intro
    refine ⟨fun F hF hf K hK => ?_, ?_⟩
    · have hFc := hF.cell
      have hFf := hF.frozen
      go_big_quiet_op
      first | exact hK | (apply Exists.intro; refine ⟨fun _ => ?_, ?_⟩; (· fail); exact hK)
    (try simp only [Act.put, List.setIfInBounds_toArray, List.set_cons_zero, List.set_cons_succ])
    refine relQuiet rfl rfl ?_
    apply Exists.intro
    refine ⟨fun F hF hf K hK => ?_, ?_⟩
    · have hFc := hF.cell
      have hFf := hF.frozen
      go_big_quiet_op
      first | exact hK | (apply Exists.intro; refine ⟨fun _ => ?_, ?_⟩; (· fail); exact hK)
    (try simp only [Act.put, List.setIfInBounds_toArray, List.set_cons_zero, List.set_cons_succ])
    refine relQuiet rfl rfl ?_
    apply Exists.intro
    refine ⟨fun F hF hf K hK => ?_, ?_⟩
    · have hFc := hF.cell
      have hFf := hF.frozen
      go_big_quiet_op
      first | exact hK | (apply Exists.intro; refine ⟨fun _ => ?_, ?_⟩; (· fail); exact hK)
    (try simp only [Act.put, List.setIfInBounds_toArray, List.set_cons_zero, List.set_cons_succ])
    refine relTold rfl rfl ?_ ?_
    · intro F hF hf d
      have hFc := hF.cell
      have hFf := hF.frozen
      simp [yieldsR, yieldsUpon, go_sem, hmw]
      exact ⟨⟨(F d).heap.size, rfl, made_rd n (F d)⟩, up_alloc _ _⟩
    (try simp only [Act.put, List.setIfInBounds_toArray, List.set_cons_zero, List.set_cons_succ])
    refine relQuiet rfl rfl ?_
    apply Exists.intro
    refine ⟨fun F hF hf K hK => ?_, ?_⟩
    · have hFc := hF.cell
      have hFf := hF.frozen
      go_big_quiet_op
      first | exact hK | (apply Exists.intro; refine ⟨fun _ => ?_, ?_⟩; (· fail); exact hK)
    (try simp only [Act.put, List.setIfInBounds_toArray, List.set_cons_zero, List.set_cons_succ])
    refine relTold rfl rfl ?_ ?_
    · intro F hF hf d
      have hFc := hF.cell
      have hFf := hF.frozen
      have h8 := hf _ List.mem_cons_self (by rfl) d
      obtain ⟨g8, e8, n8⟩ := h8
      simp only [] at e8
      simp [yieldsR, yieldsUpon, go_sem, e8]
      refine (cA.out (F d) g8 (hF.below d) n8).mono ?_
      rintro e' w8 ⟨v8, rfl, hs8, hb8⟩
      exact ⟨_, rfl, ⟨v8, rfl, hs8⟩, hb8⟩
    (try simp only [Act.put, List.setIfInBounds_toArray, List.set_cons_zero, List.set_cons_succ])
    refine relTold rfl rfl ?_ ?_
    · intro F hF hf d
      have hFc := hF.cell
      have hFf := hF.frozen
      have h9 := hf _ (List.mem_cons_of_mem _ List.mem_cons_self) (by rfl) d
      simp [yieldsR, yieldsUpon, go_sem]
      exact ⟨h9, Below.refl _ _⟩
    (try simp only [Act.put, List.setIfInBounds_toArray, List.set_cons_zero, List.set_cons_succ])
    refine relTold rfl rfl ?_ ?_
    · intro F hF hf d
      have hFc := hF.cell
      have hFf := hF.frozen
      have h9 := hf _ (List.mem_cons_of_mem _ (List.mem_cons_of_mem _ List.mem_cons_self)) (by rfl) d
      obtain ⟨u9, e9, s9⟩ := h9
      simp only [] at e9
      simp [yieldsR, yieldsUpon, go_sem, e9]
      exact ⟨s9, Below.refl _ _⟩
    (try simp only [Act.put, List.setIfInBounds_toArray, List.set_cons_zero, List.set_cons_succ])
    refine relQuiet rfl rfl ?_
    apply Exists.intro
    refine ⟨fun F hF hf K hK => ?_, ?_⟩
    · have hFc := hF.cell
      have hFf := hF.frozen
      have h9 := hf _ (List.mem_cons_of_mem _ (List.mem_cons_of_mem _ List.mem_cons_self)) (by rfl)
      obtain ⟨u9, e9, _⟩ := h9 w1
      simp only [] at e9
      go_big_quiet_op
      first | exact hK | (apply Exists.intro; refine ⟨fun _ => ?_, ?_⟩; (· fail); exact hK)
    (try simp only [Act.put, List.setIfInBounds_toArray, List.set_cons_zero, List.set_cons_succ])
    refine relTold rfl rfl ?_ ?_
    · intro F hF hf d
      have hFc := hF.cell
      have hFf := hF.frozen
      simp [yieldsR, yieldsUpon, go_sem]
      exact ⟨⟨(F d).heap.size, rfl, heap_alloc_new _ _, (hF.below d).size⟩, up_alloc _ _⟩
    (try simp only [Act.put, List.setIfInBounds_toArray, List.set_cons_zero, List.set_cons_succ])
    refine relEnd ?_
    exact rfl
  case pk1 =>
    intro x
    simp only [putsK, List.foldl_cons, List.foldl_nil, Act.put, List.setIfInBounds_toArray, List.set_cons_zero, List.set_cons_succ]
  case yt1 =>
    intro i0 hi o0 ho e he W x hx
    simp only [List.mem_cons, List.not_mem_nil, or_false] at hi
    rcases hi with rfl
    · cases he
  case yl1 =>
    intro i0 hi o0 ho hn x hx
    simp only [List.mem_cons, List.not_mem_nil, or_false] at hi
    rcases hi with rfl
    · cases ho
      obtain ⟨W9, u9, e9, _⟩ := hx _ (List.mem_cons_of_mem _ (List.mem_cons_of_mem _ List.mem_cons_self)) (by rfl)
      simp only [] at e9
      refine ⟨.int .i64 0, fun t ht => ?_, .inl ⟨by rfl, fun w => ?_⟩⟩
      · cases ht
        rfl
      · simp [execOp, Act.eval, e9, go_sem]
  intro w9 xs hB9 hf
  simp only [List.drop_succ_cons, List.drop_zero]
  obtain ⟨z2, ez2⟩ : ∃ z, xs 4 = z := ⟨_, rfl⟩
  obtain ⟨z4, ez4⟩ : ∃ z, xs 6 = z := ⟨_, rfl⟩
  obtain ⟨z5, ez5⟩ : ∃ z, xs 7 = z := ⟨_, rfl⟩
  have hS := hf _ (List.mem_cons_of_mem _ (List.mem_cons_of_mem _ (List.mem_cons_of_mem _ List.mem_cons_self)))
  have hN := hf _ (List.mem_cons_of_mem _ (List.mem_cons_of_mem _ (List.mem_cons_of_mem _ (List.mem_cons_of_mem _ List.mem_cons_self))))
  simp only [] at hS hN
  obtain ⟨b, eb, hb_, hbB⟩ := hN
  obtain ⟨p3, n3, c3, q3, m3, d3, e6, l1, l2, x0, x1, hP, hM⟩ := put_state (by decide) hb_ hS
  obtain rfl : n = n3 := by rw [← HN.out.2.2.2.2.2.1]; exact l1
  obtain rfl : n = m3 := by rw [← l2, List.length_replicate]
  simp only [ez2, ez4, ez5, e6, eb]
  have HZ : Hid (Below w1.heap.size w1 (set2 w9 b (.slice p3 n c3) (.slice q3 n d3)) ∧ Nums .i64 (set2 w9 b (.slice p3 n c3) (.slice q3 n d3)) (.slice p3 n c3) P ∧ Nums .i64 (set2 w9 b (.slice p3 n c3) (.slice q3 n d3)) (.slice q3 n d3) (List.replicate n 0) ∧ Cel (set2 w9 b (.slice p3 n c3) (.slice q3 n d3)) b (.slice p3 n c3) (.slice q3 n d3)) := ⟨below_put hB9 hbB _ _, hP, hM, x1⟩
  obtain ⟨y0, y1, y2, y3⟩ := x0
  obtain ⟨Z, eZ⟩ : ∃ Z, set2 w9 b (.slice p3 n c3) (.slice q3 n d3) = Z := ⟨_, rfl⟩
  rw [eZ] at HZ
  have H2 : Hid (Below w.heap.size w Z ∧ Cel Z w.heap.size (.slice p n c) (.slice q n d) ∧ Cel Z b (.slice p3 n c3) (.slice q3 n d3) ∧ Nums .i64 Z (.slice p3 n c3) P ∧ Nums .i64 Z (.slice q3 n d3) (List.replicate n 0)) := ⟨bstep H1.out.1 HZ.out.1, H1.out.2.up HZ.out.1, HZ.out.2.2.2, HZ.out.2.1, HZ.out.2.2.1⟩
  clear hf hB9 hS hb_ hP hM cA a0 a1 ka ez2 ez4 ez5 e6 eb l1 l2 HZ H1 hmw
  obtain ⟨a0, a1, _, _⟩ := H2.out.2.1
  have ka := cell_lt a0
  go_wp2_with fail
  clear eZ y0 y1 y2 y3
  have cc := apply_ok p q pg n c d cg P M G 1 0 kk 0 (by omega) HN.out.2.2.2.1 HN.out.2.2.2.2.1 (by unfold InR; omega) (by unfold InR; omega) HN.out.2.2.2.2.2.2.2 (by unfold InR; omega) (by omega) (by omega) HN.out.2.2.2.2.2.1 HN.out.2.2.2.2.2.2.1 Z (HN.out.1.up H2.out.1) (HN.out.2.1.up H2.out.1) (HN.out.2.2.1.up H2.out.1)
  rw [step_nought P M G 1 0 kk (by rw [HN.out.2.2.2.2.2.1]; exact HN.out.2.2.1.1.symm) HN.out.2.2.2.1] at cc
  refine cc.mono ?_
  rintro e w2 ⟨v, rfl, ⟨p2, n2, c2, q2, m2, d2, rfl, hP, hM⟩, hB⟩
  replace hP := hP.nums
  replace hM := hM.nums
  obtain rfl : n = n2 := by rw [← HN.out.2.2.2.2.2.1]; exact nums_len hP
  obtain ⟨b2, eb2⟩ : ∃ b, w2.heap.size = b := ⟨_, rfl⟩
  obtain ⟨K2, eK2⟩ : ∃ K, w2.alloc (.cells #[.slice p2 n c2, .slice q2 m2 d2] 25) = K := ⟨_, rfl⟩
  have hB2 : Below w2.heap.size w2 K2 := by rw [← eK2]; exact up_alloc w2 _
  have H3 : Hid (Below w.heap.size w K2 ∧ Cel K2 w.heap.size (.slice p n c) (.slice q n d) ∧ Cel K2 b (.slice p3 n c3) (.slice q3 n d3) ∧ Cel K2 b2 (.slice p2 n c2) (.slice q2 m2 d2) ∧ Nums .i64 K2 (.slice p3 n c3) P ∧ Nums .i64 K2 (.slice q3 n d3) (List.replicate n 0) ∧ Nums .i64 K2 (.slice p2 n c2) P ∧ Nums .i64 K2 (.slice p n c) P) := ⟨bstep H2.out.1 (bstep hB hB2), H2.out.2.1.up (bstep hB hB2), H2.out.2.2.1.up (bstep hB hB2), by rw [← eK2, ← eb2]; unfold Cel; simp [go_sem], H2.out.2.2.2.1.up (bstep hB hB2), H2.out.2.2.2.2.up (bstep hB hB2), hP.up hB2, HN.out.1.up (bstep H2.out.1 (bstep hB hB2))⟩
  (try rw [eb2])
  clear a0 a1 ka hP hM hB hB2 cc H2
  obtain ⟨a0, a1, _, _⟩ := H3.out.2.1
  obtain ⟨s0, s1, _, _⟩ := H3.out.2.2.1
  obtain ⟨t0, t1, _, _⟩ := H3.out.2.2.2.1
  have ka := cell_lt a0
  have ks := cell_lt s0
  have kt := cell_lt t0
  go_wp2_with fail
  clear eK2 eb2
  obtain ⟨MK, eMK⟩ : ∃ MK, vals .i64 (List.replicate n 0) = MK := ⟨_, rfl⟩
  have hmk : ∀ W, (Instr.makeSlice 23 (.int .i64 (n : Int)) (.int .i64 (n : Int))).run Try.prog W = .ok (.slice (some ⟨W.heap.size, 0, none⟩) n n) (W.alloc (.cells MK.toArray 27)) := fun W => by rw [← eMK]; exact make_run fixT (by decide) n (by omega) .i64 .i64 W
  have HMK : Hid (vals .i64 (List.replicate n 0) = MK) := eMK
  clear eMK
  have c1 : Hid (∀ W, Below K2.heap.size K2 W → Calls Try.prog 17 #[.slice p3 n c3, .slice p n c] W fun e w' => e = .returned (.bool true) ∧ Below W.heap.size W w') := fun W hW => by
    have cc := alike10_any p3 p n c3 n c P P (by omega) W (H3.out.2.2.2.2.1.up hW) (H3.out.2.2.2.2.2.2.2.up hW)
    rw [decide_eq_true rfl] at cc
    exact cc
  have c2' : Hid (∀ W, Below K2.heap.size K2 W → Calls Try.prog 17 #[.slice p2 n c2, .slice p n c] W fun e w' => e = .returned (.bool true) ∧ Below W.heap.size W w') := fun W hW => by
    have cc := alike10_any p2 p n c2 n c P P (by omega) W (H3.out.2.2.2.2.2.2.1.up hW) (H3.out.2.2.2.2.2.2.2.up hW)
    rw [decide_eq_true rfl] at cc
    exact cc
  have c3' : Hid (∀ W v, Below K2.heap.size K2 W → MadeF n v W → Calls Try.prog 17 #[.slice q3 n d3, v] W fun e w' => e = .returned (.bool true) ∧ Below W.heap.size W w') := fun W v hW hg => by
    obtain ⟨g8, rfl, hg⟩ := hg
    have cc := alike10_any q3 (some ⟨g8, 0, none⟩) n d3 n n _ _ (by omega) W (H3.out.2.2.2.2.2.1.up hW) hg
    rw [decide_eq_true rfl] at cc
    exact cc
  refine rel [⟨19, 71, MadeF n⟩] 29 81 (by kernel_rfl) rfl rfl (by kernel_rfl) (by rfl) ?_ ?_
  · intro e he v W W' h hb
    simp only [List.mem_cons, List.not_mem_nil, or_false] at he
    subst he
    exact MadeF.up h hb
  apply Exists.intro
  refine ⟨fun x => ?_, ?_, ?_⟩
  · simp only [List.take_succ_cons, List.take_zero]
    refine relQuiet rfl rfl ?_
    apply Exists.intro
    refine ⟨fun F hF hf K hK => ?_, ?_⟩
    · have hFc := hF.cell
      have hFf := hF.frozen
      go_big_quiet_op
      first | exact hK | (apply Exists.intro; refine ⟨fun _ => ?_, ?_⟩; (· fail); exact hK)
    (try simp only [Act.put, List.setIfInBounds_toArray, List.set_cons_zero, List.set_cons_succ])
    refine relQuiet rfl rfl ?_
    apply Exists.intro
    refine ⟨fun F hF hf K hK => ?_, ?_⟩
    · have hFc := hF.cell
      have hFf := hF.frozen
      go_big_quiet_op
      first | exact hK | (apply Exists.intro; refine ⟨fun _ => ?_, ?_⟩; (· fail); exact hK)
    (try simp only [Act.put, List.setIfInBounds_toArray, List.set_cons_zero, List.set_cons_succ])
    refine relQuiet rfl rfl ?_
    apply Exists.intro
    refine ⟨fun F hF hf K hK => ?_, ?_⟩
    · have hFc := hF.cell
      have hFf := hF.frozen
      go_big_quiet_op
      first | exact hK | (apply Exists.intro; refine ⟨fun _ => ?_, ?_⟩; (· fail); exact hK)
    (try simp only [Act.put, List.setIfInBounds_toArray, List.set_cons_zero, List.set_cons_succ])
    refine relQuiet rfl rfl ?_
    apply Exists.intro
    refine ⟨fun F hF hf K hK => ?_, ?_⟩
    · have hFc := hF.cell
      have hFf := hF.frozen
      go_big_quiet_op
      first | exact hK | (apply Exists.intro; refine ⟨fun _ => ?_, ?_⟩; (· fail); exact hK)
    (try simp only [Act.put, List.setIfInBounds_toArray, List.set_cons_zero, List.set_cons_succ])
    refine relQuiet rfl rfl ?_
    apply Exists.intro
    refine ⟨fun F hF hf K hK => ?_, ?_⟩
    · have hFc := hF.cell
      have hFf := hF.frozen
      go_big_quiet_op
      first | exact hK | (apply Exists.intro; refine ⟨fun _ => ?_, ?_⟩; (· fail); exact hK)
    (try simp only [Act.put, List.setIfInBounds_toArray, List.set_cons_zero, List.set_cons_succ])
    refine relQuiet rfl rfl ?_
    apply Exists.intro
    refine ⟨fun F hF hf K hK => ?_, ?_⟩
    · have hFc := hF.cell
      have hFf := hF.frozen
      go_big_quiet_op
      first | exact hK | (apply Exists.intro; refine ⟨fun _ => ?_, ?_⟩; (· fail); exact hK)
    (try simp only [Act.put, List.setIfInBounds_toArray, List.set_cons_zero, List.set_cons_succ])
    refine relQuiet rfl rfl ?_
    apply Exists.intro
    refine ⟨fun F hF hf K hK => ?_, ?_⟩
    · have hFc := hF.cell
      have hFf := hF.frozen
      go_big_quiet_op
      first | exact hK | (apply Exists.intro; refine ⟨fun _ => ?_, ?_⟩; (· fail); exact hK)
    (try simp only [Act.put, List.setIfInBounds_toArray, List.set_cons_zero, List.set_cons_succ])
    refine relQuiet rfl rfl ?_
    apply Exists.intro
    refine ⟨fun F hF hf K hK => ?_, ?_⟩
    · have hFc := hF.cell
      have hFf := hF.frozen
      go_big_quiet_op
      first | exact hK | (apply Exists.intro; refine ⟨fun _ => ?_, ?_⟩; (· fail); exact hK)
    (try simp only [Act.put, List.setIfInBounds_toArray, List.set_cons_zero, List.set_cons_succ])
    refine relQuiet rfl rfl ?_
    apply Exists.intro
    refine ⟨fun F hF hf K hK => ?_, ?_⟩
    · have hFc := hF.cell
      have hFf := hF.frozen
      go_big_quiet_op
      first | exact hK | (apply Exists.intro; refine ⟨fun _ => ?_, ?_⟩; (· fail); exact hK)
    (try simp only [Act.put, List.setIfInBounds_toArray, List.set_cons_zero, List.set_cons_succ])
    refine relQuiet rfl rfl ?_
    apply Exists.intro
    refine ⟨fun F hF hf K hK => ?_, ?_⟩
    · have hFc := hF.cell
      have hFf := hF.frozen
      go_big_quiet_op
      first | exact hK | (apply Exists.intro; refine ⟨fun _ => ?_, ?_⟩; (· fail); exact hK)
    (try simp only [Act.put, List.setIfInBounds_toArray, List.set_cons_zero, List.set_cons_succ])
    refine relQuiet rfl rfl ?_
    apply Exists.intro
    refine ⟨fun F hF hf K hK => ?_, ?_⟩
    · have hFc := hF.cell
      have hFf := hF.frozen
      go_big_quiet_op
      first | exact hK | (apply Exists.intro; refine ⟨fun _ => ?_, ?_⟩; (· fail); exact hK)
    (try simp only [Act.put, List.setIfInBounds_toArray, List.set_cons_zero, List.set_cons_succ])
    refine relQuiet rfl rfl ?_
    apply Exists.intro
    refine ⟨fun F hF hf K hK => ?_, ?_⟩
    · have hFc := hF.cell
      have hFf := hF.frozen
      go_big_quiet_op
      first | exact hK | (apply Exists.intro; refine ⟨fun _ => ?_, ?_⟩; (· with_reducible exact hF.call (c1.out _ (hF.below _))); exact hK)
    (try simp only [Act.put, List.setIfInBounds_toArray, List.set_cons_zero, List.set_cons_succ])
    refine relQuiet rfl rfl ?_
    apply Exists.intro
    refine ⟨fun F hF hf K hK => ?_, ?_⟩
    · have hFc := hF.cell
      have hFf := hF.frozen
      go_big_quiet_op
      first | exact hK | (apply Exists.intro; refine ⟨fun _ => ?_, ?_⟩; (· fail); exact hK)
    (try simp only [Act.put, List.setIfInBounds_toArray, List.set_cons_zero, List.set_cons_succ])
    refine relQuiet rfl rfl ?_
    apply Exists.intro
    refine ⟨fun F hF hf K hK => ?_, ?_⟩
    · have hFc := hF.cell
      have hFf := hF.frozen
      go_big_quiet_op
      first | exact hK | (apply Exists.intro; refine ⟨fun _ => ?_, ?_⟩; (· fail); exact hK)
    (try simp only [Act.put, List.setIfInBounds_toArray, List.set_cons_zero, List.set_cons_succ])
    refine relQuiet rfl rfl ?_
    apply Exists.intro
    refine ⟨fun F hF hf K hK => ?_, ?_⟩
    · have hFc := hF.cell
      have hFf := hF.frozen
      go_big_quiet_op
      first | exact hK | (apply Exists.intro; refine ⟨fun _ => ?_, ?_⟩; (· fail); exact hK)
    (try simp only [Act.put, List.setIfInBounds_toArray, List.set_cons_zero, List.set_cons_succ])
    refine relQuiet rfl rfl ?_
    apply Exists.intro
    refine ⟨fun F hF hf K hK => ?_, ?_⟩
    · have hFc := hF.cell
      have hFf := hF.frozen
      go_big_quiet_op
      first | exact hK | (apply Exists.intro; refine ⟨fun _ => ?_, ?_⟩; (· fail); exact hK)
    (try simp only [Act.put, List.setIfInBounds_toArray, List.set_cons_zero, List.set_cons_succ])
    refine relQuiet rfl rfl ?_
    apply Exists.intro
    refine ⟨fun F hF hf K hK => ?_, ?_⟩
    · have hFc := hF.cell
      have hFf := hF.frozen
      go_big_quiet_op
      first | exact hK | (apply Exists.intro; refine ⟨fun _ => ?_, ?_⟩; (· fail); exact hK)
    (try simp only [Act.put, List.setIfInBounds_toArray, List.set_cons_zero, List.set_cons_succ])
    refine relQuiet rfl rfl ?_
    apply Exists.intro
    refine ⟨fun F hF hf K hK => ?_, ?_⟩
    · have hFc := hF.cell
      have hFf := hF.frozen
      go_big_quiet_op
      first | exact hK | (apply Exists.intro; refine ⟨fun _ => ?_, ?_⟩; (· fail); exact hK)
    (try simp only [Act.put, List.setIfInBounds_toArray, List.set_cons_zero, List.set_cons_succ])
    refine relQuiet rfl rfl ?_
    apply Exists.intro
    refine ⟨fun F hF hf K hK => ?_, ?_⟩
    · have hFc := hF.cell
      have hFf := hF.frozen
      go_big_quiet_op
      first | exact hK | (apply Exists.intro; refine ⟨fun _ => ?_, ?_⟩; (· fail); exact hK)
    (try simp only [Act.put, List.setIfInBounds_toArray, List.set_cons_zero, List.set_cons_succ])
    refine relTold rfl rfl ?_ ?_
    · intro F hF hf d
      have hFc := hF.cell
      have hFf := hF.frozen
      simp [yieldsR, yieldsUpon, go_sem, hmk]
      exact ⟨⟨(F d).heap.size, rfl, by rw [← HMK.out]; exact nums_lit (k := .i64) (F d) (List.replicate n 0) n (0, 0) (by simp)⟩, up_alloc _ _⟩
    (try simp only [Act.put, List.setIfInBounds_toArray, List.set_cons_zero, List.set_cons_succ])
    refine relQuiet rfl rfl ?_
    apply Exists.intro
    refine ⟨fun F hF hf K hK => ?_, ?_⟩
    · have hFc := hF.cell
      have hFf := hF.frozen
      have h8 : ∀ d, MadeF n (x 19) (F d) := fun d => hf _ List.mem_cons_self (by rfl) d
      go_big_quiet_op
      first | exact hK | (apply Exists.intro; refine ⟨fun _ => ?_, ?_⟩; (· exact hF.call (c3'.out _ _ (hF.below _) (h8 _))); exact hK)
    (try simp only [Act.put, List.setIfInBounds_toArray, List.set_cons_zero, List.set_cons_succ])
    refine relQuiet rfl rfl ?_
    apply Exists.intro
    refine ⟨fun F hF hf K hK => ?_, ?_⟩
    · have hFc := hF.cell
      have hFf := hF.frozen
      go_big_quiet_op
      first | exact hK | (apply Exists.intro; refine ⟨fun _ => ?_, ?_⟩; (· fail); exact hK)
    (try simp only [Act.put, List.setIfInBounds_toArray, List.set_cons_zero, List.set_cons_succ])
    refine relQuiet rfl rfl ?_
    apply Exists.intro
    refine ⟨fun F hF hf K hK => ?_, ?_⟩
    · have hFc := hF.cell
      have hFf := hF.frozen
      go_big_quiet_op
      first | exact hK | (apply Exists.intro; refine ⟨fun _ => ?_, ?_⟩; (· fail); exact hK)
    (try simp only [Act.put, List.setIfInBounds_toArray, List.set_cons_zero, List.set_cons_succ])
    refine relQuiet rfl rfl ?_
    apply Exists.intro
    refine ⟨fun F hF hf K hK => ?_, ?_⟩
    · have hFc := hF.cell
      have hFf := hF.frozen
      go_big_quiet_op
      first | exact hK | (apply Exists.intro; refine ⟨fun _ => ?_, ?_⟩; (· fail); exact hK)
    (try simp only [Act.put, List.setIfInBounds_toArray, List.set_cons_zero, List.set_cons_succ])
    refine relQuiet rfl rfl ?_
    apply Exists.intro
    refine ⟨fun F hF hf K hK => ?_, ?_⟩
    · have hFc := hF.cell
      have hFf := hF.frozen
      go_big_quiet_op
      first | exact hK | (apply Exists.intro; refine ⟨fun _ => ?_, ?_⟩; (· fail); exact hK)
    (try simp only [Act.put, List.setIfInBounds_toArray, List.set_cons_zero, List.set_cons_succ])
    refine relQuiet rfl rfl ?_
    apply Exists.intro
    refine ⟨fun F hF hf K hK => ?_, ?_⟩
    · have hFc := hF.cell
      have hFf := hF.frozen
      go_big_quiet_op
      first | exact hK | (apply Exists.intro; refine ⟨fun _ => ?_, ?_⟩; (· fail); exact hK)
    (try simp only [Act.put, List.setIfInBounds_toArray, List.set_cons_zero, List.set_cons_succ])
    refine relQuiet rfl rfl ?_
    apply Exists.intro
    refine ⟨fun F hF hf K hK => ?_, ?_⟩
    · have hFc := hF.cell
      have hFf := hF.frozen
      go_big_quiet_op
      first | exact hK | (apply Exists.intro; refine ⟨fun _ => ?_, ?_⟩; (· fail); exact hK)
    (try simp only [Act.put, List.setIfInBounds_toArray, List.set_cons_zero, List.set_cons_succ])
    refine relQuiet rfl rfl ?_
    apply Exists.intro
    refine ⟨fun F hF hf K hK => ?_, ?_⟩
    · have hFc := hF.cell
      have hFf := hF.frozen
      go_big_quiet_op
      first | exact hK | (apply Exists.intro; refine ⟨fun _ => ?_, ?_⟩; (· with_reducible exact hF.call (c2'.out _ (hF.below _))); exact hK)
    (try simp only [Act.put, List.setIfInBounds_toArray, List.set_cons_zero, List.set_cons_succ])
    refine relQuiet rfl rfl ?_
    apply Exists.intro
    refine ⟨fun F hF hf K hK => ?_, ?_⟩
    · have hFc := hF.cell
      have hFf := hF.frozen
      go_big_quiet_op
      first | exact hK | (apply Exists.intro; refine ⟨fun _ => ?_, ?_⟩; (· fail); exact hK)
    (try simp only [Act.put, List.setIfInBounds_toArray, List.set_cons_zero, List.set_cons_succ])
    refine relEnd ?_
    exact rfl
  · exact fun x => rfl
  · intro w9 xs hB9 hf
    simp only [List.drop_succ_cons, List.drop_zero]
    have H9 : Hid (Below w.heap.size w w9) := bstep H3.out.1 hB9
    obtain ⟨z9, ez9⟩ : ∃ z, xs 19 = z := ⟨_, rfl⟩
    simp only [ez9]
    clear hf hB9 hmk c1 c2' c3' a0 a1 s0 s1 t0 t1 ka ks kt ez9
    go_wp2
    go_ret
    exact ⟨rfl, H9.out⟩
end Go.Proofs.Ytknadgffflhlgaa.Wd
