/- Tensors: what the law's great, row and awake hand back. -/
import Derived.Test.YtbndiadgnglkhaaTenF
import Derived.Test.YtbndiadgnglkhaaTenP
namespace Go.Proofs.Ytbndiadgnglkhaa.Wd
open Go.RowKit
set_option linter.unusedVariables false
set_option linter.unusedSimpArgs false
set_option maxHeartbeats 1000000 in
theorem great_any (p p2 : Option Addr) (n c n2 c2 : Nat) (most : Nat) (hm : most ≤ 1000) (w : World) :
    Calls Try.prog 17 #[.agg #[.slice p n c, .slice p2 n2 c2], .int .i64 (most : Int)] w fun e w' => e = .returned (.bool (decide (10 < n ∨ most < n2))) ∧ Below w.heap.size w w' := by
  have hm' : (most : Int) ≤ 1000 := by omega
  by_cases h1 : 10 < n
  · rw [decide_eq_true (.inl h1)]
    have h1' : (10 : Int) < (n : Int) := by omega
    go_enter Try.func17, Try.ntmps17
    go_wp2
    go_ret
    exact ⟨rfl, by go_grown⟩
  · have h1' : (n : Int) ≤ 10 := by omega
    by_cases h2 : most < n2
    · rw [decide_eq_true (.inr h2)]
      have h2' : (most : Int) < (n2 : Int) := by omega
      go_enter Try.func17, Try.ntmps17
      go_wp2
      go_ret
      exact ⟨by simp [h2], by go_grown⟩
    · rw [decide_eq_false (fun h => h.elim h1 h2)]
      have h2' : (n2 : Int) ≤ (most : Int) := by omega
      go_enter Try.func17, Try.ntmps17
      go_wp2
      go_ret
      exact ⟨by simp [h2]; exact h1', by go_grown⟩
/-- A row: its one side is told anew, its numbers are those that were handed in. -/
def RowT (W : World) (v : Value) (p : Option Addr) (n c : Nat) (x : List Int) : Prop := ∃ g, v = .agg #[.slice (some ⟨g, 0, none⟩) 1 1, .slice p n c] ∧ Nums .i64 W (.slice (some ⟨g, 0, none⟩) 1 1) [(n : Int)] ∧ Nums .i64 W (.slice p n c) x
theorem RowT.up {W W' : World} {v : Value} {p : Option Addr} {n c : Nat} {x : List Int} (h : RowT W v p n c x) (hB : Below W.heap.size W W') : RowT W' v p n c x := by
  obtain ⟨g, e, h1, h2⟩ := h
  exact ⟨g, e, h1.up hB, h2.up hB⟩
set_option maxHeartbeats 1000000 in
theorem row_any (p : Option Addr) (n c : Nat) (x : List Int) (w : World) (h : Nums .i64 w (.slice p n c) x) :
    Calls Try.prog 11 #[.slice p n c] w fun e w' => ∃ v, e = .returned v ∧ RowT w' v p n c x ∧ Below w.heap.size w w' := by
  have H : Hid (Nums .i64 w (.slice p n c) x) := h
  clear h
  go_enter Try.func11, Try.ntmps11
  go_wp2
  refine bodyPost_ret (v := .agg #[.slice (some ⟨w.heap.size + 1, 0, none⟩) 1 1, .slice p n c]) (by simp [results, Try.results11, go_sem]) rfl ⟨_, rfl, ⟨_, rfl, ?_, ?_⟩, by go_grown⟩
  · refine .inr ⟨_, 1, rfl, fun j u hj => ?_⟩
    have hj0 : j = 0 := by
      rcases j with _ | j
      · rfl
      · simp [vals] at hj
    subst hj0
    simp [vals] at hj
    subst hj
    rw [addr_plus]
    simp [go_sem]
  · exact H.out.up (by go_grown)
theorem awN : newE [2, 3] = 0 ∧ newD [2, 3] = [2, 3] ∧ newV [2, 3] 4294967296 = [4294967296, 4294967296, 4294967296, 4294967296, 4294967296, 4294967296] := by decide +kernel
theorem awF : foldE [2, 3] [4294967296, 4294967296, 4294967296, 4294967296, 4294967296, 4294967296] [3] = 0 ∧ foldD [2, 3] [4294967296, 4294967296, 4294967296, 4294967296, 4294967296, 4294967296] [3] = [3] ∧ foldV [2, 3] [4294967296, 4294967296, 4294967296, 4294967296, 4294967296, 4294967296] [3] = [8589934592, 8589934592, 8589934592] := by decide +kernel
theorem awP : decide (isP [2, 3] [4294967296, 4294967296, 4294967296, 4294967296, 4294967296, 4294967296]) = true := by decide +kernel
/-- An own literal of three numbers. -/
def Lit3 (v : Value) (W : World) : Prop := ∃ g, v = .slice (some ⟨g, 0, none⟩) 3 3 ∧ Nums .i64 W v [8589934592, 8589934592, 8589934592]
def Row3 (v : Value) (W : World) : Prop := ∃ p c, RowT W v p 3 c [8589934592, 8589934592, 8589934592]
set_option maxRecDepth 8000 in
set_option maxHeartbeats 4000000 in
theorem tawake_any (w : World) :
    Calls Try.prog 9 #[] w fun e w' => e = .returned (.bool true) ∧ Below w.heap.size w w' := by
  have H1 : Hid (Nums .i64 (w.alloc (.cells #[.int .i64 2, .int .i64 3] 3)) (.slice (some ⟨w.heap.size, 0, none⟩) 2 2) [2, 3]) := nums_lit (k := .i64) w [2, 3] 2 (0, 0) rfl
  have cN := tnew_any _ [2, 3] (RI_lit (by decide +kernel)) 4294967296 _ H1.out
  rw [awN.1, awN.2.1, awN.2.2] at cN
  haveI : Nonempty World := ⟨w⟩
  go_enter Try.func9, Try.ntmps9
  go_wp2_with fail
  refine cN.mono ?_
  rintro e w1 ⟨v1, rfl, ⟨s1, t1, rfl, hs1, ht1⟩, hB1⟩
  obtain ⟨p1, n1, c1, rfl, L1⟩ := hs1.nums.lst
  obtain ⟨p2, n2, c2, rfl, L2⟩ := ht1.nums.lst
  obtain rfl : 2 = n1 := L1.out.1
  obtain rfl : 6 = n2 := L2.out.1
  have HB1 : Hid (Below w.heap.size w w1) := bstep (up_alloc w _) hB1
  have HT1 : Hid (Nums .i64 w1 (.slice p1 2 c1) [2, 3] ∧ Nums .i64 w1 (.slice p2 6 c2) [4294967296, 4294967296, 4294967296, 4294967296, 4294967296, 4294967296]) := ⟨hs1.nums, ht1.nums⟩
  clear cN hs1 ht1 hB1 H1 L1 L2
  go_wp2_with fail
  generalize hW2 : World.alloc _ _ = W2
  have hB2 : Below w1.heap.size w1 W2 := by rw [← hW2]; exact blit (up_alloc w1 _) _
  have H2 : Hid (Nums .i64 W2 (.slice (some ⟨w1.heap.size + 1, 0, none⟩) 1 1) [3]) := by rw [← hW2]; exact nums_lit2 (k := .i64) w1 _ [3] 1 (0, 0) rfl
  have X2 : Hid (Cel W2 w1.heap.size (.slice p1 2 c1) (.slice p2 6 c2)) := by show Cel _ _ _ _; unfold Cel; rw [← hW2]; simp [go_sem]
  have HB2 : Hid (Below w.heap.size w W2) := bstep HB1.out hB2
  have HT2 : Hid (Nums .i64 W2 (.slice p1 2 c1) [2, 3] ∧ Nums .i64 W2 (.slice p2 6 c2) [4294967296, 4294967296, 4294967296, 4294967296, 4294967296, 4294967296]) := ⟨HT1.out.1.up hB2, HT1.out.2.up hB2⟩
  have cF := tfold_any p1 p2 _ 2 c1 6 c2 1 1 [2, 3] [4294967296, 4294967296, 4294967296, 4294967296, 4294967296, 4294967296] [3] (RI_lit (by decide +kernel)) (RI_lit (by decide +kernel)) (RI_lit (by decide +kernel)) W2 HT2.out.1 HT2.out.2 H2.out
  rw [awF.1, awF.2.1, awF.2.2] at cF
  clear hW2 hB2 HT1 HB1
  refine cF.mono ?_
  rintro e w3 ⟨v3, rfl, ⟨s3, t3, rfl, hs3, ht3⟩, hB3⟩
  obtain ⟨p3, n3, c3, rfl, L3⟩ := hs3.nums.lst
  obtain ⟨p4, n4, c4, rfl, L4⟩ := ht3.nums.lst
  obtain rfl : 1 = n3 := L3.out.1
  obtain rfl : 3 = n4 := L4.out.1
  have HB3 : Hid (Below w.heap.size w w3) := bstep HB2.out hB3
  have HT3 : Hid (Nums .i64 w3 (.slice p3 1 c3) [3] ∧ Nums .i64 w3 (.slice p4 3 c4) [8589934592, 8589934592, 8589934592]) := ⟨hs3.nums, ht3.nums⟩
  have HT13 : Hid (Nums .i64 w3 (.slice p1 2 c1) [2, 3] ∧ Nums .i64 w3 (.slice p2 6 c2) [4294967296, 4294967296, 4294967296, 4294967296, 4294967296, 4294967296]) := ⟨HT2.out.1.up hB3, HT2.out.2.up hB3⟩
  have X3 : Hid (Cel w3 w1.heap.size (.slice p1 2 c1) (.slice p2 6 c2)) := X2.out.up hB3
  clear cF hs3 ht3 hB3 L3 L4 H2
  go_wp2_with fail
  generalize hW4 : World.alloc _ _ = W4
  have hB4 : Below w3.heap.size w3 W4 := by rw [← hW4]; exact up_alloc w3 _
  have X4 : Hid (Cel W4 w3.heap.size (.slice p3 1 c3) (.slice p4 3 c4)) := by show Cel _ _ _ _; unfold Cel; rw [← hW4]; simp [go_sem]
  obtain ⟨a0, a1, _, _⟩ := X3.out.up hB4
  obtain ⟨b0, b1, _, _⟩ := X4.out
  have z0 := cell_lt a0
  have z1 := cell_lt b0
  have HB4 : Hid (Below w.heap.size w W4) := bstep HB3.out hB4
  have cG : ∀ W, Below W4.heap.size W4 W → Calls Try.prog 22 #[.agg #[.slice p1 2 c1, .slice p2 6 c2]] W fun e w' => e = .returned (.bool true) ∧ Below W.heap.size W w' := fun W hW => by
    have := tgood_any _ _ [2, 3] [4294967296, 4294967296, 4294967296, 4294967296, 4294967296, 4294967296] (RI_lit (by decide +kernel)) W (HT13.out.1.up (bstep hB4 hW)) (HT13.out.2.up (bstep hB4 hW))
    rw [awP] at this
    exact this
  have HS : Hid (∀ W v, Below W4.heap.size W4 W → Row3 v W → Calls Try.prog 16 #[.agg #[.slice p3 1 c3, .slice p4 3 c4], v] W fun e w' => e = .returned (.bool true) ∧ Below W.heap.size W w') := fun W v hW hv => by
    obtain ⟨p, c, g, rfl, h1, h2⟩ := hv
    have := tsame_any _ _ _ _ [3] [8589934592, 8589934592, 8589934592] [3] [8589934592, 8589934592, 8589934592] (by decide) (by decide) W (HT3.out.1.up (bstep hB4 hW)) (HT3.out.2.up (bstep hB4 hW)) h1 h2
    rw [decide_eq_true ⟨rfl, rfl⟩] at this
    exact this
  clear hW4 hB4 HT3 HT13 X3 X4 HB3 HT2 X2
  refine rel [⟨18, 34, Lit3⟩, ⟨19, 35, Row3⟩] 22 38 (by kernel_rfl) rfl rfl (by kernel_rfl) (by rfl) ?_ ?_
  · intro e he v W W' h hb
    simp only [List.mem_cons, List.not_mem_nil, or_false] at he
    rcases he with rfl | rfl
    · obtain ⟨g, e1, h1⟩ := h
      exact ⟨g, e1, h1.up hb⟩
    · obtain ⟨p, c, h1⟩ := h
      exact ⟨p, c, h1.up hb⟩
  apply Exists.intro
  refine ⟨fun x => ?_, ?_, ?_⟩
  · simp only [List.take_succ_cons, List.take_zero]
    refine relQuiet rfl rfl ?_
    apply Exists.intro
    refine ⟨fun F hF hf K hK => ?_, ?_⟩
    · have hFc := hF.cell
      have hFf := hF.frozen
      go_big_quiet_op
      first | exact hK | (apply Exists.intro; refine ⟨fun _ => ?_, ?_⟩; (· fail); exact hK)
    (try simp only [Act.put, List.setIfInBounds_toArray, List.set_cons_zero, List.set_cons_succ])
    refine relQuiet rfl rfl ?_
    apply Exists.intro
    refine ⟨fun F hF hf K hK => ?_, ?_⟩
    · have hFc := hF.cell
      have hFf := hF.frozen
      go_big_quiet_op
      first | exact hK | (apply Exists.intro; refine ⟨fun _ => ?_, ?_⟩; (· fail); exact hK)
    (try simp only [Act.put, List.setIfInBounds_toArray, List.set_cons_zero, List.set_cons_succ])
    refine relQuiet rfl rfl ?_
    apply Exists.intro
    refine ⟨fun F hF hf K hK => ?_, ?_⟩
    · have hFc := hF.cell
      have hFf := hF.frozen
      go_big_quiet_op
      first | exact hK | (apply Exists.intro; refine ⟨fun _ => ?_, ?_⟩; (· fail); exact hK)
    (try simp only [Act.put, List.setIfInBounds_toArray, List.set_cons_zero, List.set_cons_succ])
    refine relQuiet rfl rfl ?_
    apply Exists.intro
    refine ⟨fun F hF hf K hK => ?_, ?_⟩
    · have hFc := hF.cell
      have hFf := hF.frozen
      go_big_quiet_op
      first | exact hK | (apply Exists.intro; refine ⟨fun _ => ?_, ?_⟩; (· fail); exact hK)
    (try simp only [Act.put, List.setIfInBounds_toArray, List.set_cons_zero, List.set_cons_succ])
    refine relQuiet rfl rfl ?_
    apply Exists.intro
    refine ⟨fun F hF hf K hK => ?_, ?_⟩
    · have hFc := hF.cell
      have hFf := hF.frozen
      go_big_quiet_op
      first | exact hK | (apply Exists.intro; refine ⟨fun _ => ?_, ?_⟩; (· exact hF.call (cG _ (hF.below _))); exact hK)
    (try simp only [Act.put, List.setIfInBounds_toArray, List.set_cons_zero, List.set_cons_succ])
    refine relQuiet rfl rfl ?_
    apply Exists.intro
    refine ⟨fun F hF hf K hK => ?_, ?_⟩
    · have hFc := hF.cell
      have hFf := hF.frozen
      go_big_quiet_op
      first | exact hK | (apply Exists.intro; refine ⟨fun _ => ?_, ?_⟩; (· fail); exact hK)
    (try simp only [Act.put, List.setIfInBounds_toArray, List.set_cons_zero, List.set_cons_succ])
    refine relQuiet rfl rfl ?_
    apply Exists.intro
    refine ⟨fun F hF hf K hK => ?_, ?_⟩
    · have hFc := hF.cell
      have hFf := hF.frozen
      go_big_quiet_op
      first | exact hK | (apply Exists.intro; refine ⟨fun _ => ?_, ?_⟩; (· fail); exact hK)
    (try simp only [Act.put, List.setIfInBounds_toArray, List.set_cons_zero, List.set_cons_succ])
    refine relQuiet rfl rfl ?_
    apply Exists.intro
    refine ⟨fun F hF hf K hK => ?_, ?_⟩
    · have hFc := hF.cell
      have hFf := hF.frozen
      go_big_quiet_op
      first | exact hK | (apply Exists.intro; refine ⟨fun _ => ?_, ?_⟩; (· fail); exact hK)
    (try simp only [Act.put, List.setIfInBounds_toArray, List.set_cons_zero, List.set_cons_succ])
    refine relQuiet rfl rfl ?_
    apply Exists.intro
    refine ⟨fun F hF hf K hK => ?_, ?_⟩
    · have hFc := hF.cell
      have hFf := hF.frozen
      go_big_quiet_op
      first | exact hK | (apply Exists.intro; refine ⟨fun _ => ?_, ?_⟩; (· fail); exact hK)
    (try simp only [Act.put, List.setIfInBounds_toArray, List.set_cons_zero, List.set_cons_succ])
    refine relQuiet rfl rfl ?_
    apply Exists.intro
    refine ⟨fun F hF hf K hK => ?_, ?_⟩
    · have hFc := hF.cell
      have hFf := hF.frozen
      go_big_quiet_op
      first | exact hK | (apply Exists.intro; refine ⟨fun _ => ?_, ?_⟩; (· fail); exact hK)
    (try simp only [Act.put, List.setIfInBounds_toArray, List.set_cons_zero, List.set_cons_succ])
    refine relQuiet rfl rfl ?_
    apply Exists.intro
    refine ⟨fun F hF hf K hK => ?_, ?_⟩
    · have hFc := hF.cell
      have hFf := hF.frozen
      go_big_quiet_op
      first | exact hK | (apply Exists.intro; refine ⟨fun _ => ?_, ?_⟩; (· fail); exact hK)
    (try simp only [Act.put, List.setIfInBounds_toArray, List.set_cons_zero, List.set_cons_succ])
    refine relQuiet rfl rfl ?_
    apply Exists.intro
    refine ⟨fun F hF hf K hK => ?_, ?_⟩
    · have hFc := hF.cell
      have hFf := hF.frozen
      go_big_quiet_op
      first | exact hK | (apply Exists.intro; refine ⟨fun _ => ?_, ?_⟩; (· fail); exact hK)
    (try simp only [Act.put, List.setIfInBounds_toArray, List.set_cons_zero, List.set_cons_succ])
    refine relQuiet rfl rfl ?_
    apply Exists.intro
    refine ⟨fun F hF hf K hK => ?_, ?_⟩
    · have hFc := hF.cell
      have hFf := hF.frozen
      go_big_quiet_op
      first | exact hK | (apply Exists.intro; refine ⟨fun _ => ?_, ?_⟩; (· fail); exact hK)
    (try simp only [Act.put, List.setIfInBounds_toArray, List.set_cons_zero, List.set_cons_succ])
    refine relQuiet rfl rfl ?_
    apply Exists.intro
    refine ⟨fun F hF hf K hK => ?_, ?_⟩
    · have hFc := hF.cell
      have hFf := hF.frozen
      go_big_quiet_op
      first | exact hK | (apply Exists.intro; refine ⟨fun _ => ?_, ?_⟩; (· fail); exact hK)
    (try simp only [Act.put, List.setIfInBounds_toArray, List.set_cons_zero, List.set_cons_succ])
    refine relQuiet rfl rfl ?_
    apply Exists.intro
    refine ⟨fun F hF hf K hK => ?_, ?_⟩
    · have hFc := hF.cell
      have hFf := hF.frozen
      go_big_quiet_op
      first | exact hK | (apply Exists.intro; refine ⟨fun _ => ?_, ?_⟩; (· fail); exact hK)
    (try simp only [Act.put, List.setIfInBounds_toArray, List.set_cons_zero, List.set_cons_succ])
    refine relQuiet rfl rfl ?_
    apply Exists.intro
    refine ⟨fun F hF hf K hK => ?_, ?_⟩
    · have hFc := hF.cell
      have hFf := hF.frozen
      go_big_quiet_op
      first | exact hK | (apply Exists.intro; refine ⟨fun _ => ?_, ?_⟩; (· fail); exact hK)
    (try simp only [Act.put, List.setIfInBounds_toArray, List.set_cons_zero, List.set_cons_succ])
    refine relQuiet rfl rfl ?_
    apply Exists.intro
    refine ⟨fun F hF hf K hK => ?_, ?_⟩
    · have hFc := hF.cell
      have hFf := hF.frozen
      go_big_quiet_op
      first | exact hK | (apply Exists.intro; refine ⟨fun _ => ?_, ?_⟩; (· fail); exact hK)
    (try simp only [Act.put, List.setIfInBounds_toArray, List.set_cons_zero, List.set_cons_succ])
    refine relQuiet rfl rfl ?_
    apply Exists.intro
    refine ⟨fun F hF hf K hK => ?_, ?_⟩
    · have hFc := hF.cell
      have hFf := hF.frozen
      go_big_quiet_op
      first | exact hK | (apply Exists.intro; refine ⟨fun _ => ?_, ?_⟩; (· fail); exact hK)
    (try simp only [Act.put, List.setIfInBounds_toArray, List.set_cons_zero, List.set_cons_succ])
    refine relTold rfl rfl ?_ ?_
    · intro F hF hf d
      have hFc := hF.cell
      have hFf := hF.frozen
      simp [yieldsR, yieldsUpon, go_sem]
      exact ⟨⟨(F d).heap.size, rfl, nums_lit (k := .i64) (F d) [8589934592, 8589934592, 8589934592] 3 (0, 0) rfl⟩, up_alloc _ _⟩
    (try simp only [Act.put, List.setIfInBounds_toArray, List.set_cons_zero, List.set_cons_succ])
    refine relTold rfl rfl ?_ ?_
    · intro F hF hf d
      have hFc := hF.cell
      have hFf := hF.frozen
      have h9 := hf _ List.mem_cons_self (by rfl) d
      obtain ⟨g9, e9, n9⟩ := h9
      simp only [] at e9 n9
      rw [e9] at n9
      simp [yieldsR, yieldsUpon, go_sem, e9]
      refine (row_any _ 3 3 _ (F d) n9).mono ?_
      rintro e' w8 ⟨v8, rfl, h8, hb8⟩
      exact ⟨_, rfl, ⟨_, _, h8⟩, hb8⟩
    (try simp only [Act.put, List.setIfInBounds_toArray, List.set_cons_zero, List.set_cons_succ])
    refine relQuiet rfl rfl ?_
    apply Exists.intro
    refine ⟨fun F hF hf K hK => ?_, ?_⟩
    · have hFc := hF.cell
      have hFf := hF.frozen
      go_big_quiet_op
      first | exact hK | (apply Exists.intro; refine ⟨fun _ => ?_, ?_⟩; (· exact hF.call (HS.out _ _ (hF.below _) (hf _ (List.mem_cons_of_mem _ List.mem_cons_self) (by rfl) _))); exact hK)
    (try simp only [Act.put, List.setIfInBounds_toArray, List.set_cons_zero, List.set_cons_succ])
    refine relQuiet rfl rfl ?_
    apply Exists.intro
    refine ⟨fun F hF hf K hK => ?_, ?_⟩
    · have hFc := hF.cell
      have hFf := hF.frozen
      go_big_quiet_op
      first | exact hK | (apply Exists.intro; refine ⟨fun _ => ?_, ?_⟩; (· fail); exact hK)
    (try simp only [Act.put, List.setIfInBounds_toArray, List.set_cons_zero, List.set_cons_succ])
    refine relEnd ?_
    exact rfl
  · exact fun x => rfl
  · intro w5 xs hB5 hf
    simp only [List.drop_succ_cons, List.drop_zero]
    have HB5 : Hid (Below w.heap.size w w5) := bstep HB4.out hB5
    clear hf hB5
    go_wp2
    go_ret
    exact ⟨rfl, HB5.out⟩
end Go.Proofs.Ytbndiadgnglkhaa.Wd
