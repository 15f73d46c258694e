/- The laws' own helpers: great, table, awake; and matm's functions over tensors that can be read. -/
import Derived.Test.YthcfeiddbffcfaaDoorMtE
namespace Go.Proofs.YthcfeiddbffcfaaDoor.Wd
open Go.RowKit Fx
set_option linter.unusedVariables false
set_option linter.unusedSimpArgs false
theorem mul_tn {D X D' X' : List Int} {v v' : Value} {W : World} (h : TnC D X v W) (h' : Tn D' X' v' W) (hD : RI D) (hX : RI X) (hD' : RI D') (hX' : RI X') (hT : Hid (Tz W)) :
    Calls Tryd.prog 11 #[v, v'] W fun e w' => ∃ u, e = .returned (.tuple #[u, .int .i64 (mE D X D' X')]) ∧ TRes w' W.heap.size u (mD D X D' X') (mV D X D' X') ∧ Below W.heap.size W w' := by
  obtain ⟨p, n, c, p2, n2, c2, rfl, h1, h2, h3⟩ := h
  obtain ⟨p', n', c', p2', n2', c2', rfl, h1', h2'⟩ := h'
  exact mul_any _ _ _ _ _ _ _ _ _ _ _ _ D X D' X' hD hX hD' hX' W hT h3 h1 h2 h1' h2'
theorem flip_tn {D X : List Int} {v : Value} {W : World} (h : Tn D X v W) (hD : RI D) :
    Calls Tryd.prog 12 #[v] W fun e w' => ∃ u, e = .returned (.tuple #[u, .int .i64 (flE D X)]) ∧ TRes w' W.heap.size u (flD D X) (flV D X) ∧ Below W.heap.size W w' := by
  obtain ⟨p, n, c, p2, n2, c2, rfl, h1, h2⟩ := h
  exact flip_any _ _ _ _ _ _ D X hD W h1 h2
theorem all_tn {D X : List Int} {v : Value} {W : World} (h : Tn D X v W) (hD : RI D) (hX : RI X) :
    Calls Tryd.prog 14 #[v] W fun e w' => e = .returned (.tuple #[.int .i64 (allV D X), .int .i64 (matE D X)]) ∧ Below W.heap.size W w' := by
  obtain ⟨p, n, c, p2, n2, c2, rfl, h1, h2⟩ := h
  exact all_any _ _ _ _ _ _ D X hD hX W h1 h2
theorem mean_tn {D X : List Int} {v : Value} {W : World} (h : Tn D X v W) (hD : RI D) (hX : RI X) :
    Calls Tryd.prog 15 #[v] W fun e w' => e = .returned (.tuple #[.int .i64 (meanV D X), .int .i64 (matE D X)]) ∧ Below W.heap.size W w' := by
  obtain ⟨p, n, c, p2, n2, c2, rfl, h1, h2⟩ := h
  exact mean_any _ _ _ _ _ _ D X hD hX W h1 h2
theorem dot_lit {a b : List Int} {u v : Value} {W : World} (hu : LitN a u W) (hv : LitN b v W) (ha : RI a) (hb : RI b) (hl : a.length ≤ 4096) (hT : Hid (Tz W)) :
    Calls Tryd.prog 17 #[u, v] W fun e w' => e = .returned (.int .i64 (dotI a b)) ∧ Below W.heap.size W w' := by
  obtain ⟨g, rfl, h1⟩ := hu
  obtain ⟨g', rfl, h2⟩ := hv
  exact dot_any _ _ _ _ _ _ a b ha hb _ rfl (by omega) W hT h1 h2
set_option maxHeartbeats 1000000 in
theorem great7_any (p p2 : Option Addr) (n c n2 c2 : Nat) (most : Nat) (hm : most ≤ 1000) (w : World) :
    Calls Tryd.prog 18 #[.agg #[.slice p n c, .slice p2 n2 c2], .int .i64 (most : Int)] w fun e w' => e = .returned (.bool (decide (10 < n ∨ most < n2))) ∧ Below w.heap.size w w' := by
  have hm' : (most : Int) ≤ 1000 := by omega
  by_cases h1 : 10 < n
  · rw [decide_eq_true (.inl h1)]
    have h1' : (10 : Int) < (n : Int) := by omega
    go_enter Tryd.func18, Tryd.ntmps18
    go_wp2
    go_ret
    exact ⟨rfl, by go_grown⟩
  · have h1' : (n : Int) ≤ 10 := by omega
    by_cases h2 : most < n2
    · rw [decide_eq_true (.inr h2)]
      have h2' : (most : Int) < (n2 : Int) := by omega
      go_enter Tryd.func18, Tryd.ntmps18
      go_wp2
      go_ret
      exact ⟨by simp [h2], by go_grown⟩
    · rw [decide_eq_false (fun h => h.elim h1 h2)]
      have h2' : (n2 : Int) ≤ (most : Int) := by omega
      go_enter Tryd.func18, Tryd.ntmps18
      go_wp2
      go_ret
      exact ⟨by simp [h2]; exact h1', by go_grown⟩
set_option maxHeartbeats 1000000 in
theorem table_lit (N q : Nat) (l : List Int) (u : Value) (hN : 1 ≤ N) (hl : l.length ≤ 1000) (hq : l.length / N = q) (w : World) (h : LitN l u w) :
    Calls Tryd.prog 10 #[.int .i64 (N : Int), u] w fun e w' => ∃ v, e = .returned v ∧ TnC [(N : Int), (q : Int)] l v w' ∧ Below w.heap.size w w' := by
  obtain ⟨g0, rfl, hn⟩ := h
  have H : Hid (Nums .i64 w (.slice (some ⟨g0, 0, none⟩) l.length l.length) l) := hn
  obtain ⟨m, em⟩ : ∃ m, l.length = m := ⟨_, rfl⟩
  rw [em] at hl hq H ⊢
  have hN' : 1 ≤ (N : Int) := by omega
  have hm' : (m : Int) ≤ 1000 := by omega
  have hq' : (m : Int) / (N : Int) = (q : Int) := by rw [← hq]; rfl
  have hq2 : (q : Int) ≤ 1000 := by have := Nat.div_le_self m N; omega
  clear hn em hq
  go_enter Tryd.func10, Tryd.ntmps10
  go_wp2
  refine bodyPost_ret (v := .agg #[.slice (some ⟨w.heap.size + 1, 0, none⟩) 2 2, .slice (some ⟨g0, 0, none⟩) m m]) (by simp [results, Tryd.results10, go_sem]) rfl ⟨_, rfl, ⟨_, _, _, _, _, _, rfl, ?_, ?_, Nat.le_refl _⟩, by go_grown⟩
  · refine .inr ⟨_, 2, rfl, fun j u hj => ?_⟩
    match j, hj with
    | 0, hj =>
      simp [vals] at hj
      subst hj
      rw [addr_plus]
      simp [go_sem]
    | 1, hj =>
      simp [vals] at hj
      subst hj
      rw [addr_plus]
      simp [go_sem]
    | j + 2, hj => simp [vals] at hj
  · exact H.out.up (by go_grown)
theorem aw7M : mE [1, 2] [4294967296, 8589934592] [2, 1] [12884901888, 17179869184] = 0 ∧ mD [1, 2] [4294967296, 8589934592] [2, 1] [12884901888, 17179869184] = [1, 1] ∧ mV [1, 2] [4294967296, 8589934592] [2, 1] [12884901888, 17179869184] = [47244640256] := by decide +kernel
theorem aw7D : dotI [4294967296] [5, 9] = 5 := by decide +kernel
set_option maxRecDepth 8000 in
set_option maxHeartbeats 4000000 in
theorem awake7_any (w : World) (hT : Hid (Tz w)) :
    Calls Tryd.prog 9 #[] w fun e w' => e = .returned (.bool true) ∧ Below w.heap.size w w' := by
  haveI : Nonempty World := ⟨w⟩
  go_enter Tryd.func9, Tryd.ntmps9
  go_wp2_with fail
  generalize hW1 : World.alloc _ _ = W1
  have hB1 : Below w.heap.size w W1 := by rw [← hW1]; exact up_alloc w _
  have L1 : LitN [4294967296, 8589934592] (.slice (some ⟨w.heap.size, 0, none⟩) 2 2) W1 := ⟨_, rfl, by rw [← hW1]; exact nums_lit (k := .i64) w [4294967296, 8589934592] 2 (0, 0) rfl⟩
  have HB1 : Hid (Below w.heap.size w W1) := hB1
  clear hW1 hB1
  refine (table_lit 1 2 _ _ (by omega) (by simp) rfl W1 L1).mono ?_
  rintro e w2 ⟨v2, rfl, h2, hB2⟩
  have HB2 : Hid (Below w.heap.size w w2) := bstep HB1.out hB2
  have T2 : Hid (TnC [1, 2] [4294967296, 8589934592] v2 w2) := h2
  clear h2 hB2 L1 HB1
  go_wp2_with fail
  generalize hW3 : World.alloc _ _ = W3
  have hB3 : Below w2.heap.size w2 W3 := by rw [← hW3]; exact up_alloc w2 _
  have L3 : LitN [12884901888, 17179869184] (.slice (some ⟨w2.heap.size, 0, none⟩) 2 2) W3 := ⟨_, rfl, by rw [← hW3]; exact nums_lit (k := .i64) w2 [12884901888, 17179869184] 2 (0, 0) rfl⟩
  have HB3 : Hid (Below w.heap.size w W3) := bstep HB2.out hB3
  have T3 : Hid (TnC [1, 2] [4294967296, 8589934592] v2 W3) := T2.out.up hB3
  clear hW3 hB3 HB2 T2
  refine (table_lit 2 1 _ _ (by omega) (by simp) rfl W3 L3).mono ?_
  rintro e w4 ⟨v4, rfl, h4, hB4⟩
  have HB4 : Hid (Below w.heap.size w w4) := bstep HB3.out hB4
  have T4 : Hid (TnC [1, 2] [4294967296, 8589934592] v2 w4 ∧ TnC [2, 1] [12884901888, 17179869184] v4 w4) := ⟨T3.out.up hB4, h4⟩
  clear h4 hB4 L3 HB3 T3
  have cM := mul_tn T4.out.1 T4.out.2.tn (RI_kern (by decide +kernel)) (RI_kern (by decide +kernel)) (RI_kern (by decide +kernel)) (RI_kern (by decide +kernel)) (Hid.up_tz hT HB4.out)
  rw [aw7M.1, aw7M.2.1, aw7M.2.2] at cM
  go_wp2_with fail
  refine cM.mono ?_
  rintro e w5 ⟨v5, rfl, ⟨s5, t5, rfl, hs5, ht5⟩, hB5⟩
  obtain ⟨p5, n5, c5, rfl, _⟩ := hs5.nums.lst
  obtain ⟨p6, n6, c6, rfl, _⟩ := ht5.nums.lst
  have HB5 : Hid (Below w.heap.size w w5) := bstep HB4.out hB5
  have T5 : Hid (Tn [1, 1] [47244640256] (.agg #[.slice p5 n5 c5, .slice p6 n6 c6]) w5) := ⟨_, _, _, _, _, _, rfl, hs5.nums, ht5.nums⟩
  clear cM hs5 ht5 hB5 HB4 T4
  go_wp2_with fail
  generalize hW7 : World.alloc _ _ = W7
  have hB7 : Below w5.heap.size w5 W7 := by rw [← hW7]; exact up_alloc w5 _
  have X7 : Hid (Cel W7 w5.heap.size (.slice p5 n5 c5) (.slice p6 n6 c6)) := by show Cel _ _ _ _; unfold Cel; rw [← hW7]; simp [go_sem]
  have HB7 : Hid (Below w.heap.size w W7) := bstep HB5.out hB7
  have T7 : Hid (Tn [1, 1] [47244640256] (.agg #[.slice p5 n5 c5, .slice p6 n6 c6]) W7) := T5.out.up hB7
  clear hW7 hB7 HB5 T5
  obtain ⟨a0, a1, _, _⟩ := X7.out
  have z0 := cell_lt a0
  have HS : Hid (∀ W v, Below W7.heap.size W7 W → TnC [1, 1] [47244640256] v W → Calls Tryd.prog 16 #[.agg #[.slice p5 n5 c5, .slice p6 n6 c6], v] W fun e w' => e = .returned (.bool true) ∧ Below W.heap.size W w') := fun W v hW hv => by
    have := alike_tn (T7.out.up hW) hv.tn (by unfold Few; simp) (by unfold Few; simp)
    rw [decide_eq_true ⟨rfl, rfl⟩] at this
    exact this
  have HD : Hid (∀ W u v, Below W7.heap.size W7 W → LitN [4294967296] u W → LitN [5, 9] v W → Calls Tryd.prog 17 #[u, v] W fun e w' => e = .returned (.int .i64 5) ∧ Below W.heap.size W w') := fun W u v hW hu hv => by
    have := dot_lit hu hv (RI_kern (by decide +kernel)) (RI_kern (by decide +kernel)) (by simp) (Hid.up_tz hT (bstep HB7.out hW))
    rw [aw7D] at this
    exact this
  clear T7
  refine rel [⟨4, 15, LitN [47244640256]⟩, ⟨5, 16, TnC [1, 1] [47244640256]⟩, ⟨9, 20, LitN [4294967296]⟩, ⟨10, 21, LitN [5, 9]⟩] 14 25 (by kernel_rfl) rfl rfl (by kernel_rfl) (by rfl) ?_ ?_
  · intro e he v W W' h hb
    simp only [List.mem_cons, List.not_mem_nil, or_false] at he
    rcases he with rfl | rfl | rfl | rfl
    · exact LitN.up h hb
    · exact TnC.up h hb
    · exact LitN.up h hb
    · exact LitN.up h hb
  apply Exists.intro
  refine ⟨fun x => ?_, ?_, ?_⟩
  · simp only [List.take_succ_cons, List.take_zero]
    refine relQuiet rfl rfl ?_
    apply Exists.intro
    refine ⟨fun F hF hf K hK => ?_, ?_⟩
    · have hFc := hF.cell
      have hFf := hF.frozen
      go_big_quiet_op
      first | exact hK | (apply Exists.intro; refine ⟨fun _ => ?_, ?_⟩; (· fail); exact hK)
    (try simp only [Act.put, List.setIfInBounds_toArray, List.set_cons_zero, List.set_cons_succ])
    refine relQuiet rfl rfl ?_
    apply Exists.intro
    refine ⟨fun F hF hf K hK => ?_, ?_⟩
    · have hFc := hF.cell
      have hFf := hF.frozen
      go_big_quiet_op
      first | exact hK | (apply Exists.intro; refine ⟨fun _ => ?_, ?_⟩; (· fail); exact hK)
    (try simp only [Act.put, List.setIfInBounds_toArray, List.set_cons_zero, List.set_cons_succ])
    refine relQuiet rfl rfl ?_
    apply Exists.intro
    refine ⟨fun F hF hf K hK => ?_, ?_⟩
    · have hFc := hF.cell
      have hFf := hF.frozen
      go_big_quiet_op
      first | exact hK | (apply Exists.intro; refine ⟨fun _ => ?_, ?_⟩; (· fail); exact hK)
    (try simp only [Act.put, List.setIfInBounds_toArray, List.set_cons_zero, List.set_cons_succ])
    refine relQuiet rfl rfl ?_
    apply Exists.intro
    refine ⟨fun F hF hf K hK => ?_, ?_⟩
    · have hFc := hF.cell
      have hFf := hF.frozen
      go_big_quiet_op
      first | exact hK | (apply Exists.intro; refine ⟨fun _ => ?_, ?_⟩; (· fail); exact hK)
    (try simp only [Act.put, List.setIfInBounds_toArray, List.set_cons_zero, List.set_cons_succ])
    refine relTold rfl rfl ?_ ?_
    · intro F hF hf d
      have hFc := hF.cell
      have hFf := hF.frozen
      simp [yieldsR, yieldsUpon, go_sem]
      exact ⟨⟨(F d).heap.size, rfl, nums_lit (k := .i64) (F d) [47244640256] 1 (0, 0) rfl⟩, up_alloc _ _⟩
    (try simp only [Act.put, List.setIfInBounds_toArray, List.set_cons_zero, List.set_cons_succ])
    refine relTold rfl rfl ?_ ?_
    · intro F hF hf d
      have hFc := hF.cell
      have hFf := hF.frozen
      have h9 := hf _ List.mem_cons_self (by rfl) d
      simp [yieldsR, yieldsUpon, go_sem]
      refine (table_lit 1 1 _ _ (by omega) (by simp) rfl (F d) h9).mono ?_
      rintro e' w8 ⟨v8, rfl, h8, hb8⟩
      exact ⟨_, rfl, h8, hb8⟩
    (try simp only [Act.put, List.setIfInBounds_toArray, List.set_cons_zero, List.set_cons_succ])
    refine relQuiet rfl rfl ?_
    apply Exists.intro
    refine ⟨fun F hF hf K hK => ?_, ?_⟩
    · have hFc := hF.cell
      have hFf := hF.frozen
      go_big_quiet_op
      first | exact hK | (apply Exists.intro; refine ⟨fun _ => ?_, ?_⟩; (· exact hF.call (HS.out _ _ (hF.below _) (hf _ (List.mem_cons_of_mem _ List.mem_cons_self) (by rfl) _))); exact hK)
    (try simp only [Act.put, List.setIfInBounds_toArray, List.set_cons_zero, List.set_cons_succ])
    refine relQuiet rfl rfl ?_
    apply Exists.intro
    refine ⟨fun F hF hf K hK => ?_, ?_⟩
    · have hFc := hF.cell
      have hFf := hF.frozen
      go_big_quiet_op
      first | exact hK | (apply Exists.intro; refine ⟨fun _ => ?_, ?_⟩; (· fail); exact hK)
    (try simp only [Act.put, List.setIfInBounds_toArray, List.set_cons_zero, List.set_cons_succ])
    refine relQuiet rfl rfl ?_
    apply Exists.intro
    refine ⟨fun F hF hf K hK => ?_, ?_⟩
    · have hFc := hF.cell
      have hFf := hF.frozen
      go_big_quiet_op
      first | exact hK | (apply Exists.intro; refine ⟨fun _ => ?_, ?_⟩; (· fail); exact hK)
    (try simp only [Act.put, List.setIfInBounds_toArray, List.set_cons_zero, List.set_cons_succ])
    refine relTold rfl rfl ?_ ?_
    · intro F hF hf d
      have hFc := hF.cell
      have hFf := hF.frozen
      simp [yieldsR, yieldsUpon, go_sem]
      exact ⟨⟨(F d).heap.size, rfl, nums_lit (k := .i64) (F d) [4294967296] 1 (0, 0) rfl⟩, up_alloc _ _⟩
    (try simp only [Act.put, List.setIfInBounds_toArray, List.set_cons_zero, List.set_cons_succ])
    refine relTold rfl rfl ?_ ?_
    · intro F hF hf d
      have hFc := hF.cell
      have hFf := hF.frozen
      simp [yieldsR, yieldsUpon, go_sem]
      exact ⟨⟨(F d).heap.size, rfl, nums_lit (k := .i64) (F d) [5, 9] 2 (0, 0) rfl⟩, up_alloc _ _⟩
    (try simp only [Act.put, List.setIfInBounds_toArray, List.set_cons_zero, List.set_cons_succ])
    refine relQuiet rfl rfl ?_
    apply Exists.intro
    refine ⟨fun F hF hf K hK => ?_, ?_⟩
    · have hFc := hF.cell
      have hFf := hF.frozen
      go_big_quiet_op
      first | exact hK | (apply Exists.intro; refine ⟨fun _ => ?_, ?_⟩; (· exact hF.call (HD.out _ _ _ (hF.below _) (hf _ (List.mem_cons_of_mem _ (List.mem_cons_of_mem _ List.mem_cons_self)) (by rfl) _) (hf _ (List.mem_cons_of_mem _ (List.mem_cons_of_mem _ (List.mem_cons_of_mem _ List.mem_cons_self))) (by rfl) _))); exact hK)
    (try simp only [Act.put, List.setIfInBounds_toArray, List.set_cons_zero, List.set_cons_succ])
    refine relQuiet rfl rfl ?_
    apply Exists.intro
    refine ⟨fun F hF hf K hK => ?_, ?_⟩
    · have hFc := hF.cell
      have hFf := hF.frozen
      go_big_quiet_op
      first | exact hK | (apply Exists.intro; refine ⟨fun _ => ?_, ?_⟩; (· fail); exact hK)
    (try simp only [Act.put, List.setIfInBounds_toArray, List.set_cons_zero, List.set_cons_succ])
    refine relQuiet rfl rfl ?_
    apply Exists.intro
    refine ⟨fun F hF hf K hK => ?_, ?_⟩
    · have hFc := hF.cell
      have hFf := hF.frozen
      go_big_quiet_op
      first | exact hK | (apply Exists.intro; refine ⟨fun _ => ?_, ?_⟩; (· fail); exact hK)
    (try simp only [Act.put, List.setIfInBounds_toArray, List.set_cons_zero, List.set_cons_succ])
    refine relEnd ?_
    exact rfl
  · exact fun x => rfl
  · intro w9 xs hB9 hf
    simp only [List.drop_succ_cons, List.drop_zero]
    have HB9 : Hid (Below w.heap.size w w9) := bstep HB7.out hB9
    clear hf hB9
    go_wp2
    go_ret
    exact ⟨rfl, HB9.out⟩
end Go.Proofs.YthcfeiddbffcfaaDoor.Wd
