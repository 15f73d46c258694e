/- The reference's frames: Good, Encode, Decode. -/
import Derived.Test.YthmpfdkbpdbhnaaFrM
import Derived.Test.YthmpfdkbpdbhnaaApp8
import Derived.Test.YthmpfdkbpdbhnaaCrcC
namespace Go.Proofs.Ythmpfdkbpdbhnaa.Wd
open Go.RowKit
set_option linter.unusedVariables false
set_option linter.unusedSimpArgs false
set_option maxRecDepth 8000
set_option maxHeartbeats 4000000
theorem fin_any (v l t : Int) (z : Bool) (ez : decide (l ≤ v ∧ v ≤ t) = z) (w : World) : Calls Try.prog 33 #[.int .i64 v, .int .i64 l, .int .i64 t] w fun e w' => e = .returned (.bool z) ∧ w' = w := by
  have HZ : Hid (decide (l ≤ v ∧ v ≤ t) = z) := ez
  clear ez
  go_enter Try.func33, Try.ntmps33
  by_cases h1 : l ≤ v
  · by_cases h2 : v ≤ t
    · go_wp2
      go_ret
      exact ⟨by rw [← HZ.out, decide_eq_true ⟨h1, h2⟩]; rfl, rfl⟩
    · have h2' : t < v := by omega
      go_wp2
      go_ret
      exact ⟨by rw [← HZ.out, decide_eq_false fun h => by omega]; rfl, rfl⟩
  · have h1' : v < l := by omega
    go_wp2
    go_ret
    exact ⟨by rw [← HZ.out, decide_eq_false fun h => by omega]; rfl, rfl⟩
theorem rfgood_any (k f t v s : Int) (p : Option Addr) (n c : Nat) (w : World) :
    Calls Try.prog 52 #[.agg #[.int .i64 k, .int .i64 f, .int .i64 t, .int .u32 v, .int .u32 s, .slice p n c]] w fun e w' => e = .returned (.bool (decide (goodF k f t n))) ∧ Below w.heap.size w w' := by
  obtain ⟨r, er⟩ : ∃ r, decide (goodF k f t n) = r := ⟨_, rfl⟩
  have HR : Hid (decide (goodF k f t n) = r) := er
  obtain ⟨z1, e1⟩ : ∃ z, decide (1 ≤ k ∧ k ≤ 20) = z := ⟨_, rfl⟩
  obtain ⟨z2, e2⟩ : ∃ z, decide (0 ≤ f ∧ f ≤ 15) = z := ⟨_, rfl⟩
  obtain ⟨z3, e3⟩ : ∃ z, decide (0 ≤ t ∧ t ≤ 15) = z := ⟨_, rfl⟩
  have c1 := fun W => fin_any k 1 20 z1 e1 W
  have c2 := fun W => fin_any f 0 15 z2 e2 W
  have c3 := fun W => fin_any t 0 15 z3 e3 W
  have HZ : Hid (r = (((z1 && z2) && z3) && decide (n ≤ 16384))) := by
    show _ = _
    rw [← er, ← e1, ← e2, ← e3]
    simp only [← Bool.decide_and]
    exact decide_eq_decide.2 (by unfold goodF; omega)
  rw [er]
  clear er e1 e2 e3
  go_enter Try.func52, Try.ntmps52
  go_wp2_with fail
  refine (c1 _).mono ?_
  rintro e w1 ⟨rfl, rfl⟩
  cases z1 with
  | false =>
    go_wp2
    go_ret
    exact ⟨by rw [HZ.out]; rfl, up_alloc _ _⟩
  | true =>
    go_wp2_with fail
    refine (c2 _).mono ?_
    rintro e w1 ⟨rfl, rfl⟩
    cases z2 with
    | false =>
      go_wp2
      go_ret
      exact ⟨by rw [HZ.out]; rfl, up_alloc _ _⟩
    | true =>
      go_wp2_with fail
      refine (c3 _).mono ?_
      rintro e w1 ⟨rfl, rfl⟩
      cases z3 with
      | false =>
        go_wp2
        go_ret
        exact ⟨by rw [HZ.out]; rfl, up_alloc _ _⟩
      | true =>
        go_wp2
        go_ret
        exact ⟨by rw [HZ.out, decide_eq_decide.2 (show ((n : Int) ≤ 16384) ↔ n ≤ 16384 by omega)]; rfl, up_alloc _ _⟩
theorem conv_u8 (x : Int) (h : 0 ≤ x ∧ x < 256) : x % 256 = x := by omega
theorem rfenc_any (k f t v s : Int) (p : Option Addr) (n c : Nat) (b : List Int) (hv : 0 ≤ v ∧ v < 4294967296) (hs : 0 ≤ s ∧ s < 4294967296) (hb : By8 b) (w : World) (hB : Bytes w (.slice p n c) b) (hn : b.length = n) :
    Calls Try.prog 37 #[.agg #[.int .i64 k, .int .i64 f, .int .i64 t, .int .u32 v, .int .u32 s, .slice p n c]] w fun e w' => ∃ v', e = .returned v' ∧ Own8 w' w.heap.size v' (encF k f t v s b) ∧ Below w.heap.size w w' := by
  haveI : Nonempty World := ⟨w⟩
  have cg := fun W => rfgood_any k f t v s p n c W
  by_cases hg : goodF k f t n
  case neg =>
    rw [decide_eq_false hg] at cg
    have HE : Hid (encF k f t v s b = []) := if_neg (by rw [hn]; exact hg)
    rw [HE.out]
    clear hg hB
    go_enter Try.func37, Try.ntmps37
    go_wp2_with fail
    refine (cg _).mono ?_
    rintro e w1 ⟨rfl, hB1⟩
    have HB1 : Hid (Below w.heap.size w w1) := bstep (up_alloc w _) hB1
    clear hB1 cg
    go_wp2
    exact bodyPost_ret (v := .slice none 0 0) (by simp [results, Try.results37, go_sem]) rfl ⟨_, rfl, ⟨rfl, .inl ⟨rfl, rfl⟩⟩, HB1.out⟩
  rw [decide_eq_true hg] at cg
  obtain ⟨L, eL⟩ : ∃ L, encF k f t v s b = L := ⟨_, rfl⟩
  have HE : Hid (encL k f t v s b = L ∧ n ≤ 16384 ∧ b.length = n ∧ Bytes w (.slice p n c) b ∧ By8 b ∧ By8 (hF k f t v s b)) := by
    obtain ⟨g1, g2, g3⟩ := good_by hg
    exact ⟨by rw [← eL]; exact (if_pos (by rw [hn]; exact hg)).symm, hg.2.2.2, hn, hB, hb, hF_by g1 g2 g3 hb⟩
  rw [eL]
  have k1 : k % 256 = k := by have := hg.1; omega
  have k2 : f % 256 = f := by have := hg.2.1; omega
  have k3 : t % 256 = t := by have := hg.2.2.1; omega
  have hn2 : n ≤ 16384 := hg.2.2.2
  clear hg eL hB hb
  go_enter Try.func37, Try.ntmps37
  go_wp2_with fail
  refine (cg _).mono ?_
  rintro e w1 ⟨rfl, hB1⟩
  have hBw : Below w.heap.size w w1 := bstep (up_alloc w _) hB1
  obtain ⟨x0, x1, x2, x3, x4, x5⟩ : w1.cell? ⟨w.heap.size, 0, none⟩ = some (.int .i64 k) ∧ w1.cell? ⟨w.heap.size, 1, none⟩ = some (.int .i64 f) ∧ w1.cell? ⟨w.heap.size, 2, none⟩ = some (.int .i64 t) ∧ w1.cell? ⟨w.heap.size, 3, none⟩ = some (.int .u32 v) ∧ w1.cell? ⟨w.heap.size, 4, none⟩ = some (.int .u32 s) ∧ w1.cell? ⟨w.heap.size, 5, none⟩ = some (.slice p n c) := by
    have g : ∀ j u, (w.alloc (.cells #[.int .i64 k, .int .i64 f, .int .i64 t, .int .u32 v, .int .u32 s, .slice p n c] 61)).cell? ⟨w.heap.size, j, none⟩ = some u → w1.cell? ⟨w.heap.size, j, none⟩ = some u := fun j u h => still_cell hB1 h
    exact ⟨g 0 _ (by simp [go_sem]), g 1 _ (by simp [go_sem]), g 2 _ (by simp [go_sem]), g 3 _ (by simp [go_sem]), g 4 _ (by simp [go_sem]), g 5 _ (by simp [go_sem])⟩
  have kx := cell_lt x0
  have HB1 : Hid (Below w.heap.size w w1) := hBw
  clear hB1 hBw cg
  go_wp2_with fail
  generalize hW2 : World.alloc _ _ = W2
  have H2 : Hid (Below w.heap.size w W2 ∧ Below w1.heap.size w1 W2 ∧ Bytes W2 (.slice (some ⟨w1.heap.size, 0, none⟩) 5 5) [82, 1, k, f, t]) := by
    rw [← hW2]
    exact ⟨bstep HB1.out (up_alloc _ _), up_alloc _ _, lit8 w1 [82, 1, k, f, t] 5 (0, 0) rfl⟩
  replace x3 := still_cell H2.out.2.1 x3
  replace x4 := still_cell H2.out.2.1 x4
  replace x5 := still_cell H2.out.2.1 x5
  replace kx := cell_lt x3
  clear hW2 x0 x1 x2 HB1
  refine rel [⟨3, 20, OwnR W2.heap.size ([82, 1, k, f, t] ++ be 4 v)⟩, ⟨6, 23, OwnR W2.heap.size ([82, 1, k, f, t] ++ be 4 v ++ be 4 s)⟩] 7 36 (by kernel_rfl) rfl rfl (by kernel_rfl) (by rfl) ?_ ?_
  · intro e he v W W' h hb
    simp only [List.mem_cons, List.not_mem_nil, or_false] at he
    rcases he with rfl | rfl
    · exact OwnR.up h hb
    · exact OwnR.up h hb
  apply Exists.intro
  refine ⟨fun x => ?_, ?_, ?_⟩
  · simp only [List.take_succ_cons, List.take_zero]
    refine relQuiet rfl rfl ?_
    apply Exists.intro
    refine ⟨fun F hF hf K hK => ?_, ?_⟩
    · have hFc := hF.cell
      have hFf := hF.frozen
      go_big_quiet_op
      first | exact hK | (apply Exists.intro; refine ⟨fun _ => ?_, ?_⟩; (· fail); exact hK)
    (try simp only [Act.put, List.setIfInBounds_toArray, List.set_cons_zero, List.set_cons_succ])
    refine relQuiet rfl rfl ?_
    apply Exists.intro
    refine ⟨fun F hF hf K hK => ?_, ?_⟩
    · have hFc := hF.cell
      have hFf := hF.frozen
      go_big_quiet_op
      first | exact hK | (apply Exists.intro; refine ⟨fun _ => ?_, ?_⟩; (· fail); exact hK)
    (try simp only [Act.put, List.setIfInBounds_toArray, List.set_cons_zero, List.set_cons_succ])
    refine relQuiet rfl rfl ?_
    apply Exists.intro
    refine ⟨fun F hF hf K hK => ?_, ?_⟩
    · have hFc := hF.cell
      have hFf := hF.frozen
      go_big_quiet_op
      first | exact hK | (apply Exists.intro; refine ⟨fun _ => ?_, ?_⟩; (· fail); exact hK)
    (try simp only [Act.put, List.setIfInBounds_toArray, List.set_cons_zero, List.set_cons_succ])
    refine relTold rfl rfl ?_ ?_
    · intro F hF hf d
      have hFc := hF.cell
      have hFf := hF.frozen
      simp [yieldsR, yieldsUpon, go_sem]
      refine (u32_any _ [82, 1, k, f, t] (by simp) v hv (F d) (H2.out.2.2.up (hF.below d))).mono ?_
      rintro e' w8 ⟨v8, rfl, ho8, hb8⟩
      exact ⟨_, rfl, ho8.low (hF.below d).size, hb8⟩
    (try simp only [Act.put, List.setIfInBounds_toArray, List.set_cons_zero, List.set_cons_succ])
    refine relQuiet rfl rfl ?_
    apply Exists.intro
    refine ⟨fun F hF hf K hK => ?_, ?_⟩
    · have hFc := hF.cell
      have hFf := hF.frozen
      go_big_quiet_op
      first | exact hK | (apply Exists.intro; refine ⟨fun _ => ?_, ?_⟩; (· fail); exact hK)
    (try simp only [Act.put, List.setIfInBounds_toArray, List.set_cons_zero, List.set_cons_succ])
    refine relQuiet rfl rfl ?_
    apply Exists.intro
    refine ⟨fun F hF hf K hK => ?_, ?_⟩
    · have hFc := hF.cell
      have hFf := hF.frozen
      go_big_quiet_op
      first | exact hK | (apply Exists.intro; refine ⟨fun _ => ?_, ?_⟩; (· fail); exact hK)
    (try simp only [Act.put, List.setIfInBounds_toArray, List.set_cons_zero, List.set_cons_succ])
    refine relTold rfl rfl ?_ ?_
    · intro F hF hf d
      have hFc := hF.cell
      have hFf := hF.frozen
      have h9 := hf _ List.mem_cons_self (by rfl) d
      simp [yieldsR, yieldsUpon, go_sem]
      refine (u32_any _ _ (by simp [be_len]) s hs (F d) (Own8.bytes h9)).mono ?_
      rintro e' w8 ⟨v8, rfl, ho8, hb8⟩
      exact ⟨_, rfl, ho8.low (hF.below d).size, hb8⟩
    (try simp only [Act.put, List.setIfInBounds_toArray, List.set_cons_zero, List.set_cons_succ])
    refine relEnd ?_
    exact rfl
  · intro x
    simp only [putsK, List.foldl_cons, List.foldl_nil, Act.put, List.setIfInBounds_toArray, List.set_cons_zero, List.set_cons_succ]
  · intro W3 xs hB3 hf
    simp only [List.drop_succ_cons, List.drop_zero]
    have h6 := hf _ (List.mem_cons_of_mem _ List.mem_cons_self)
    obtain ⟨y3, ey3⟩ : ∃ q, xs 3 = q := ⟨_, rfl⟩
    obtain ⟨y6, ey6⟩ : ∃ q, xs 6 = q := ⟨_, rfl⟩
    simp only [ey6] at h6
    simp only [ey3, ey6]
    have H3 : Hid (Below w.heap.size w W3 ∧ OwnR W2.heap.size ([82, 1, k, f, t] ++ be 4 v ++ be 4 s) y6 W3) := ⟨bstep H2.out.1 hB3, h6⟩
    replace x5 := still_cell hB3 x5
    replace kx := cell_lt x5
    clear hf h6 hB3 ey3 ey6 H2 x3 x4
    go_wp2_with fail
    refine rel [⟨4, 28, OwnR W3.heap.size ([82, 1, k, f, t] ++ be 4 v ++ be 4 s ++ be 2 (n : Int))⟩] 7 36 (by kernel_rfl) rfl rfl (by kernel_rfl) (by rfl) ?_ ?_
    · intro e he v W W' h hb
      simp only [List.mem_cons, List.not_mem_nil, or_false] at he
      rcases he with rfl
      · exact OwnR.up h hb
    apply Exists.intro
    refine ⟨fun x => ?_, ?_, ?_⟩
    · simp only [List.take_succ_cons, List.take_zero]
      refine relQuiet rfl rfl ?_
      apply Exists.intro
      refine ⟨fun F hF hf K hK => ?_, ?_⟩
      · have hFc := hF.cell
        have hFf := hF.frozen
        go_big_quiet_op
        first | exact hK | (apply Exists.intro; refine ⟨fun _ => ?_, ?_⟩; (· fail); exact hK)
      (try simp only [Act.put, List.setIfInBounds_toArray, List.set_cons_zero, List.set_cons_succ])
      refine relQuiet rfl rfl ?_
      apply Exists.intro
      refine ⟨fun F hF hf K hK => ?_, ?_⟩
      · have hFc := hF.cell
        have hFf := hF.frozen
        go_big_quiet_op
        first | exact hK | (apply Exists.intro; refine ⟨fun _ => ?_, ?_⟩; (· fail); exact hK)
      (try simp only [Act.put, List.setIfInBounds_toArray, List.set_cons_zero, List.set_cons_succ])
      refine relQuiet rfl rfl ?_
      apply Exists.intro
      refine ⟨fun F hF hf K hK => ?_, ?_⟩
      · have hFc := hF.cell
        have hFf := hF.frozen
        go_big_quiet_op
        first | exact hK | (apply Exists.intro; refine ⟨fun _ => ?_, ?_⟩; (· fail); exact hK)
      (try simp only [Act.put, List.setIfInBounds_toArray, List.set_cons_zero, List.set_cons_succ])
      refine relQuiet rfl rfl ?_
      apply Exists.intro
      refine ⟨fun F hF hf K hK => ?_, ?_⟩
      · have hFc := hF.cell
        have hFf := hF.frozen
        go_big_quiet_op
        first | exact hK | (apply Exists.intro; refine ⟨fun _ => ?_, ?_⟩; (· fail); exact hK)
      (try simp only [Act.put, List.setIfInBounds_toArray, List.set_cons_zero, List.set_cons_succ])
      refine relTold rfl rfl ?_ ?_
      · intro F hF hf d
        have hFc := hF.cell
        have hFf := hF.frozen
        simp [yieldsR, yieldsUpon, go_sem]
        refine (u16_any _ _ (by simp [be_len]) (n : Int) (by omega) (F d) ((Own8.bytes H3.out.2).up (hF.below d))).mono ?_
        rintro e' w8 ⟨v8, rfl, ho8, hb8⟩
        exact ⟨_, rfl, ho8.low (hF.below d).size, hb8⟩
      (try simp only [Act.put, List.setIfInBounds_toArray, List.set_cons_zero, List.set_cons_succ])
      refine relQuiet rfl rfl ?_
      apply Exists.intro
      refine ⟨fun F hF hf K hK => ?_, ?_⟩
      · have hFc := hF.cell
        have hFf := hF.frozen
        go_big_quiet_op
        first | exact hK | (apply Exists.intro; refine ⟨fun _ => ?_, ?_⟩; (· fail); exact hK)
      (try simp only [Act.put, List.setIfInBounds_toArray, List.set_cons_zero, List.set_cons_succ])
      refine relQuiet rfl rfl ?_
      apply Exists.intro
      refine ⟨fun F hF hf K hK => ?_, ?_⟩
      · have hFc := hF.cell
        have hFf := hF.frozen
        go_big_quiet_op
        first | exact hK | (apply Exists.intro; refine ⟨fun _ => ?_, ?_⟩; (· fail); exact hK)
      (try simp only [Act.put, List.setIfInBounds_toArray, List.set_cons_zero, List.set_cons_succ])
      refine relEnd ?_
      exact rfl
    · intro x
      simp only [putsK, List.foldl_cons, List.foldl_nil, Act.put, List.setIfInBounds_toArray, List.set_cons_zero, List.set_cons_succ]
    · intro W4 xs hB4 hf
      simp only [List.drop_succ_cons, List.drop_zero]
      have h4 := hf _ List.mem_cons_self
      obtain ⟨y4, ey4⟩ : ∃ q, xs 4 = q := ⟨_, rfl⟩
      simp only [ey4] at h4
      simp only [ey4]
      have H4 : Hid (Below w.heap.size w W4 ∧ Own8 W4 W3.heap.size y4 ([82, 1, k, f, t] ++ be 4 v ++ be 4 s ++ be 2 (n : Int)) ∧ W3.heap.size ≤ W4.heap.size ∧ Bytes W4 (.slice p n c) b ∧ Below W3.heap.size W3 W4) := ⟨bstep H3.out.1 hB4, h4, hB4.size, HE.out.2.2.2.1.up (bstep H3.out.1 hB4), hB4⟩
      have hl4 : ([82, 1, k, f, t] ++ be 4 v ++ be 4 s ++ be 2 (n : Int)).length + b.length ≤ 1073741824 := by rw [HE.out.2.2.1]; simp [be_len]; omega
      have H3w : Hid (Below w.heap.size w W3) := H3.out.1
      clear hf h4 hB4 ey4 H3 x5 kx
      go_wp2_with (at_builtin; refine wpList_append8 rfl (.tmp 28) (.tmp 30) rfl W3.heap.size _ _ rfl H4.out.2.1 _ b rfl H4.out.2.2.2.1 hl4 H4.out.2.2.1 W3 H4.out.2.2.2.2 ?_; intro v5 W5 HO5 B5; have HB5 := hid2 B5 B5; clear B5)
      have H5 : Hid (Own8 W5 W3.heap.size v5 (hF k f t v s b) ∧ Below w.heap.size w W5) := ⟨by
        have := HO5.out
        rw [show hF k f t v s b = [82, 1, k, f, t] ++ be 4 v ++ be 4 s ++ be 2 (n : Int) ++ b by simp [hF, HE.out.2.2.1]]
        exact this, bstep H3w.out HB5.out.1⟩
      clear HO5 hl4 H4 HB5
      go_wp2_with fail
      have cr := rof_any v5 (hF k f t v s b) HE.out.2.2.2.2.2 (by rw [hF_len, HE.out.2.2.1]; omega) W5 H5.out.1.bytes
      refine cr.mono ?_
      rintro e w6 ⟨rfl, rfl⟩
      clear cr
      go_wp2_with fail
      have hcl := crc_lt _ HE.out.2.2.2.2.2
      refine (u32_any v5 (hF k f t v s b) (by rw [hF_len, HE.out.2.2.1]; omega) _ (by omega) w6 H5.out.1.bytes).mono ?_
      rintro e w7 ⟨v7, rfl, ho7, hb7⟩
      have H7 : Hid (Own8 w7 w.heap.size v7 L ∧ Below w.heap.size w w7) := by
        have h8 : Below w.heap.size w w6 := H5.out.2
        refine ⟨?_, bstep h8 hb7⟩
        rw [← HE.out.1]
        exact ho7.low h8.size
      clear ho7 hb7 hcl
      go_wp2
      exact bodyPost_ret (v := v7) (by simp [results, Try.results37, go_sem]) rfl ⟨_, rfl, H7.out⟩
end Go.Proofs.Ythmpfdkbpdbhnaa.Wd
