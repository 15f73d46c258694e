/- FrameApart: unlike frames have unlike bytes. -/
import Derived.Test.YtdllobikpjejiaaFrO
import Derived.Test.YtdllobikpjejiaaFrW
import Derived.Test.YtdllobikpjejiaaRow
namespace Go.Proofs.Ytdllobikpjejiaa.Wd
open Go.RowKit
set_option linter.unusedVariables false
set_option linter.unusedSimpArgs false
set_option maxRecDepth 8000
set_option maxHeartbeats 8000000
theorem fapart_walk (w : World) (k1 f1 t1 v1 s1 : Int) (z1 : Nat → Int) (n1 c1 : Nat) (p1 : Option Addr) (k2 f2 t2 v2 s2 : Int) (z2 : Nat → Int) (n2 c2 : Nat) (p2 : Option Addr)
    (hv1 : 0 ≤ v1 ∧ v1 < 4294967296) (hs1 : 0 ≤ s1 ∧ s1 < 4294967296) (hr1 : RowN .u8 w p1 n1 c1 z1) (hv2 : 0 ≤ v2 ∧ v2 < 4294967296) (hs2 : 0 ≤ s2 ∧ s2 < 4294967296) (hr2 : RowN .u8 w p2 n2 c2 z2) :
    Calls Try.prog 7 #[.agg #[.int .i64 k1, .int .i64 f1, .int .i64 t1, .int .u32 v1, .int .u32 s1, .slice p1 n1 c1], .agg #[.int .i64 k2, .int .i64 f2, .int .i64 t2, .int .u32 v2, .int .u32 s2, .slice p2 n2 c2]] w fun e w' => e = .returned (.bool true) ∧ Below w.heap.size w w' := by
  haveI : Nonempty World := ⟨w⟩
  obtain ⟨b1, eb1⟩ : ∃ l, lst n1 z1 = l := ⟨_, rfl⟩
  obtain ⟨b2, eb2⟩ : ∃ l, lst n2 z2 = l := ⟨_, rfl⟩
  have HN : Hid ((Bytes w (.slice p1 n1 c1) b1 ∧ By8 b1 ∧ b1.length = n1) ∧ (Bytes w (.slice p2 n2 c2) b2 ∧ By8 b2 ∧ b2.length = n2) ∧ ((0 ≤ v1 ∧ v1 < 4294967296) ∧ (0 ≤ s1 ∧ s1 < 4294967296)) ∧ (0 ≤ v2 ∧ v2 < 4294967296) ∧ (0 ≤ s2 ∧ s2 < 4294967296)) := by
    rw [← eb1, ← eb2]
    exact ⟨⟨hr1.bytes, hr1.rng, lst_len _ _⟩, ⟨hr2.bytes, hr2.rng, lst_len _ _⟩, ⟨hv1, hs1⟩, hv2, hs2⟩
  clear hr1 hr2 eb1 eb2 hv1 hs1 hv2 hs2
  go_enter Try.func7, Try.ntmps7
  go_wp2_with fail
  generalize hW0 : World.alloc _ _ = W0
  have HB0 : Hid (Below w.heap.size w W0) := by rw [← hW0]; exact bstep (up_alloc _ _) (up_alloc _ _)
  obtain ⟨x0, x1, x2, x3, x4, x5⟩ : W0.cell? ⟨w.heap.size, 0, none⟩ = some (.int .i64 k1) ∧ W0.cell? ⟨w.heap.size, 1, none⟩ = some (.int .i64 f1) ∧ W0.cell? ⟨w.heap.size, 2, none⟩ = some (.int .i64 t1) ∧ W0.cell? ⟨w.heap.size, 3, none⟩ = some (.int .u32 v1) ∧ W0.cell? ⟨w.heap.size, 4, none⟩ = some (.int .u32 s1) ∧ W0.cell? ⟨w.heap.size, 5, none⟩ = some (.slice p1 n1 c1) := by rw [← hW0]; simp [go_sem]
  obtain ⟨y0, y1, y2, y3, y4, y5⟩ : W0.cell? ⟨w.heap.size + 1, 0, none⟩ = some (.int .i64 k2) ∧ W0.cell? ⟨w.heap.size + 1, 1, none⟩ = some (.int .i64 f2) ∧ W0.cell? ⟨w.heap.size + 1, 2, none⟩ = some (.int .i64 t2) ∧ W0.cell? ⟨w.heap.size + 1, 3, none⟩ = some (.int .u32 v2) ∧ W0.cell? ⟨w.heap.size + 1, 4, none⟩ = some (.int .u32 s2) ∧ W0.cell? ⟨w.heap.size + 1, 5, none⟩ = some (.slice p2 n2 c2) := by rw [← hW0]; simp [go_sem]
  clear hW0
  refine (awake18_any W0).mono ?_
  rintro e w1 ⟨rfl, hB⟩
  replace x0 := still_cell hB x0
  replace x1 := still_cell hB x1
  replace x2 := still_cell hB x2
  replace x3 := still_cell hB x3
  replace x4 := still_cell hB x4
  replace x5 := still_cell hB x5
  replace y0 := still_cell hB y0
  replace y1 := still_cell hB y1
  replace y2 := still_cell hB y2
  replace y3 := still_cell hB y3
  replace y4 := still_cell hB y4
  replace y5 := still_cell hB y5
  have kx := cell_lt x0
  have ky := cell_lt y0
  have HB1 : Hid (Below w.heap.size w w1) := bstep HB0.out hB
  clear hB HB0
  by_cases a1 : 600 < n1
  · have : (600 : Int) < (n1 : Int) := by omega
    go_wp2
    go_ret
    exact ⟨rfl, HB1.out⟩
  have a1' : (n1 : Int) ≤ 600 := by omega
  by_cases a2 : 600 < n2
  · have : (600 : Int) < (n2 : Int) := by omega
    go_wp2
    go_ret
    exact ⟨rfl, HB1.out⟩
  have a2' : (n2 : Int) ≤ 600 := by omega
  go_wp2_with fail
  refine (pfgood_any k1 f1 t1 v1 s1 p1 n1 c1 w1).mono ?_
  rintro e w2 ⟨rfl, hB⟩
  replace x0 := still_cell hB x0
  replace x1 := still_cell hB x1
  replace x2 := still_cell hB x2
  replace x3 := still_cell hB x3
  replace x4 := still_cell hB x4
  replace x5 := still_cell hB x5
  replace y0 := still_cell hB y0
  replace y1 := still_cell hB y1
  replace y2 := still_cell hB y2
  replace y3 := still_cell hB y3
  replace y4 := still_cell hB y4
  replace y5 := still_cell hB y5
  replace kx := cell_lt x0
  replace ky := cell_lt y0
  have HB2 : Hid (Below w.heap.size w w2) := bstep HB1.out hB
  clear hB HB1
  by_cases g1 : goodF k1 f1 t1 n1
  case neg =>
    rw [decide_eq_false g1]
    go_wp2
    go_ret
    exact ⟨rfl, HB2.out⟩
  rw [decide_eq_true g1]
  go_wp2_with fail
  refine (pfgood_any k2 f2 t2 v2 s2 p2 n2 c2 w2).mono ?_
  rintro e w3 ⟨rfl, hB⟩
  replace x0 := still_cell hB x0
  replace x1 := still_cell hB x1
  replace x2 := still_cell hB x2
  replace x3 := still_cell hB x3
  replace x4 := still_cell hB x4
  replace x5 := still_cell hB x5
  replace y0 := still_cell hB y0
  replace y1 := still_cell hB y1
  replace y2 := still_cell hB y2
  replace y3 := still_cell hB y3
  replace y4 := still_cell hB y4
  replace y5 := still_cell hB y5
  replace kx := cell_lt x0
  replace ky := cell_lt y0
  have HB3 : Hid (Below w.heap.size w w3) := bstep HB2.out hB
  clear hB HB2
  by_cases g2 : goodF k2 f2 t2 n2
  case neg =>
    rw [decide_eq_false g2]
    go_wp2
    go_ret
    exact ⟨rfl, HB3.out⟩
  rw [decide_eq_true g2]
  obtain ⟨E1, eE1⟩ : ∃ l, encF k1 f1 t1 v1 s1 b1 = l := ⟨_, rfl⟩
  obtain ⟨E2, eE2⟩ : ∃ l, encF k2 f2 t2 v2 s2 b2 = l := ⟨_, rfl⟩
  have HE : Hid (By8 E1 ∧ By8 E2 ∧ E1.length = 19 + n1 ∧ (decide (E1 = E2) = decide (k1 = k2 ∧ f1 = f2 ∧ t1 = t2 ∧ v1 = v2 ∧ s1 = s2 ∧ b1 = b2))) := by
    obtain ⟨⟨_, hb1, hl1⟩, ⟨_, hb2, hl2⟩, ⟨hv1, hs1⟩, hv2, hs2⟩ := HN.out
    have e1 : encF k1 f1 t1 v1 s1 b1 = encL k1 f1 t1 v1 s1 b1 := if_pos (by rw [hl1]; exact g1)
    have e2 : encF k2 f2 t2 v2 s2 b2 = encL k2 f2 t2 v2 s2 b2 := if_pos (by rw [hl2]; exact g2)
    refine ⟨by rw [← eE1]; exact encF_by hb1, by rw [← eE2]; exact encF_by hb2, by rw [← eE1, e1, encL_len, hl1], decide_eq_decide.2 ⟨fun h => ?_, fun h => ?_⟩⟩
    · obtain ⟨u1, u2, u3, u4, u5, u6⟩ := enc_read (k := k1) (f := f1) (t := t1) (b := b1) hv1 hs1
      obtain ⟨q1, q2, q3, q4, q5, q6⟩ := enc_read (k := k2) (f := f2) (t := t2) (b := b2) hv2 hs2
      rw [← e1, eE1, h] at u1 u2 u3 u4 u5 u6
      rw [← e2, eE2] at q1 q2 q3 q4 q5 q6
      exact ⟨u1.symm.trans q1, u2.symm.trans q2, u3.symm.trans q3, u4.symm.trans q4, u5.symm.trans q5, u6.symm.trans q6⟩
    · obtain ⟨rfl, rfl, rfl, rfl, rfl, rfl⟩ := h
      rw [← eE1, ← eE2]
  have cE1 : Hid (∀ W, Below w3.heap.size w3 W → Calls Try.prog 10 #[.agg #[.int .i64 k1, .int .i64 f1, .int .i64 t1, .int .u32 v1, .int .u32 s1, .slice p1 n1 c1]] W fun e w' => ∃ v', e = .returned v' ∧ Own8 w' W.heap.size v' E1 ∧ Below W.heap.size W w') := fun W hW => by
    rw [← eE1]
    exact pfenc_any k1 f1 t1 v1 s1 p1 n1 c1 b1 HN.out.2.2.1.1 HN.out.2.2.1.2 HN.out.1.2.1 W (HN.out.1.1.up (bstep HB3.out hW)) HN.out.1.2.2
  have cE2 : Hid (∀ W, Below w3.heap.size w3 W → Calls Try.prog 10 #[.agg #[.int .i64 k2, .int .i64 f2, .int .i64 t2, .int .u32 v2, .int .u32 s2, .slice p2 n2 c2]] W fun e w' => ∃ v', e = .returned v' ∧ Own8 w' W.heap.size v' E2 ∧ Below W.heap.size W w') := fun W hW => by
    rw [← eE2]
    exact pfenc_any k2 f2 t2 v2 s2 p2 n2 c2 b2 HN.out.2.2.2.1 HN.out.2.2.2.2 HN.out.2.1.2.1 W (HN.out.2.1.1.up (bstep HB3.out hW)) HN.out.2.1.2.2
  clear eE1 eE2 g1 g2
  go_wp2_with fail
  refine rel [⟨1, 30, OwnR w3.heap.size E1⟩, ⟨3, 32, OwnR w3.heap.size E2⟩] 4 53 (by kernel_rfl) rfl rfl (by kernel_rfl) (by rfl) ?_ ?_
  · intro e he v W W' h hb
    simp only [List.mem_cons, List.not_mem_nil, or_false] at he
    rcases he with rfl | rfl
    · exact OwnR.up h hb
    · exact OwnR.up h hb
  apply Exists.intro
  refine ⟨fun x => ?_, ?_, ?_⟩
  · simp only [List.take_succ_cons, List.take_zero]
    refine relQuiet rfl rfl ?_
    apply Exists.intro
    refine ⟨fun F hF hf K hK => ?_, ?_⟩
    · have hFc := hF.cell
      have hFf := hF.frozen
      go_big_quiet_op
      first | exact hK | (apply Exists.intro; refine ⟨fun _ => ?_, ?_⟩; (· fail); exact hK)
    (try simp only [Act.put, List.setIfInBounds_toArray, List.set_cons_zero, List.set_cons_succ])
    refine relTold rfl rfl ?_ ?_
    · intro F hF hf d
      have hFc := hF.cell
      have hFf := hF.frozen
      simp [yieldsR, yieldsUpon, go_sem]
      refine (cE1.out (F d) (hF.below d)).mono ?_
      rintro e' w8 ⟨v8, rfl, ho8, hb8⟩
      exact ⟨_, rfl, ho8.low (hF.below d).size, hb8⟩
    (try simp only [Act.put, List.setIfInBounds_toArray, List.set_cons_zero, List.set_cons_succ])
    refine relQuiet rfl rfl ?_
    apply Exists.intro
    refine ⟨fun F hF hf K hK => ?_, ?_⟩
    · have hFc := hF.cell
      have hFf := hF.frozen
      go_big_quiet_op
      first | exact hK | (apply Exists.intro; refine ⟨fun _ => ?_, ?_⟩; (· fail); exact hK)
    (try simp only [Act.put, List.setIfInBounds_toArray, List.set_cons_zero, List.set_cons_succ])
    refine relTold rfl rfl ?_ ?_
    · intro F hF hf d
      have hFc := hF.cell
      have hFf := hF.frozen
      simp [yieldsR, yieldsUpon, go_sem]
      refine (cE2.out (F d) (hF.below d)).mono ?_
      rintro e' w8 ⟨v8, rfl, ho8, hb8⟩
      exact ⟨_, rfl, ho8.low (hF.below d).size, hb8⟩
    (try simp only [Act.put, List.setIfInBounds_toArray, List.set_cons_zero, List.set_cons_succ])
    refine relEnd ?_
    exact rfl
  · intro x
    simp only [putsK, List.foldl_cons, List.foldl_nil, Act.put, List.setIfInBounds_toArray, List.set_cons_zero, List.set_cons_succ]
  · intro z4 xs hBz hf
    simp only [List.drop_succ_cons, List.drop_zero]
    have h1 := hf _ List.mem_cons_self
    have h3 := hf _ (List.mem_cons_of_mem _ List.mem_cons_self)
    obtain ⟨q1, eq1⟩ : ∃ q, xs 1 = q := ⟨_, rfl⟩
    obtain ⟨q3, eq3⟩ : ∃ q, xs 3 = q := ⟨_, rfl⟩
    simp only [eq1] at h1
    simp only [eq3] at h3
    simp only [eq1, eq3]
    obtain ⟨pa, ca, rfl, _⟩ := own8_form h1
    obtain ⟨pb, cb, rfl, _⟩ := own8_form h3
    have HO : Hid (Below w.heap.size w z4 ∧ Bytes z4 (.slice pa E1.length ca) E1 ∧ Bytes z4 (.slice pb E2.length cb) E2) := ⟨bstep HB3.out hBz, Own8.bytes h1, Own8.bytes h3⟩
    replace x0 := still_cell hBz x0
    replace x1 := still_cell hBz x1
    replace x2 := still_cell hBz x2
    replace x3 := still_cell hBz x3
    replace x4 := still_cell hBz x4
    replace x5 := still_cell hBz x5
    replace y0 := still_cell hBz y0
    replace y1 := still_cell hBz y1
    replace y2 := still_cell hBz y2
    replace y3 := still_cell hBz y3
    replace y4 := still_cell hBz y4
    replace y5 := still_cell hBz y5
    replace kx := cell_lt x0
    replace ky := cell_lt y0
    clear hf h1 h3 hBz eq1 eq3 cE1 cE2 HB3
    have hl : (E1.length : Int) = 19 + (n1 : Int) := by rw [HE.out.2.2.1]; omega
    obtain ⟨e1, ee1⟩ : ∃ x, E1.length = x := ⟨_, rfl⟩
    obtain ⟨e2, ee2⟩ : ∃ x, E2.length = x := ⟨_, rfl⟩
    rw [ee1] at HO hl ⊢
    rw [ee2] at HO ⊢
    have hle : ((e1 : Int) == 19 + (n1 : Int)) = true := by simpa using hl
    obtain ⟨r, er⟩ : ∃ r, decide (E1 = E2) = r := ⟨_, rfl⟩
    have hq : ((str E1).toList == (str E2).toList) = r := by rw [str_eq HE.out.1 HE.out.2.1, er]
    have HR : Hid (decide (k1 = k2 ∧ f1 = f2 ∧ t1 = t2 ∧ v1 = v2 ∧ s1 = s2 ∧ b1 = b2) = r) := by
      show _ = _
      rw [← HE.out.2.2.2, er]
    have hrr : (r == r) = true := by simp
    have cS : Hid (∀ W, Below z4.heap.size z4 W → Calls Try.prog 13 #[.agg #[.int .i64 k1, .int .i64 f1, .int .i64 t1, .int .u32 v1, .int .u32 s1, .slice p1 n1 c1], .agg #[.int .i64 k2, .int .i64 f2, .int .i64 t2, .int .u32 v2, .int .u32 s2, .slice p2 n2 c2]] W fun e w' => e = .returned (.bool r) ∧ Below W.heap.size W w') := fun W hW => by
      have := fsame_any k1 f1 t1 v1 s1 k2 f2 t2 v2 s2 p1 p2 n1 c1 n2 c2 b1 b2 HN.out.1.2.1 HN.out.2.1.2.1 W (HN.out.1.1.up (bstep HO.out.1 hW)) (HN.out.2.1.1.up (bstep HO.out.1 hW))
      rw [HR.out] at this
      exact this
    have cO1 : ∀ W, Calls Try.prog 14 #[.agg #[.int .i64 k1, .int .i64 f1, .int .i64 t1, .int .u32 v1, .int .u32 s1, .slice p1 n1 c1]] W fun e w' => e = .returned (.agg #[.int .i64 k1, .int .i64 f1, .int .i64 t1, .int .u32 v1, .int .u32 s1, .slice p1 n1 c1]) ∧ Below W.heap.size W w' := fun W => fown_any k1 f1 t1 v1 s1 p1 n1 c1 W
    have cO2 : ∀ W, Calls Try.prog 14 #[.agg #[.int .i64 k2, .int .i64 f2, .int .i64 t2, .int .u32 v2, .int .u32 s2, .slice p2 n2 c2]] W fun e w' => e = .returned (.agg #[.int .i64 k2, .int .i64 f2, .int .i64 t2, .int .u32 v2, .int .u32 s2, .slice p2 n2 c2]) ∧ Below W.heap.size W w' := fun W => fown_any k2 f2 t2 v2 s2 p2 n2 c2 W
    have HE2 : Hid (By8 E1 ∧ By8 E2) := ⟨HE.out.1, HE.out.2.1⟩
    clear er ee1 ee2 hl HR HN HE
    go_wp2_with fail
    refine rel [] 20 53 (by kernel_rfl) rfl rfl (by kernel_rfl) (by rfl) ?_ ?_
    · intro e he
      simp at he
    apply Exists.intro
    refine ⟨fun x => ?_, ?_, ?_⟩
    · simp only [List.take_succ_cons, List.take_zero]
      refine relQuiet rfl rfl ?_
      apply Exists.intro
      refine ⟨fun F hF hf K hK => ?_, ?_⟩
      · have hFc := hF.cell
        have hFf := hF.frozen
        go_big_quiet_op
        first | exact hK | (apply Exists.intro; refine ⟨fun _ => ?_, ?_⟩; (· fail); exact hK)
      (try simp only [Act.put, List.setIfInBounds_toArray, List.set_cons_zero, List.set_cons_succ])
      refine relQuiet rfl rfl ?_
      apply Exists.intro
      refine ⟨fun F hF hf K hK => ?_, ?_⟩
      · have hFc := hF.cell
        have hFf := hF.frozen
        go_big_quiet_op
        first | exact hK | (apply Exists.intro; refine ⟨fun _ => ?_, ?_⟩; (· fail); exact hK)
      (try simp only [Act.put, List.setIfInBounds_toArray, List.set_cons_zero, List.set_cons_succ])
      refine relQuiet rfl rfl ?_
      apply Exists.intro
      refine ⟨fun F hF hf K hK => ?_, ?_⟩
      · have hFc := hF.cell
        have hFf := hF.frozen
        go_big_quiet_op
        first | exact hK | (apply Exists.intro; refine ⟨fun _ => ?_, ?_⟩; (· fail); exact hK)
      (try simp only [Act.put, List.setIfInBounds_toArray, List.set_cons_zero, List.set_cons_succ])
      refine relQuiet rfl rfl ?_
      apply Exists.intro
      refine ⟨fun F hF hf K hK => ?_, ?_⟩
      · have hFc := hF.cell
        have hFf := hF.frozen
        go_big_quiet_op
        first | exact hK | (apply Exists.intro; refine ⟨fun _ => ?_, ?_⟩; (· fail); exact hK)
      (try simp only [Act.put, List.setIfInBounds_toArray, List.set_cons_zero, List.set_cons_succ])
      refine relQuiet rfl rfl ?_
      apply Exists.intro
      refine ⟨fun F hF hf K hK => ?_, ?_⟩
      · have hFc := hF.cell
        have hFf := hF.frozen
        go_big_quiet_op
        first | exact hK | (apply Exists.intro; refine ⟨fun _ => ?_, ?_⟩; (· fail); exact hK)
      (try simp only [Act.put, List.setIfInBounds_toArray, List.set_cons_zero, List.set_cons_succ])
      refine relQuiet rfl rfl ?_
      apply Exists.intro
      refine ⟨fun F hF hf K hK => ?_, ?_⟩
      · have hFc := hF.cell
        have hFf := hF.frozen
        go_big_quiet_op
        first | exact hK | (apply Exists.intro; refine ⟨fun _ => ?_, ?_⟩; (· fail); exact hK)
      (try simp only [Act.put, List.setIfInBounds_toArray, List.set_cons_zero, List.set_cons_succ])
      refine relQuiet rfl rfl ?_
      apply Exists.intro
      refine ⟨fun F hF hf K hK => ?_, ?_⟩
      · have hFc := hF.cell
        have hFf := hF.frozen
        go_big_quiet_op
        first | exact hK | (apply Exists.intro; refine ⟨fun _ => ?_, ?_⟩; (· fail); exact hK)
      (try simp only [Act.put, List.setIfInBounds_toArray, List.set_cons_zero, List.set_cons_succ])
      refine relQuiet rfl rfl ?_
      apply Exists.intro
      refine ⟨fun F hF hf K hK => ?_, ?_⟩
      · have hFc := hF.cell
        have hFf := hF.frozen
        go_big_quiet_op
        first | exact hK | (apply Exists.intro; refine ⟨fun _ => ?_, ?_⟩; (· fail); exact hK)
      (try simp only [Act.put, List.setIfInBounds_toArray, List.set_cons_zero, List.set_cons_succ])
      refine relQuiet rfl rfl ?_
      apply Exists.intro
      refine ⟨fun F hF hf K hK => ?_, ?_⟩
      · have hFc := hF.cell
        have hFf := hF.frozen
        go_big_quiet_op
        first | exact hK | (apply Exists.intro; refine ⟨fun _ => ?_, ?_⟩; (· fail); exact hK)
      (try simp only [Act.put, List.setIfInBounds_toArray, List.set_cons_zero, List.set_cons_succ])
      refine relQuiet rfl rfl ?_
      apply Exists.intro
      refine ⟨fun F hF hf K hK => ?_, ?_⟩
      · have hFc := hF.cell
        have hFf := hF.frozen
        have hcv : ∀ d, Sem.run Try.prog (convert 24 9 (.slice pa e1 ca)) (F d) = .ok (.string (str E1)) (F d) := fun d => conv_any (HO.out.2.1.up (hF.below d)) HE2.out.1
        go_big_quiet_op
        first | exact hK | (apply Exists.intro; refine ⟨fun _ => ?_, ?_⟩; (· fail); exact hK)
      (try simp only [Act.put, List.setIfInBounds_toArray, List.set_cons_zero, List.set_cons_succ])
      refine relQuiet rfl rfl ?_
      apply Exists.intro
      refine ⟨fun F hF hf K hK => ?_, ?_⟩
      · have hFc := hF.cell
        have hFf := hF.frozen
        go_big_quiet_op
        first | exact hK | (apply Exists.intro; refine ⟨fun _ => ?_, ?_⟩; (· fail); exact hK)
      (try simp only [Act.put, List.setIfInBounds_toArray, List.set_cons_zero, List.set_cons_succ])
      refine relQuiet rfl rfl ?_
      apply Exists.intro
      refine ⟨fun F hF hf K hK => ?_, ?_⟩
      · have hFc := hF.cell
        have hFf := hF.frozen
        have hcv : ∀ d, Sem.run Try.prog (convert 24 9 (.slice pb e2 cb)) (F d) = .ok (.string (str E2)) (F d) := fun d => conv_any (HO.out.2.2.up (hF.below d)) HE2.out.2
        go_big_quiet_op
        first | exact hK | (apply Exists.intro; refine ⟨fun _ => ?_, ?_⟩; (· fail); exact hK)
      (try simp only [Act.put, List.setIfInBounds_toArray, List.set_cons_zero, List.set_cons_succ])
      refine relQuiet rfl rfl ?_
      apply Exists.intro
      refine ⟨fun F hF hf K hK => ?_, ?_⟩
      · have hFc := hF.cell
        have hFf := hF.frozen
        go_big_quiet_op
        first | exact hK | (apply Exists.intro; refine ⟨fun _ => ?_, ?_⟩; (· fail); exact hK)
      (try simp only [Act.put, List.setIfInBounds_toArray, List.set_cons_zero, List.set_cons_succ])
      refine relQuiet rfl rfl ?_
      apply Exists.intro
      refine ⟨fun F hF hf K hK => ?_, ?_⟩
      · have hFc := hF.cell
        have hFf := hF.frozen
        go_big_quiet_op
        first | exact hK | (apply Exists.intro; refine ⟨fun _ => ?_, ?_⟩; (· fail); exact hK)
      (try simp only [Act.put, List.setIfInBounds_toArray, List.set_cons_zero, List.set_cons_succ])
      refine relQuiet rfl rfl ?_
      apply Exists.intro
      refine ⟨fun F hF hf K hK => ?_, ?_⟩
      · have hFc := hF.cell
        have hFf := hF.frozen
        go_big_quiet_op
        first | exact hK | (apply Exists.intro; refine ⟨fun _ => ?_, ?_⟩; (· exact hF.call (cO1 _)); exact hK)
      (try simp only [Act.put, List.setIfInBounds_toArray, List.set_cons_zero, List.set_cons_succ])
      refine relQuiet rfl rfl ?_
      apply Exists.intro
      refine ⟨fun F hF hf K hK => ?_, ?_⟩
      · have hFc := hF.cell
        have hFf := hF.frozen
        go_big_quiet_op
        first | exact hK | (apply Exists.intro; refine ⟨fun _ => ?_, ?_⟩; (· fail); exact hK)
      (try simp only [Act.put, List.setIfInBounds_toArray, List.set_cons_zero, List.set_cons_succ])
      refine relQuiet rfl rfl ?_
      apply Exists.intro
      refine ⟨fun F hF hf K hK => ?_, ?_⟩
      · have hFc := hF.cell
        have hFf := hF.frozen
        go_big_quiet_op
        first | exact hK | (apply Exists.intro; refine ⟨fun _ => ?_, ?_⟩; (· exact hF.call (cO2 _)); exact hK)
      (try simp only [Act.put, List.setIfInBounds_toArray, List.set_cons_zero, List.set_cons_succ])
      refine relQuiet rfl rfl ?_
      apply Exists.intro
      refine ⟨fun F hF hf K hK => ?_, ?_⟩
      · have hFc := hF.cell
        have hFf := hF.frozen
        go_big_quiet_op
        first | exact hK | (apply Exists.intro; refine ⟨fun _ => ?_, ?_⟩; (· exact hF.call (cS.out _ (hF.below _))); exact hK)
      (try simp only [Act.put, List.setIfInBounds_toArray, List.set_cons_zero, List.set_cons_succ])
      refine relQuiet rfl rfl ?_
      apply Exists.intro
      refine ⟨fun F hF hf K hK => ?_, ?_⟩
      · have hFc := hF.cell
        have hFf := hF.frozen
        go_big_quiet_op
        first | exact hK | (apply Exists.intro; refine ⟨fun _ => ?_, ?_⟩; (· fail); exact hK)
      (try simp only [Act.put, List.setIfInBounds_toArray, List.set_cons_zero, List.set_cons_succ])
      refine relQuiet rfl rfl ?_
      apply Exists.intro
      refine ⟨fun F hF hf K hK => ?_, ?_⟩
      · have hFc := hF.cell
        have hFf := hF.frozen
        go_big_quiet_op
        first | exact hK | (apply Exists.intro; refine ⟨fun _ => ?_, ?_⟩; (· fail); exact hK)
      (try simp only [Act.put, List.setIfInBounds_toArray, List.set_cons_zero, List.set_cons_succ])
      refine relEnd ?_
      exact rfl
    · intro x
      simp only [putsK, List.foldl_nil]
    · intro z5 xs hBz hf
      simp only [List.drop_succ_cons, List.drop_zero]
      have HB5 : Hid (Below w.heap.size w z5) := bstep HO.out.1 hBz
      clear hf hBz cS cO1 cO2 HO x0 x1 x2 x3 x4 x5 y0 y1 y2 y3 y4 y5 kx ky
      go_wp2
      go_ret
      exact ⟨rfl, HB5.out⟩
end Go.Proofs.Ytdllobikpjejiaa.Wd
