/- MsgBack: a message is read back; unlike ones have unlike bytes. -/
import Derived.Test.YthmpfdkbpdbhnaaMsW
import Derived.Test.YthmpfdkbpdbhnaaMsO
namespace Go.Proofs.Ythmpfdkbpdbhnaa.Wd
open Go.RowKit
set_option linter.unusedVariables false
set_option linter.unusedSimpArgs false
set_option maxRecDepth 20000
set_option maxHeartbeats 8000000
theorem put_inj {k1 f1 t1 v1 s1 k2 f2 t2 v2 s2 : Int} {N1 V1 N2 V2 : List Int} (hg1 : goodG k1 f1 t1 N1.length V1.length) (hv1 : 0 ≤ v1 ∧ v1 < 4294967296) (hs1 : 0 ≤ s1 ∧ s1 < 4294967296) (a1 : ∀ a, a ∈ N1 → In64 a) (b1 : ∀ a, a ∈ V1 → In128 a)
    (hg2 : goodG k2 f2 t2 N2.length V2.length) (hv2 : 0 ≤ v2 ∧ v2 < 4294967296) (hs2 : 0 ≤ s2 ∧ s2 < 4294967296) (a2 : ∀ a, a ∈ N2 → In64 a) (b2 : ∀ a, a ∈ V2 → In128 a) :
    putG k1 f1 t1 v1 s1 N1 V1 = putG k2 f2 t2 v2 s2 N2 V2 ↔ (k1 = k2 ∧ f1 = f2 ∧ t1 = t2 ∧ v1 = v2 ∧ s1 = s2 ∧ N1 = N2 ∧ V1 = V2) := by
  constructor
  · intro h
    obtain ⟨_, _, c1, c2, c3, c4, c5, c6, c7⟩ := put_get hg1 hv1 hs1 a1 b1
    obtain ⟨_, _, d1, d2, d3, d4, d5, d6, d7⟩ := put_get hg2 hv2 hs2 a2 b2
    rw [h] at c1 c2 c3 c4 c5 c6 c7
    exact ⟨c1.symm.trans d1, c2.symm.trans d2, c3.symm.trans d3, c4.symm.trans d4, c5.symm.trans d5, c6.symm.trans d6, c7.symm.trans d7⟩
  · rintro ⟨rfl, rfl, rfl, rfl, rfl, rfl, rfl⟩
    rfl
theorem mback_walk (w : World) (k1 f1 t1 v1 s1 : Int) (z1 : Nat → Int) (n1 cn1 : Nat) (pn1 : Option Addr) (V1 : List Int) (m1 cv1 : Nat) (pv1 : Option Addr) (k2 f2 t2 v2 s2 : Int) (z2 : Nat → Int) (n2 cn2 : Nat) (pn2 : Option Addr) (V2 : List Int) (m2 cv2 : Nat) (pv2 : Option Addr)
    (hv1 : 0 ≤ v1 ∧ v1 < 4294967296) (hs1 : 0 ≤ s1 ∧ s1 < 4294967296) (hr1 : RowN .i64 w pn1 n1 cn1 z1) (hw1 : WdsN w pv1 m1 cv1 V1) (hv2 : 0 ≤ v2 ∧ v2 < 4294967296) (hs2 : 0 ≤ s2 ∧ s2 < 4294967296) (hr2 : RowN .i64 w pn2 n2 cn2 z2) (hw2 : WdsN w pv2 m2 cv2 V2) :
    Calls Try.prog 5 #[MsV k1 f1 t1 v1 s1 (.slice pn1 n1 cn1) (.slice pv1 m1 cv1), MsV k2 f2 t2 v2 s2 (.slice pn2 n2 cn2) (.slice pv2 m2 cv2)] w fun e w' => e = .returned (.bool true) ∧ Below w.heap.size w w' := by
  haveI : Nonempty World := ⟨w⟩
  obtain ⟨N1, eN1⟩ : ∃ l, nlst n1 z1 = l := ⟨_, rfl⟩
  have HR1 : Hid (MsgR w pn1 n1 cn1 pv1 m1 cv1 N1 V1 ∧ (0 ≤ v1 ∧ v1 < 4294967296) ∧ (0 ≤ s1 ∧ s1 < 4294967296)) := ⟨by rw [← eN1]; exact msgR_in hr1 hw1, hv1, hs1⟩
  clear eN1 hr1 hw1 hv1 hs1
  obtain ⟨N2, eN2⟩ : ∃ l, nlst n2 z2 = l := ⟨_, rfl⟩
  have HR2 : Hid (MsgR w pn2 n2 cn2 pv2 m2 cv2 N2 V2 ∧ (0 ≤ v2 ∧ v2 < 4294967296) ∧ (0 ≤ s2 ∧ s2 < 4294967296)) := ⟨by rw [← eN2]; exact msgR_in hr2 hw2, hv2, hs2⟩
  clear eN2 hr2 hw2 hv2 hs2
  go_enter Try.func5, Try.ntmps5
  go_wp2_with fail
  generalize hW0 : World.alloc _ _ = W0
  have H0 : Hid (Below w.heap.size w W0 ∧ W0.heap[w.heap.size]? = some (.cells #[.int .i64 k1, .int .i64 f1, .int .i64 t1, .int .u32 v1, .int .u32 s1, .slice pn1 n1 cn1, .slice pv1 m1 cv1] 27 (0, 0)) ∧ W0.heap[w.heap.size + 1]? = some (.cells #[.int .i64 k2, .int .i64 f2, .int .i64 t2, .int .u32 v2, .int .u32 s2, .slice pn2 n2 cn2, .slice pv2 m2 cv2] 27 (0, 0))) := by
    rw [← hW0]
    refine ⟨bstep (up_alloc _ _) (up_alloc _ _), ?_, ?_⟩
    · show ((w.heap.push _).push _)[w.heap.size]? = _
      rw [Array.getElem?_push_lt (by simp)]
      simp
    · have h := (Array.getElem?_push_size : ((w.heap.push (.cells #[.int .i64 k1, .int .i64 f1, .int .i64 t1, .int .u32 v1, .int .u32 s1, .slice pn1 n1 cn1, .slice pv1 m1 cv1] 27 (0, 0))).push (.cells #[.int .i64 k2, .int .i64 f2, .int .i64 t2, .int .u32 v2, .int .u32 s2, .slice pn2 n2 cn2, .slice pv2 m2 cv2] 27 (0, 0)))[(w.heap.push (.cells #[.int .i64 k1, .int .i64 f1, .int .i64 t1, .int .u32 v1, .int .u32 s1, .slice pn1 n1 cn1, .slice pv1 m1 cv1] 27 (0, 0))).size]? = some _)
      rw [Array.size_push] at h
      exact h
  clear hW0
  have HX : Hid (∀ W, Below W0.heap.size W0 W → Below w.heap.size w W ∧ W.heap[w.heap.size]? = some (.cells #[.int .i64 k1, .int .i64 f1, .int .i64 t1, .int .u32 v1, .int .u32 s1, .slice pn1 n1 cn1, .slice pv1 m1 cv1] 27 (0, 0)) ∧ W.heap[w.heap.size + 1]? = some (.cells #[.int .i64 k2, .int .i64 f2, .int .i64 t2, .int .u32 v2, .int .u32 s2, .slice pn2 n2 cn2, .slice pv2 m2 cv2] 27 (0, 0))) := fun W hW => ⟨bstep H0.out.1 hW, (hW.block _ (heap_in8 H0.out.2.1)).trans H0.out.2.1, (hW.block _ (heap_in8 H0.out.2.2)).trans H0.out.2.2⟩
  refine (awake19_any W0).mono ?_
  rintro e w1 ⟨rfl, hB⟩
  have H1 : Hid (Below W0.heap.size W0 w1) := hB
  clear hB
  obtain ⟨⟨x0, x1, x2, x3, x4, x5, x6⟩, _⟩ := ms_cells (HX.out w1 H1.out).2.1
  have kx := cell_lt x0
  go_wp2_with fail
  refine (mheavy_any k1 f1 t1 v1 s1 pn1 pv1 n1 cn1 m1 cv1 w1).mono ?_
  rintro e w2 ⟨rfl, hB⟩
  have H2 : Hid (Below W0.heap.size W0 w2) := bstep H1.out hB
  clear hB H1 x0 x1 x2 x3 x4 x5 x6 kx
  by_cases hh1 : 520 < n1 ∨ 520 < m1
  case pos =>
    rw [decide_eq_true hh1]
    go_wp2
    go_ret
    exact ⟨rfl, (HX.out w2 H2.out).1⟩
  rw [decide_eq_false hh1]
  obtain ⟨⟨x0, x1, x2, x3, x4, x5, x6⟩, _⟩ := ms_cells (HX.out w2 H2.out).2.2
  have kx := cell_lt x0
  go_wp2_with fail
  refine (mheavy_any k2 f2 t2 v2 s2 pn2 pv2 n2 cn2 m2 cv2 w2).mono ?_
  rintro e w3 ⟨rfl, hB⟩
  have H3 : Hid (Below W0.heap.size W0 w3) := bstep H2.out hB
  clear hB H2 x0 x1 x2 x3 x4 x5 x6 kx
  by_cases hh2 : 520 < n2 ∨ 520 < m2
  case pos =>
    rw [decide_eq_true hh2]
    go_wp2
    go_ret
    exact ⟨rfl, (HX.out w3 H3.out).1⟩
  rw [decide_eq_false hh2]
  obtain ⟨⟨x0, x1, x2, x3, x4, x5, x6⟩, _⟩ := ms_cells (HX.out w3 H3.out).2.1
  have kx := cell_lt x0
  go_wp2_with fail
  refine (pmgood_any k1 f1 t1 v1 s1 pn1 pv1 n1 cn1 m1 cv1 w3).mono ?_
  rintro e w4 ⟨rfl, hB⟩
  have H4 : Hid (Below W0.heap.size W0 w4) := bstep H3.out hB
  clear hB H3 x0 x1 x2 x3 x4 x5 x6 kx
  by_cases g1 : goodG k1 f1 t1 n1 m1
  case neg =>
    rw [decide_eq_false g1]
    go_wp2
    go_ret
    exact ⟨rfl, (HX.out w4 H4.out).1⟩
  rw [decide_eq_true g1]
  obtain ⟨⟨x0, x1, x2, x3, x4, x5, x6⟩, _⟩ := ms_cells (HX.out w4 H4.out).2.2
  have kx := cell_lt x0
  go_wp2_with fail
  refine (pmgood_any k2 f2 t2 v2 s2 pn2 pv2 n2 cn2 m2 cv2 w4).mono ?_
  rintro e w5 ⟨rfl, hB⟩
  have H5 : Hid (Below W0.heap.size W0 w5) := bstep H4.out hB
  clear hB H4 x0 x1 x2 x3 x4 x5 x6 kx
  by_cases g2 : goodG k2 f2 t2 n2 m2
  case neg =>
    rw [decide_eq_false g2]
    go_wp2
    go_ret
    exact ⟨rfl, (HX.out w5 H5.out).1⟩
  rw [decide_eq_true g2]
  have hg1 : goodG k1 f1 t1 N1.length V1.length := by rw [HR1.out.1.nlen, HR1.out.1.wds.1]; exact g1
  obtain ⟨E1, eE1⟩ : ∃ l, putG k1 f1 t1 v1 s1 N1 V1 = l := ⟨_, rfl⟩
  have cE1 : Hid (∀ W, Below W0.heap.size W0 W → Calls Try.prog 10 #[MsV k1 f1 t1 v1 s1 (.slice pn1 n1 cn1) (.slice pv1 m1 cv1)] W fun e w' => ∃ v', e = .returned v' ∧ Own8 w' W.heap.size v' E1 ∧ Below W.heap.size W w') := fun W hW => by
    rw [← eE1]
    exact pmput_any k1 f1 t1 v1 s1 pn1 pv1 n1 cn1 m1 cv1 N1 V1 HR1.out.2.1 HR1.out.2.2 W (HR1.out.1.up (HX.out W hW).1)
  have HE1 : Hid (By8 E1 ∧ E1.length ≤ 12023) := ⟨by rw [← eE1]; exact putG_by, by rw [← eE1]; exact putG_le⟩
  have hg2 : goodG k2 f2 t2 N2.length V2.length := by rw [HR2.out.1.nlen, HR2.out.1.wds.1]; exact g2
  obtain ⟨E2, eE2⟩ : ∃ l, putG k2 f2 t2 v2 s2 N2 V2 = l := ⟨_, rfl⟩
  have cE2 : Hid (∀ W, Below W0.heap.size W0 W → Calls Try.prog 10 #[MsV k2 f2 t2 v2 s2 (.slice pn2 n2 cn2) (.slice pv2 m2 cv2)] W fun e w' => ∃ v', e = .returned v' ∧ Own8 w' W.heap.size v' E2 ∧ Below W.heap.size W w') := fun W hW => by
    rw [← eE2]
    exact pmput_any k2 f2 t2 v2 s2 pn2 pv2 n2 cn2 m2 cv2 N2 V2 HR2.out.2.1 HR2.out.2.2 W (HR2.out.1.up (HX.out W hW).1)
  have HE2 : Hid (By8 E2 ∧ E2.length ≤ 12023) := ⟨by rw [← eE2]; exact putG_by, by rw [← eE2]; exact putG_le⟩
  obtain ⟨z, ez⟩ : ∃ z, decide (k1 = k2 ∧ f1 = f2 ∧ t1 = t2 ∧ v1 = v2 ∧ s1 = s2 ∧ N1 = N2 ∧ V1 = V2) = z := ⟨_, rfl⟩
  have hq : ((str E1).toList == (str E2).toList) = z := by
    rw [str_eq HE1.out.1 HE2.out.1, ← ez, ← eE1, ← eE2]
    exact decide_eq_decide.2 (put_inj hg1 HR1.out.2.1 HR1.out.2.2 HR1.out.1.n64 HR1.out.1.v128 hg2 HR2.out.2.1 HR2.out.2.2 HR2.out.1.n64 HR2.out.1.v128)
  have hQ := put_q hg1 HR1.out.2.1 HR1.out.2.2 HR1.out.1.n64 HR1.out.1.v128
  rw [eE1] at hQ
  have HQ := hid2 hQ ez
  have HEB0 : Hid (By8 E1 ∧ By8 E2) := ⟨HE1.out.1, HE2.out.1⟩
  have hnm : n1 ≤ 500 ∧ m1 ≤ 500 ∧ n2 ≤ 500 ∧ m2 ≤ 500 := ⟨g1.2.2.2.1, g1.2.2.2.2, g2.2.2.2.1, g2.2.2.2.2⟩
  have HNM := hid2 hnm hnm
  clear eE1 eE2 hg1 hg2 hQ g1 g2 hh1 hh2 hnm ez
  obtain ⟨⟨x0, x1, x2, x3, x4, x5, x6⟩, _⟩ := ms_cells (HX.out w5 H5.out).2.1
  have kx := cell_lt x0
  obtain ⟨⟨y0, y1, y2, y3, y4, y5, y6⟩, _⟩ := ms_cells (HX.out w5 H5.out).2.2
  have ky := cell_lt y0
  go_wp2_with fail
  refine rel [⟨1, 28, OwnR w5.heap.size E1⟩, ⟨3, 30, OwnR w5.heap.size E2⟩] 4 54 (by kernel_rfl) rfl rfl (by kernel_rfl) (by rfl) ?_ ?_
  · intro e he v W W' h hb
    simp only [List.mem_cons, List.not_mem_nil, or_false] at he
    rcases he with rfl | rfl
    · exact OwnR.up h hb
    · exact OwnR.up h hb
  apply Exists.intro
  refine ⟨fun x => ?_, ?_, ?_⟩
  · simp only [List.take_succ_cons, List.take_zero]
    refine relQuiet rfl rfl ?_
    apply Exists.intro
    refine ⟨fun F_ hF hf K_ hK => ?_, ?_⟩
    · have hFc := hF.cell
      have hFf := hF.frozen
      go_big_quiet_op
      first | exact hK | (apply Exists.intro; refine ⟨fun _ => ?_, ?_⟩; (· fail); exact hK)
    (try simp only [Act.put, List.setIfInBounds_toArray, List.set_cons_zero, List.set_cons_succ])
    refine relTold rfl rfl ?_ ?_
    · intro F_ hF hf d
      have hFc := hF.cell
      have hFf := hF.frozen
      simp [yieldsR, yieldsUpon, go_sem]
      refine (cE1.out (F_ d) (bstep H5.out (hF.below d))).mono ?_
      rintro e' w8 ⟨v8, rfl, ho8, hb8⟩
      exact ⟨_, rfl, ho8.low (hF.below d).size, hb8⟩
    (try simp only [Act.put, List.setIfInBounds_toArray, List.set_cons_zero, List.set_cons_succ])
    refine relQuiet rfl rfl ?_
    apply Exists.intro
    refine ⟨fun F_ hF hf K_ hK => ?_, ?_⟩
    · have hFc := hF.cell
      have hFf := hF.frozen
      go_big_quiet_op
      first | exact hK | (apply Exists.intro; refine ⟨fun _ => ?_, ?_⟩; (· fail); exact hK)
    (try simp only [Act.put, List.setIfInBounds_toArray, List.set_cons_zero, List.set_cons_succ])
    refine relTold rfl rfl ?_ ?_
    · intro F_ hF hf d
      have hFc := hF.cell
      have hFf := hF.frozen
      simp [yieldsR, yieldsUpon, go_sem]
      refine (cE2.out (F_ d) (bstep H5.out (hF.below d))).mono ?_
      rintro e' w8 ⟨v8, rfl, ho8, hb8⟩
      exact ⟨_, rfl, ho8.low (hF.below d).size, hb8⟩
    (try simp only [Act.put, List.setIfInBounds_toArray, List.set_cons_zero, List.set_cons_succ])
    refine relEnd ?_
    exact rfl
  · intro x
    simp only [putsK, List.foldl_cons, List.foldl_nil, Act.put, List.setIfInBounds_toArray, List.set_cons_zero, List.set_cons_succ]
  · intro w6 xs hB6 hf
    simp only [List.drop_succ_cons, List.drop_zero]
    have h1 := hf _ List.mem_cons_self
    have h3 := hf _ (List.mem_cons_of_mem _ List.mem_cons_self)
    obtain ⟨u1, eu1⟩ : ∃ q, xs 1 = q := ⟨_, rfl⟩
    obtain ⟨u3, eu3⟩ : ∃ q, xs 3 = q := ⟨_, rfl⟩
    simp only [eu1] at h1
    simp only [eu3] at h3
    simp only [eu1, eu3]
    obtain ⟨p1, c1, rfl, hc1⟩ := own8_form h1
    obtain ⟨p3, c3, rfl, hc3⟩ := own8_form h3
    have H6 : Hid (Below W0.heap.size W0 w6 ∧ Bytes w6 (.slice p1 E1.length c1) E1 ∧ Bytes w6 (.slice p3 E2.length c3) E2) := ⟨bstep H5.out hB6, h1.bytes, h3.bytes⟩
    clear hf h1 h3 hB6 eu1 eu3 H5 x0 x1 x2 x3 x4 x5 x6 kx y0 y1 y2 y3 y4 y5 y6 ky
    have cG := pmget_any p1 E1.length c1 E1 HE1.out.1 rfl (by have := HE1.out.2; omega) hc1 w6 H6.out.2.1
    obtain ⟨q0, q1, q2, q3, q4, q5, q6, q7⟩ := HQ.out.1
    rw [if_pos q0, q1, q2, q3, q4, q5, q6, q7] at cG
    clear q0 q1 q2 q3 q4 q5 q6 q7
    go_wp2_with fail
    refine cG.mono ?_
    rintro e w7 ⟨vN, vV, rfl, hN, hV, hB⟩
    obtain ⟨pn, cn, pv, cv, rfl, rfl, hR⟩ := msgR_own hN hV HR1.out.1.n64
    rw [HR1.out.1.nlen, HR1.out.1.wds.1] at hR
    rw [HR1.out.1.nlen, HR1.out.1.wds.1]
    have H7 : Hid (Below W0.heap.size W0 w7 ∧ Bytes w7 (.slice p1 E1.length c1) E1 ∧ Bytes w7 (.slice p3 E2.length c3) E2 ∧ MsgR w7 pn n1 cn pv m1 cv N1 V1) := ⟨bstep H6.out.1 hB, H6.out.2.1.up hB, H6.out.2.2.up hB, hR⟩
    clear hN hV hR hB cG H6 cE1 cE2
    go_wp2_with fail
    generalize hW8 : World.alloc _ _ = W8
    have h8 : Below w7.heap.size w7 W8 ∧ W8.heap[w7.heap.size]? = some (.cells #[.int .i64 k1, .int .i64 f1, .int .i64 t1, .int .u32 v1, .int .u32 s1, .slice pn n1 cn, .slice pv m1 cv] 27 (0, 0)) := by
      rw [← hW8]
      exact ⟨up_alloc _ _, by show (w7.heap.push _)[w7.heap.size]? = _; simp⟩
    have H8 : Hid (Below W0.heap.size W0 W8 ∧ Bytes W8 (.slice p1 E1.length c1) E1 ∧ Bytes W8 (.slice p3 E2.length c3) E2 ∧ MsgR W8 pn n1 cn pv m1 cv N1 V1) := ⟨bstep H7.out.1 h8.1, H7.out.2.1.up h8.1, H7.out.2.2.1.up h8.1, H7.out.2.2.2.up h8.1⟩
    obtain ⟨⟨g0, g1, g2, g3, g4, g5, g6⟩, _⟩ := ms_cells h8.2
    have kg := cell_lt g0
    obtain ⟨⟨x0, x1, x2, x3, x4, x5, x6⟩, _⟩ := ms_cells (HX.out W8 H8.out.1).2.1
    have kx := cell_lt x0
    obtain ⟨⟨y0, y1, y2, y3, y4, y5, y6⟩, _⟩ := ms_cells (HX.out W8 H8.out.1).2.2
    have ky := cell_lt y0
    have cS1 : Hid (∀ W, Below W8.heap.size W8 W → Calls Try.prog 12 #[MsV k1 f1 t1 v1 s1 (.slice pn n1 cn) (.slice pv m1 cv), MsV k1 f1 t1 v1 s1 (.slice pn1 n1 cn1) (.slice pv1 m1 cv1)] W fun e w' => e = .returned (.bool true) ∧ Below W.heap.size W w') := fun W hW => by
      have := pmsame_any k1 f1 t1 v1 s1 k1 f1 t1 v1 s1 pn pv pn1 pv1 n1 cn m1 cv n1 cn1 m1 cv1 N1 V1 N1 V1 (by have := HNM.out.1; omega) (by have := HNM.out.1; omega) W (H8.out.2.2.2.up hW) (HR1.out.1.up (HX.out W (bstep H8.out.1 hW)).1)
      rw [decide_eq_true ⟨rfl, rfl, rfl, rfl, rfl, rfl, rfl⟩] at this
      exact this
    have cS2 : Hid (∀ W, Below W8.heap.size W8 W → Calls Try.prog 12 #[MsV k1 f1 t1 v1 s1 (.slice pn1 n1 cn1) (.slice pv1 m1 cv1), MsV k2 f2 t2 v2 s2 (.slice pn2 n2 cn2) (.slice pv2 m2 cv2)] W fun e w' => e = .returned (.bool z) ∧ Below W.heap.size W w') := fun W hW => by
      have := pmsame_any k1 f1 t1 v1 s1 k2 f2 t2 v2 s2 pn1 pv1 pn2 pv2 n1 cn1 m1 cv1 n2 cn2 m2 cv2 N1 V1 N2 V2 (by have := HNM.out.1; omega) (by have := HNM.out.1; omega) W (HR1.out.1.up (HX.out W (bstep H8.out.1 hW)).1) (HR2.out.1.up (HX.out W (bstep H8.out.1 hW)).1)
      rw [HQ.out.2] at this
      exact this
    clear hW8 h8 H7 HE1 HE2 hc1 hc3
    have HEB : Hid (By8 E1 ∧ By8 E2) := HEB0.out
    go_wp2_with fail
    refine rel [] 18 54 (by kernel_rfl) rfl rfl (by kernel_rfl) (by rfl) ?_ ?_
    · intro e he
      simp at he
    apply Exists.intro
    refine ⟨fun x => ?_, ?_, ?_⟩
    · simp only [List.take_succ_cons, List.take_zero]
      refine relQuiet rfl rfl ?_
      apply Exists.intro
      refine ⟨fun F_ hF hf K_ hK => ?_, ?_⟩
      · have hFc := hF.cell
        have hFf := hF.frozen
        go_big_quiet_op
        first | exact hK | (apply Exists.intro; refine ⟨fun _ => ?_, ?_⟩; (· fail); exact hK)
      (try simp only [Act.put, List.setIfInBounds_toArray, List.set_cons_zero, List.set_cons_succ])
      refine relQuiet rfl rfl ?_
      apply Exists.intro
      refine ⟨fun F_ hF hf K_ hK => ?_, ?_⟩
      · have hFc := hF.cell
        have hFf := hF.frozen
        go_big_quiet_op
        first | exact hK | (apply Exists.intro; refine ⟨fun _ => ?_, ?_⟩; (· fail); exact hK)
      (try simp only [Act.put, List.setIfInBounds_toArray, List.set_cons_zero, List.set_cons_succ])
      refine relQuiet rfl rfl ?_
      apply Exists.intro
      refine ⟨fun F_ hF hf K_ hK => ?_, ?_⟩
      · have hFc := hF.cell
        have hFf := hF.frozen
        go_big_quiet_op
        first | exact hK | (apply Exists.intro; refine ⟨fun _ => ?_, ?_⟩; (· fail); exact hK)
      (try simp only [Act.put, List.setIfInBounds_toArray, List.set_cons_zero, List.set_cons_succ])
      refine relQuiet rfl rfl ?_
      apply Exists.intro
      refine ⟨fun F_ hF hf K_ hK => ?_, ?_⟩
      · have hFc := hF.cell
        have hFf := hF.frozen
        go_big_quiet_op
        first | exact hK | (apply Exists.intro; refine ⟨fun _ => ?_, ?_⟩; (· fail); exact hK)
      (try simp only [Act.put, List.setIfInBounds_toArray, List.set_cons_zero, List.set_cons_succ])
      refine relQuiet rfl rfl ?_
      apply Exists.intro
      refine ⟨fun F_ hF hf K_ hK => ?_, ?_⟩
      · have hFc := hF.cell
        have hFf := hF.frozen
        go_big_quiet_op
        first | exact hK | (apply Exists.intro; refine ⟨fun _ => ?_, ?_⟩; (· fail); exact hK)
      (try simp only [Act.put, List.setIfInBounds_toArray, List.set_cons_zero, List.set_cons_succ])
      refine relQuiet rfl rfl ?_
      apply Exists.intro
      refine ⟨fun F_ hF hf K_ hK => ?_, ?_⟩
      · have hFc := hF.cell
        have hFf := hF.frozen
        go_big_quiet_op
        first | exact hK | (apply Exists.intro; refine ⟨fun _ => ?_, ?_⟩; (· exact hF.call (cS1.out _ (hF.below _))); exact hK)
      (try simp only [Act.put, List.setIfInBounds_toArray, List.set_cons_zero, List.set_cons_succ])
      refine relQuiet rfl rfl ?_
      apply Exists.intro
      refine ⟨fun F_ hF hf K_ hK => ?_, ?_⟩
      · have hFc := hF.cell
        have hFf := hF.frozen
        go_big_quiet_op
        first | exact hK | (apply Exists.intro; refine ⟨fun _ => ?_, ?_⟩; (· fail); exact hK)
      (try simp only [Act.put, List.setIfInBounds_toArray, List.set_cons_zero, List.set_cons_succ])
      refine relQuiet rfl rfl ?_
      apply Exists.intro
      refine ⟨fun F_ hF hf K_ hK => ?_, ?_⟩
      · have hFc := hF.cell
        have hFf := hF.frozen
        go_big_quiet_op
        first | exact hK | (apply Exists.intro; refine ⟨fun _ => ?_, ?_⟩; (· fail); exact hK)
      (try simp only [Act.put, List.setIfInBounds_toArray, List.set_cons_zero, List.set_cons_succ])
      refine relQuiet rfl rfl ?_
      apply Exists.intro
      refine ⟨fun F_ hF hf K_ hK => ?_, ?_⟩
      · have hFc := hF.cell
        have hFf := hF.frozen
        go_big_quiet_op
        first | exact hK | (apply Exists.intro; refine ⟨fun _ => ?_, ?_⟩; (· fail); exact hK)
      (try simp only [Act.put, List.setIfInBounds_toArray, List.set_cons_zero, List.set_cons_succ])
      refine relQuiet rfl rfl ?_
      apply Exists.intro
      refine ⟨fun F_ hF hf K_ hK => ?_, ?_⟩
      · have hFc := hF.cell
        have hFf := hF.frozen
        have hcv : ∀ d, Sem.run Try.prog (convert 31 9 (.slice p1 E1.length c1)) (F_ d) = .ok (.string (str E1)) (F_ d) := fun d => conv_any (H8.out.2.1.up (hF.below d)) HEB.out.1
        go_big_quiet_op
        first | exact hK | (apply Exists.intro; refine ⟨fun _ => ?_, ?_⟩; (· fail); exact hK)
      (try simp only [Act.put, List.setIfInBounds_toArray, List.set_cons_zero, List.set_cons_succ])
      refine relQuiet rfl rfl ?_
      apply Exists.intro
      refine ⟨fun F_ hF hf K_ hK => ?_, ?_⟩
      · have hFc := hF.cell
        have hFf := hF.frozen
        go_big_quiet_op
        first | exact hK | (apply Exists.intro; refine ⟨fun _ => ?_, ?_⟩; (· fail); exact hK)
      (try simp only [Act.put, List.setIfInBounds_toArray, List.set_cons_zero, List.set_cons_succ])
      refine relQuiet rfl rfl ?_
      apply Exists.intro
      refine ⟨fun F_ hF hf K_ hK => ?_, ?_⟩
      · have hFc := hF.cell
        have hFf := hF.frozen
        have hcv : ∀ d, Sem.run Try.prog (convert 31 9 (.slice p3 E2.length c3)) (F_ d) = .ok (.string (str E2)) (F_ d) := fun d => conv_any (H8.out.2.2.1.up (hF.below d)) HEB.out.2
        go_big_quiet_op
        first | exact hK | (apply Exists.intro; refine ⟨fun _ => ?_, ?_⟩; (· fail); exact hK)
      (try simp only [Act.put, List.setIfInBounds_toArray, List.set_cons_zero, List.set_cons_succ])
      refine relQuiet rfl rfl ?_
      apply Exists.intro
      refine ⟨fun F_ hF hf K_ hK => ?_, ?_⟩
      · have hFc := hF.cell
        have hFf := hF.frozen
        go_big_quiet_op
        first | exact hK | (apply Exists.intro; refine ⟨fun _ => ?_, ?_⟩; (· fail); exact hK)
      (try simp only [Act.put, List.setIfInBounds_toArray, List.set_cons_zero, List.set_cons_succ])
      refine relQuiet rfl rfl ?_
      apply Exists.intro
      refine ⟨fun F_ hF hf K_ hK => ?_, ?_⟩
      · have hFc := hF.cell
        have hFf := hF.frozen
        go_big_quiet_op
        first | exact hK | (apply Exists.intro; refine ⟨fun _ => ?_, ?_⟩; (· fail); exact hK)
      (try simp only [Act.put, List.setIfInBounds_toArray, List.set_cons_zero, List.set_cons_succ])
      refine relQuiet rfl rfl ?_
      apply Exists.intro
      refine ⟨fun F_ hF hf K_ hK => ?_, ?_⟩
      · have hFc := hF.cell
        have hFf := hF.frozen
        go_big_quiet_op
        first | exact hK | (apply Exists.intro; refine ⟨fun _ => ?_, ?_⟩; (· fail); exact hK)
      (try simp only [Act.put, List.setIfInBounds_toArray, List.set_cons_zero, List.set_cons_succ])
      refine relQuiet rfl rfl ?_
      apply Exists.intro
      refine ⟨fun F_ hF hf K_ hK => ?_, ?_⟩
      · have hFc := hF.cell
        have hFf := hF.frozen
        go_big_quiet_op
        first | exact hK | (apply Exists.intro; refine ⟨fun _ => ?_, ?_⟩; (· exact hF.call (cS2.out _ (hF.below _))); exact hK)
      (try simp only [Act.put, List.setIfInBounds_toArray, List.set_cons_zero, List.set_cons_succ])
      refine relQuiet rfl rfl ?_
      apply Exists.intro
      refine ⟨fun F_ hF hf K_ hK => ?_, ?_⟩
      · have hFc := hF.cell
        have hFf := hF.frozen
        go_big_quiet_op
        first | exact hK | (apply Exists.intro; refine ⟨fun _ => ?_, ?_⟩; (· fail); exact hK)
      (try simp only [Act.put, List.setIfInBounds_toArray, List.set_cons_zero, List.set_cons_succ])
      refine relQuiet rfl rfl ?_
      apply Exists.intro
      refine ⟨fun F_ hF hf K_ hK => ?_, ?_⟩
      · have hFc := hF.cell
        have hFf := hF.frozen
        go_big_quiet_op
        first | exact hK | (apply Exists.intro; refine ⟨fun _ => ?_, ?_⟩; (· fail); exact hK)
      (try simp only [Act.put, List.setIfInBounds_toArray, List.set_cons_zero, List.set_cons_succ])
      refine relEnd ?_
      exact rfl
    · intro x
      simp only [putsK, List.foldl_nil]
    · intro z5 xs hBz hf
      simp only [List.drop_succ_cons, List.drop_zero]
      have HB7 : Hid (Below w.heap.size w z5) := bstep (HX.out W8 H8.out.1).1 hBz
      clear hf hBz x0 x1 x2 x3 x4 x5 x6 kx y0 y1 y2 y3 y4 y5 y6 ky g0 g1 g2 g3 g4 g5 g6 kg
      go_wp2
      go_ret
      exact ⟨rfl, HB7.out⟩
end Go.Proofs.Ythmpfdkbpdbhnaa.Wd
