/- FrameBack: a frame is read back; bytes that are read are written the same. -/
import Derived.Test.YtdllobikpjejiaaFrO
import Derived.Test.YtdllobikpjejiaaFrW
import Derived.Test.YtdllobikpjejiaaRow
namespace Go.Proofs.Ytdllobikpjejiaa.Wd
open Go.RowKit
set_option linter.unusedVariables false
set_option linter.unusedSimpArgs false
set_option maxRecDepth 8000
set_option maxHeartbeats 8000000
theorem fback_walk (w : World) (k1 f1 t1 v1 s1 : Int) (z1 : Nat → Int) (n1 c1 : Nat) (p1 : Option Addr) (z2 : Nat → Int) (n2 c2 : Nat) (p2 : Option Addr)
    (hv1 : 0 ≤ v1 ∧ v1 < 4294967296) (hs1 : 0 ≤ s1 ∧ s1 < 4294967296) (hr1 : RowN .u8 w p1 n1 c1 z1) (hr2 : RowN .u8 w p2 n2 c2 z2) :
    Calls Try.prog 5 #[.agg #[.int .i64 k1, .int .i64 f1, .int .i64 t1, .int .u32 v1, .int .u32 s1, .slice p1 n1 c1], .slice p2 n2 c2] w fun e w' => e = .returned (.bool true) ∧ Below w.heap.size w w' := by
  haveI : Nonempty World := ⟨w⟩
  have hc2 : n2 ≤ c2 := hr2.1.1
  obtain ⟨b1, eb1⟩ : ∃ l, lst n1 z1 = l := ⟨_, rfl⟩
  obtain ⟨l2, el2⟩ : ∃ l, lst n2 z2 = l := ⟨_, rfl⟩
  have HN : Hid ((Bytes w (.slice p1 n1 c1) b1 ∧ By8 b1 ∧ b1.length = n1) ∧ (Bytes w (.slice p2 n2 c2) l2 ∧ By8 l2 ∧ l2.length = n2) ∧ (0 ≤ v1 ∧ v1 < 4294967296) ∧ (0 ≤ s1 ∧ s1 < 4294967296)) := by
    rw [← eb1, ← el2]
    exact ⟨⟨hr1.bytes, hr1.rng, lst_len _ _⟩, ⟨hr2.bytes, hr2.rng, lst_len _ _⟩, hv1, hs1⟩
  clear hr1 hr2 eb1 el2 hv1 hs1
  go_enter Try.func5, Try.ntmps5
  go_wp2_with fail
  generalize hW0 : World.alloc _ _ = W0
  have HB0 : Hid (Below w.heap.size w W0) := by rw [← hW0]; exact up_alloc _ _
  obtain ⟨x0, x1, x2, x3, x4, x5⟩ : W0.cell? ⟨w.heap.size, 0, none⟩ = some (.int .i64 k1) ∧ W0.cell? ⟨w.heap.size, 1, none⟩ = some (.int .i64 f1) ∧ W0.cell? ⟨w.heap.size, 2, none⟩ = some (.int .i64 t1) ∧ W0.cell? ⟨w.heap.size, 3, none⟩ = some (.int .u32 v1) ∧ W0.cell? ⟨w.heap.size, 4, none⟩ = some (.int .u32 s1) ∧ W0.cell? ⟨w.heap.size, 5, none⟩ = some (.slice p1 n1 c1) := by rw [← hW0]; simp [go_sem]
  clear hW0
  refine (awake18_any W0).mono ?_
  rintro e w1 ⟨rfl, hB⟩
  replace x0 := still_cell hB x0
  replace x1 := still_cell hB x1
  replace x2 := still_cell hB x2
  replace x3 := still_cell hB x3
  replace x4 := still_cell hB x4
  replace x5 := still_cell hB x5
  have kx := cell_lt x0
  have HB1 : Hid (Below w.heap.size w w1) := bstep HB0.out hB
  clear hB HB0
  by_cases a1 : 1000 < n1
  · have : (1000 : Int) < (n1 : Int) := by omega
    go_wp2
    go_ret
    exact ⟨rfl, HB1.out⟩
  have a1' : (n1 : Int) ≤ 1000 := by omega
  by_cases a2 : 1000 < n2
  · have : (1000 : Int) < (n2 : Int) := by omega
    go_wp2
    go_ret
    exact ⟨rfl, HB1.out⟩
  have a2' : (n2 : Int) ≤ 1000 := by omega
  go_wp2_with fail
  refine (pfenc_any k1 f1 t1 v1 s1 p1 n1 c1 b1 HN.out.2.2.1 HN.out.2.2.2 HN.out.1.2.1 w1 (HN.out.1.1.up HB1.out) HN.out.1.2.2).mono ?_
  rintro e w2 ⟨v2, rfl, ho, hB⟩
  obtain ⟨pE, cE, rfl, hcE⟩ := own8_form ho
  replace x0 := still_cell hB x0
  replace x1 := still_cell hB x1
  replace x2 := still_cell hB x2
  replace x3 := still_cell hB x3
  replace x4 := still_cell hB x4
  replace x5 := still_cell hB x5
  replace kx := cell_lt x0
  have HB2 : Hid (Below w.heap.size w w2) := bstep HB1.out hB
  have hle : (encF k1 f1 t1 v1 s1 b1).length ≤ 1073741000 := by
    unfold encF
    split
    · rw [encL_len, HN.out.1.2.2]
      omega
    · simp
  have cD := pfdec_any pE _ cE (encF k1 f1 t1 v1 s1 b1) (encF_by HN.out.1.2.1) rfl hle hcE w2 ho.bytes
  clear hB HB1 ho hcE hle
  go_wp2_with fail
  refine cD.mono ?_
  rintro e w3 ⟨vg, rfl, hog, hB⟩
  replace x0 := still_cell hB x0
  replace x1 := still_cell hB x1
  replace x2 := still_cell hB x2
  replace x3 := still_cell hB x3
  replace x4 := still_cell hB x4
  replace x5 := still_cell hB x5
  replace kx := cell_lt x0
  have HB3 : Hid (Below w.heap.size w w3) := bstep HB2.out hB
  obtain ⟨pg, ng, cg, rfl⟩ := own8_sl hog
  clear cD hB HB2
  by_cases g1 : goodF k1 f1 t1 n1
  · obtain ⟨h1, h2, h3⟩ := dec_enc (k := k1) (f := f1) (t := t1) (v := v1) (s := s1) (b := b1) (by rw [HN.out.1.2.2]; exact g1) HN.out.2.2.1 HN.out.2.2.2 (.slice pg ng cg)
    rw [if_pos h1, h2]
    rw [h3] at hog
    have HG : Hid (Bytes w3 (.slice pg ng cg) b1) := Own8.bytes hog
    unfold FrV
    clear h1 h2 h3 hog
    go_wp2_with fail
    generalize hW4 : World.alloc _ _ = W4
    have HU4 : Hid (Below w3.heap.size w3 W4) := by rw [← hW4]; exact up_alloc _ _
    obtain ⟨g0, g1', g2, g3, g4, g5⟩ : W4.cell? ⟨w3.heap.size, 0, none⟩ = some (.int .i64 k1) ∧ W4.cell? ⟨w3.heap.size, 1, none⟩ = some (.int .i64 f1) ∧ W4.cell? ⟨w3.heap.size, 2, none⟩ = some (.int .i64 t1) ∧ W4.cell? ⟨w3.heap.size, 3, none⟩ = some (.int .u32 v1) ∧ W4.cell? ⟨w3.heap.size, 4, none⟩ = some (.int .u32 s1) ∧ W4.cell? ⟨w3.heap.size, 5, none⟩ = some (.slice pg ng cg) := by rw [← hW4]; simp [go_sem]
    clear hW4
    replace x0 := still_cell HU4.out x0
    replace x1 := still_cell HU4.out x1
    replace x2 := still_cell HU4.out x2
    replace x3 := still_cell HU4.out x3
    replace x4 := still_cell HU4.out x4
    replace x5 := still_cell HU4.out x5
    refine (pfdec_any p2 n2 c2 l2 HN.out.2.1.2.1 HN.out.2.1.2.2 (by omega) hc2 W4 (HN.out.2.1.1.up (bstep HB3.out HU4.out))).mono ?_
    rintro e w4 ⟨vh, rfl, hoh, hB⟩
    replace x0 := still_cell hB x0
    replace x1 := still_cell hB x1
    replace x2 := still_cell hB x2
    replace x3 := still_cell hB x3
    replace x4 := still_cell hB x4
    replace x5 := still_cell hB x5
    replace g0 := still_cell hB g0
    replace g1' := still_cell hB g1'
    replace g2 := still_cell hB g2
    replace g3 := still_cell hB g3
    replace g4 := still_cell hB g4
    replace g5 := still_cell hB g5
    replace kx := cell_lt x0
    have HB4 : Hid (Below w.heap.size w w4) := bstep HB3.out (bstep HU4.out hB)
    have HB34 : Hid (Below w3.heap.size w3 w4) := bstep HU4.out hB
    obtain ⟨ph, nh, ch, rfl⟩ := own8_sl hoh
    obtain ⟨K, eK⟩ : ∃ x, uK l2 = x := ⟨_, rfl⟩
    obtain ⟨F, eF⟩ : ∃ x, uF l2 = x := ⟨_, rfl⟩
    obtain ⟨T, eT⟩ : ∃ x, uT l2 = x := ⟨_, rfl⟩
    obtain ⟨V, eV⟩ : ∃ x, uV l2 = x := ⟨_, rfl⟩
    obtain ⟨S, eS⟩ : ∃ x, uS l2 = x := ⟨_, rfl⟩
    clear hB HU4
    by_cases d2 : decP l2
    · have hi : (if decP l2 then (0 : Int) else 3) = 0 := if_pos d2
      rw [hi]
      have hfd : FrD l2 (.slice ph nh ch) = FrV K F T V S (.slice ph nh ch) := by unfold FrD dN; simp only [if_pos d2, ← eK, ← eF, ← eT, ← eV, ← eS]
      rw [hfd]
      unfold FrV
      have hbh : dB8 l2 = uB l2 := if_pos d2
      rw [hbh] at hoh
      have hu := u_rng HN.out.2.1.2.1 d2.1
      rw [eV, eS] at hu
      have HH : Hid (Own8 w4 W4.heap.size (.slice ph nh ch) (uB l2) ∧ By8 (uB l2) ∧ (0 ≤ V ∧ V < 4294967296) ∧ (0 ≤ S ∧ S < 4294967296) ∧ encF K F T V S (uB l2) = l2) := ⟨hoh, hu.2.2.1, hu.1, hu.2.1, by have := d2.2; rw [eK, eF, eT, eV, eS] at this; exact this⟩
      clear hi hfd hbh hoh hu
      go_wp2_with fail
      generalize hW6 : World.alloc _ _ = W6
      have HU6 : Hid (Below w4.heap.size w4 W6) := by rw [← hW6]; exact up_alloc _ _
      obtain ⟨h0, h1, h2, h3, h4, h5⟩ : W6.cell? ⟨w4.heap.size, 0, none⟩ = some (.int .i64 K) ∧ W6.cell? ⟨w4.heap.size, 1, none⟩ = some (.int .i64 F) ∧ W6.cell? ⟨w4.heap.size, 2, none⟩ = some (.int .i64 T) ∧ W6.cell? ⟨w4.heap.size, 3, none⟩ = some (.int .u32 V) ∧ W6.cell? ⟨w4.heap.size, 4, none⟩ = some (.int .u32 S) ∧ W6.cell? ⟨w4.heap.size, 5, none⟩ = some (.slice ph nh ch) := by rw [← hW6]; simp [go_sem]
      clear hW6
      replace x0 := still_cell HU6.out x0
      replace x1 := still_cell HU6.out x1
      replace x2 := still_cell HU6.out x2
      replace x3 := still_cell HU6.out x3
      replace x4 := still_cell HU6.out x4
      replace x5 := still_cell HU6.out x5
      replace g0 := still_cell HU6.out g0
      replace g1' := still_cell HU6.out g1'
      replace g2 := still_cell HU6.out g2
      replace g3 := still_cell HU6.out g3
      replace g4 := still_cell HU6.out g4
      replace g5 := still_cell HU6.out g5
      have kx := cell_lt x0
      have kg := cell_lt g0
      have kh := cell_lt h0
      have HB6 : Hid (Below w.heap.size w W6) := bstep HB4.out HU6.out
      have HL : Hid (Bytes W6 (.slice p2 n2 c2) l2 ∧ By8 l2) := ⟨HN.out.2.1.1.up HB6.out, HN.out.2.1.2.1⟩
      have cG := fun W => pfgood_any k1 f1 t1 v1 s1 p1 n1 c1 W
      rw [decide_eq_true g1] at cG
      have cO1 := fun W => fown_any k1 f1 t1 v1 s1 pg ng cg W
      have cO2 := fun W => fown_any k1 f1 t1 v1 s1 p1 n1 c1 W
      have cS : Hid (∀ W, Below W6.heap.size W6 W → Calls Try.prog 13 #[.agg #[.int .i64 k1, .int .i64 f1, .int .i64 t1, .int .u32 v1, .int .u32 s1, .slice pg ng cg], .agg #[.int .i64 k1, .int .i64 f1, .int .i64 t1, .int .u32 v1, .int .u32 s1, .slice p1 n1 c1]] W fun e w' => e = .returned (.bool true) ∧ Below W.heap.size W w') := fun W hW => by
        have := fsame_any k1 f1 t1 v1 s1 k1 f1 t1 v1 s1 pg p1 ng cg n1 c1 b1 b1 HN.out.1.2.1 HN.out.1.2.1 W (HG.out.up (bstep HB34.out (bstep HU6.out hW))) (HN.out.1.1.up (bstep HB6.out hW))
        rw [decide_eq_true ⟨rfl, rfl, rfl, rfl, rfl, rfl⟩] at this
        exact this
      have hnh : (uB l2).length = nh := by
        obtain ⟨_, _, e, _⟩ := own8_form HH.out.1
        cases e
        rfl
      have cE2 : Hid (∀ W, Below W6.heap.size W6 W → Calls Try.prog 10 #[.agg #[.int .i64 K, .int .i64 F, .int .i64 T, .int .u32 V, .int .u32 S, .slice ph nh ch]] W fun e w' => ∃ v', e = .returned v' ∧ Own8 w' W.heap.size v' l2 ∧ Below W.heap.size W w') := fun W hW => by
        have := pfenc_any K F T V S ph nh ch (uB l2) HH.out.2.2.1 HH.out.2.2.2.1 HH.out.2.1 W ((Own8.bytes HH.out.1).up (bstep HU6.out hW)) hnh
        rw [HH.out.2.2.2.2] at this
        exact this
      have hq : ((str l2).toList == (str l2).toList) = true := by simp
      clear hnh
      clear HU6 HN HB4 HG HB34
      go_wp2_with fail
      refine rel [⟨21, 52, OwnR W6.heap.size l2⟩] 28 59 (by kernel_rfl) rfl rfl (by kernel_rfl) (by rfl) ?_ ?_
      · intro e he v W W' h hb
        simp only [List.mem_cons, List.not_mem_nil, or_false] at he
        rcases he with rfl
        · exact OwnR.up h hb
      apply Exists.intro
      refine ⟨fun x => ?_, ?_, ?_⟩
      · simp only [List.take_succ_cons, List.take_zero]
        refine relQuiet rfl rfl ?_
        apply Exists.intro
        refine ⟨fun F_ hF hf K_ hK => ?_, ?_⟩
        · have hFc := hF.cell
          have hFf := hF.frozen
          go_big_quiet_op
          first | exact hK | (apply Exists.intro; refine ⟨fun _ => ?_, ?_⟩; (· fail); exact hK)
        (try simp only [Act.put, List.setIfInBounds_toArray, List.set_cons_zero, List.set_cons_succ])
        refine relQuiet rfl rfl ?_
        apply Exists.intro
        refine ⟨fun F_ hF hf K_ hK => ?_, ?_⟩
        · have hFc := hF.cell
          have hFf := hF.frozen
          go_big_quiet_op
          first | exact hK | (apply Exists.intro; refine ⟨fun _ => ?_, ?_⟩; (· fail); exact hK)
        (try simp only [Act.put, List.setIfInBounds_toArray, List.set_cons_zero, List.set_cons_succ])
        refine relQuiet rfl rfl ?_
        apply Exists.intro
        refine ⟨fun F_ hF hf K_ hK => ?_, ?_⟩
        · have hFc := hF.cell
          have hFf := hF.frozen
          go_big_quiet_op
          first | exact hK | (apply Exists.intro; refine ⟨fun _ => ?_, ?_⟩; (· fail); exact hK)
        (try simp only [Act.put, List.setIfInBounds_toArray, List.set_cons_zero, List.set_cons_succ])
        refine relQuiet rfl rfl ?_
        apply Exists.intro
        refine ⟨fun F_ hF hf K_ hK => ?_, ?_⟩
        · have hFc := hF.cell
          have hFf := hF.frozen
          go_big_quiet_op
          first | exact hK | (apply Exists.intro; refine ⟨fun _ => ?_, ?_⟩; (· exact hF.call (cG _)); exact hK)
        (try simp only [Act.put, List.setIfInBounds_toArray, List.set_cons_zero, List.set_cons_succ])
        refine relQuiet rfl rfl ?_
        apply Exists.intro
        refine ⟨fun F_ hF hf K_ hK => ?_, ?_⟩
        · have hFc := hF.cell
          have hFf := hF.frozen
          go_big_quiet_op
          first | exact hK | (apply Exists.intro; refine ⟨fun _ => ?_, ?_⟩; (· fail); exact hK)
        (try simp only [Act.put, List.setIfInBounds_toArray, List.set_cons_zero, List.set_cons_succ])
        refine relQuiet rfl rfl ?_
        apply Exists.intro
        refine ⟨fun F_ hF hf K_ hK => ?_, ?_⟩
        · have hFc := hF.cell
          have hFf := hF.frozen
          go_big_quiet_op
          first | exact hK | (apply Exists.intro; refine ⟨fun _ => ?_, ?_⟩; (· fail); exact hK)
        (try simp only [Act.put, List.setIfInBounds_toArray, List.set_cons_zero, List.set_cons_succ])
        refine relQuiet rfl rfl ?_
        apply Exists.intro
        refine ⟨fun F_ hF hf K_ hK => ?_, ?_⟩
        · have hFc := hF.cell
          have hFf := hF.frozen
          go_big_quiet_op
          first | exact hK | (apply Exists.intro; refine ⟨fun _ => ?_, ?_⟩; (· fail); exact hK)
        (try simp only [Act.put, List.setIfInBounds_toArray, List.set_cons_zero, List.set_cons_succ])
        refine relQuiet rfl rfl ?_
        apply Exists.intro
        refine ⟨fun F_ hF hf K_ hK => ?_, ?_⟩
        · have hFc := hF.cell
          have hFf := hF.frozen
          go_big_quiet_op
          first | exact hK | (apply Exists.intro; refine ⟨fun _ => ?_, ?_⟩; (· fail); exact hK)
        (try simp only [Act.put, List.setIfInBounds_toArray, List.set_cons_zero, List.set_cons_succ])
        refine relQuiet rfl rfl ?_
        apply Exists.intro
        refine ⟨fun F_ hF hf K_ hK => ?_, ?_⟩
        · have hFc := hF.cell
          have hFf := hF.frozen
          go_big_quiet_op
          first | exact hK | (apply Exists.intro; refine ⟨fun _ => ?_, ?_⟩; (· fail); exact hK)
        (try simp only [Act.put, List.setIfInBounds_toArray, List.set_cons_zero, List.set_cons_succ])
        refine relQuiet rfl rfl ?_
        apply Exists.intro
        refine ⟨fun F_ hF hf K_ hK => ?_, ?_⟩
        · have hFc := hF.cell
          have hFf := hF.frozen
          go_big_quiet_op
          first | exact hK | (apply Exists.intro; refine ⟨fun _ => ?_, ?_⟩; (· fail); exact hK)
        (try simp only [Act.put, List.setIfInBounds_toArray, List.set_cons_zero, List.set_cons_succ])
        refine relQuiet rfl rfl ?_
        apply Exists.intro
        refine ⟨fun F_ hF hf K_ hK => ?_, ?_⟩
        · have hFc := hF.cell
          have hFf := hF.frozen
          go_big_quiet_op
          first | exact hK | (apply Exists.intro; refine ⟨fun _ => ?_, ?_⟩; (· exact hF.call (cO1 _)); exact hK)
        (try simp only [Act.put, List.setIfInBounds_toArray, List.set_cons_zero, List.set_cons_succ])
        refine relQuiet rfl rfl ?_
        apply Exists.intro
        refine ⟨fun F_ hF hf K_ hK => ?_, ?_⟩
        · have hFc := hF.cell
          have hFf := hF.frozen
          go_big_quiet_op
          first | exact hK | (apply Exists.intro; refine ⟨fun _ => ?_, ?_⟩; (· fail); exact hK)
        (try simp only [Act.put, List.setIfInBounds_toArray, List.set_cons_zero, List.set_cons_succ])
        refine relQuiet rfl rfl ?_
        apply Exists.intro
        refine ⟨fun F_ hF hf K_ hK => ?_, ?_⟩
        · have hFc := hF.cell
          have hFf := hF.frozen
          go_big_quiet_op
          first | exact hK | (apply Exists.intro; refine ⟨fun _ => ?_, ?_⟩; (· exact hF.call (cO2 _)); exact hK)
        (try simp only [Act.put, List.setIfInBounds_toArray, List.set_cons_zero, List.set_cons_succ])
        refine relQuiet rfl rfl ?_
        apply Exists.intro
        refine ⟨fun F_ hF hf K_ hK => ?_, ?_⟩
        · have hFc := hF.cell
          have hFf := hF.frozen
          go_big_quiet_op
          first | exact hK | (apply Exists.intro; refine ⟨fun _ => ?_, ?_⟩; (· exact hF.call (cS.out _ (hF.below _))); exact hK)
        (try simp only [Act.put, List.setIfInBounds_toArray, List.set_cons_zero, List.set_cons_succ])
        refine relQuiet rfl rfl ?_
        apply Exists.intro
        refine ⟨fun F_ hF hf K_ hK => ?_, ?_⟩
        · have hFc := hF.cell
          have hFf := hF.frozen
          go_big_quiet_op
          first | exact hK | (apply Exists.intro; refine ⟨fun _ => ?_, ?_⟩; (· fail); exact hK)
        (try simp only [Act.put, List.setIfInBounds_toArray, List.set_cons_zero, List.set_cons_succ])
        refine relQuiet rfl rfl ?_
        apply Exists.intro
        refine ⟨fun F_ hF hf K_ hK => ?_, ?_⟩
        · have hFc := hF.cell
          have hFf := hF.frozen
          go_big_quiet_op
          first | exact hK | (apply Exists.intro; refine ⟨fun _ => ?_, ?_⟩; (· fail); exact hK)
        (try simp only [Act.put, List.setIfInBounds_toArray, List.set_cons_zero, List.set_cons_succ])
        refine relQuiet rfl rfl ?_
        apply Exists.intro
        refine ⟨fun F_ hF hf K_ hK => ?_, ?_⟩
        · have hFc := hF.cell
          have hFf := hF.frozen
          go_big_quiet_op
          first | exact hK | (apply Exists.intro; refine ⟨fun _ => ?_, ?_⟩; (· fail); exact hK)
        (try simp only [Act.put, List.setIfInBounds_toArray, List.set_cons_zero, List.set_cons_succ])
        refine relQuiet rfl rfl ?_
        apply Exists.intro
        refine ⟨fun F_ hF hf K_ hK => ?_, ?_⟩
        · have hFc := hF.cell
          have hFf := hF.frozen
          go_big_quiet_op
          first | exact hK | (apply Exists.intro; refine ⟨fun _ => ?_, ?_⟩; (· fail); exact hK)
        (try simp only [Act.put, List.setIfInBounds_toArray, List.set_cons_zero, List.set_cons_succ])
        refine relQuiet rfl rfl ?_
        apply Exists.intro
        refine ⟨fun F_ hF hf K_ hK => ?_, ?_⟩
        · have hFc := hF.cell
          have hFf := hF.frozen
          go_big_quiet_op
          first | exact hK | (apply Exists.intro; refine ⟨fun _ => ?_, ?_⟩; (· fail); exact hK)
        (try simp only [Act.put, List.setIfInBounds_toArray, List.set_cons_zero, List.set_cons_succ])
        refine relQuiet rfl rfl ?_
        apply Exists.intro
        refine ⟨fun F_ hF hf K_ hK => ?_, ?_⟩
        · have hFc := hF.cell
          have hFf := hF.frozen
          go_big_quiet_op
          first | exact hK | (apply Exists.intro; refine ⟨fun _ => ?_, ?_⟩; (· fail); exact hK)
        (try simp only [Act.put, List.setIfInBounds_toArray, List.set_cons_zero, List.set_cons_succ])
        refine relQuiet rfl rfl ?_
        apply Exists.intro
        refine ⟨fun F_ hF hf K_ hK => ?_, ?_⟩
        · have hFc := hF.cell
          have hFf := hF.frozen
          go_big_quiet_op
          first | exact hK | (apply Exists.intro; refine ⟨fun _ => ?_, ?_⟩; (· fail); exact hK)
        (try simp only [Act.put, List.setIfInBounds_toArray, List.set_cons_zero, List.set_cons_succ])
        refine relTold rfl rfl ?_ ?_
        · intro F_ hF hf d
          have hFc := hF.cell
          have hFf := hF.frozen
          simp [yieldsR, yieldsUpon, go_sem]
          refine (cE2.out (F_ d) (hF.below d)).mono ?_
          rintro e' w8 ⟨v8, rfl, ho8, hb8⟩
          exact ⟨_, rfl, ho8.low (hF.below d).size, hb8⟩
        (try simp only [Act.put, List.setIfInBounds_toArray, List.set_cons_zero, List.set_cons_succ])
        refine relQuiet rfl rfl ?_
        apply Exists.intro
        refine ⟨fun F_ hF hf K_ hK => ?_, ?_⟩
        · have hFc := hF.cell
          have hFf := hF.frozen
          have hcv : ∀ d, Sem.run Try.prog (convert 24 9 (x 21)) (F_ d) = .ok (.string (str l2)) (F_ d) := fun d => conv_any (Own8.bytes (hf _ List.mem_cons_self (by rfl) d)) HL.out.2
          go_big_quiet_op
          first | exact hK | (apply Exists.intro; refine ⟨fun _ => ?_, ?_⟩; (· fail); exact hK)
        (try simp only [Act.put, List.setIfInBounds_toArray, List.set_cons_zero, List.set_cons_succ])
        refine relQuiet rfl rfl ?_
        apply Exists.intro
        refine ⟨fun F_ hF hf K_ hK => ?_, ?_⟩
        · have hFc := hF.cell
          have hFf := hF.frozen
          go_big_quiet_op
          first | exact hK | (apply Exists.intro; refine ⟨fun _ => ?_, ?_⟩; (· fail); exact hK)
        (try simp only [Act.put, List.setIfInBounds_toArray, List.set_cons_zero, List.set_cons_succ])
        refine relQuiet rfl rfl ?_
        apply Exists.intro
        refine ⟨fun F_ hF hf K_ hK => ?_, ?_⟩
        · have hFc := hF.cell
          have hFf := hF.frozen
          have hcv : ∀ d, Sem.run Try.prog (convert 24 9 (.slice p2 n2 c2)) (F_ d) = .ok (.string (str l2)) (F_ d) := fun d => conv_any (HL.out.1.up (hF.below d)) HL.out.2
          go_big_quiet_op
          first | exact hK | (apply Exists.intro; refine ⟨fun _ => ?_, ?_⟩; (· fail); exact hK)
        (try simp only [Act.put, List.setIfInBounds_toArray, List.set_cons_zero, List.set_cons_succ])
        refine relQuiet rfl rfl ?_
        apply Exists.intro
        refine ⟨fun F_ hF hf K_ hK => ?_, ?_⟩
        · have hFc := hF.cell
          have hFf := hF.frozen
          go_big_quiet_op
          first | exact hK | (apply Exists.intro; refine ⟨fun _ => ?_, ?_⟩; (· fail); exact hK)
        (try simp only [Act.put, List.setIfInBounds_toArray, List.set_cons_zero, List.set_cons_succ])
        refine relQuiet rfl rfl ?_
        apply Exists.intro
        refine ⟨fun F_ hF hf K_ hK => ?_, ?_⟩
        · have hFc := hF.cell
          have hFf := hF.frozen
          go_big_quiet_op
          first | exact hK | (apply Exists.intro; refine ⟨fun _ => ?_, ?_⟩; (· fail); exact hK)
        (try simp only [Act.put, List.setIfInBounds_toArray, List.set_cons_zero, List.set_cons_succ])
        refine relQuiet rfl rfl ?_
        apply Exists.intro
        refine ⟨fun F_ hF hf K_ hK => ?_, ?_⟩
        · have hFc := hF.cell
          have hFf := hF.frozen
          go_big_quiet_op
          first | exact hK | (apply Exists.intro; refine ⟨fun _ => ?_, ?_⟩; (· fail); exact hK)
        (try simp only [Act.put, List.setIfInBounds_toArray, List.set_cons_zero, List.set_cons_succ])
        refine relEnd ?_
        exact rfl
      · intro x
        simp only [putsK, List.foldl_cons, List.foldl_nil, Act.put, List.setIfInBounds_toArray, List.set_cons_zero, List.set_cons_succ]
      · intro z5 xs hBz hf
        simp only [List.drop_succ_cons, List.drop_zero]
        have HB7 : Hid (Below w.heap.size w z5) := bstep HB6.out hBz
        obtain ⟨q1, eq1⟩ : ∃ q, xs 21 = q := ⟨_, rfl⟩
        simp only [eq1]
        clear eq1
        clear hf hBz x0 x1 x2 x3 x4 x5 g0 g1' g2 g3 g4 g5 h0 h1 h2 h3 h4 h5 kx kg kh HB6
        go_wp2
        go_ret
        exact ⟨rfl, HB7.out⟩
    · have hi : (if decP l2 then (0 : Int) else 3) = 3 := if_neg d2
      rw [hi]
      have hfd : FrD l2 (.slice ph nh ch) = FrV 0 0 0 0 0 (.slice ph nh ch) := by unfold FrD dN; simp only [if_neg d2]
      rw [hfd]
      unfold FrV
      clear hi hfd hoh
      go_wp2_with fail
      generalize hW6 : World.alloc _ _ = W6
      have HU6 : Hid (Below w4.heap.size w4 W6) := by rw [← hW6]; exact up_alloc _ _
      obtain ⟨h0, h1, h2, h3, h4, h5⟩ : W6.cell? ⟨w4.heap.size, 0, none⟩ = some (.int .i64 0) ∧ W6.cell? ⟨w4.heap.size, 1, none⟩ = some (.int .i64 0) ∧ W6.cell? ⟨w4.heap.size, 2, none⟩ = some (.int .i64 0) ∧ W6.cell? ⟨w4.heap.size, 3, none⟩ = some (.int .u32 0) ∧ W6.cell? ⟨w4.heap.size, 4, none⟩ = some (.int .u32 0) ∧ W6.cell? ⟨w4.heap.size, 5, none⟩ = some (.slice ph nh ch) := by rw [← hW6]; simp [go_sem]
      clear hW6
      replace x0 := still_cell HU6.out x0
      replace x1 := still_cell HU6.out x1
      replace x2 := still_cell HU6.out x2
      replace x3 := still_cell HU6.out x3
      replace x4 := still_cell HU6.out x4
      replace x5 := still_cell HU6.out x5
      replace g0 := still_cell HU6.out g0
      replace g1' := still_cell HU6.out g1'
      replace g2 := still_cell HU6.out g2
      replace g3 := still_cell HU6.out g3
      replace g4 := still_cell HU6.out g4
      replace g5 := still_cell HU6.out g5
      have kx := cell_lt x0
      have kg := cell_lt g0
      have kh := cell_lt h0
      have HB6 : Hid (Below w.heap.size w W6) := bstep HB4.out HU6.out
      have HL : Hid (Bytes W6 (.slice p2 n2 c2) l2 ∧ By8 l2) := ⟨HN.out.2.1.1.up HB6.out, HN.out.2.1.2.1⟩
      have cG := fun W => pfgood_any k1 f1 t1 v1 s1 p1 n1 c1 W
      rw [decide_eq_true g1] at cG
      have cO1 := fun W => fown_any k1 f1 t1 v1 s1 pg ng cg W
      have cO2 := fun W => fown_any k1 f1 t1 v1 s1 p1 n1 c1 W
      have cS : Hid (∀ W, Below W6.heap.size W6 W → Calls Try.prog 13 #[.agg #[.int .i64 k1, .int .i64 f1, .int .i64 t1, .int .u32 v1, .int .u32 s1, .slice pg ng cg], .agg #[.int .i64 k1, .int .i64 f1, .int .i64 t1, .int .u32 v1, .int .u32 s1, .slice p1 n1 c1]] W fun e w' => e = .returned (.bool true) ∧ Below W.heap.size W w') := fun W hW => by
        have := fsame_any k1 f1 t1 v1 s1 k1 f1 t1 v1 s1 pg p1 ng cg n1 c1 b1 b1 HN.out.1.2.1 HN.out.1.2.1 W (HG.out.up (bstep HB34.out (bstep HU6.out hW))) (HN.out.1.1.up (bstep HB6.out hW))
        rw [decide_eq_true ⟨rfl, rfl, rfl, rfl, rfl, rfl⟩] at this
        exact this
      clear HU6 HN HB4 HG HB34
      go_wp2_with fail
      refine rel [] 28 59 (by kernel_rfl) rfl rfl (by kernel_rfl) (by rfl) ?_ ?_
      · intro e he
        simp at he
      apply Exists.intro
      refine ⟨fun x => ?_, ?_, ?_⟩
      · simp only [List.take_succ_cons, List.take_zero]
        refine relQuiet rfl rfl ?_
        apply Exists.intro
        refine ⟨fun F_ hF hf K_ hK => ?_, ?_⟩
        · have hFc := hF.cell
          have hFf := hF.frozen
          go_big_quiet_op
          first | exact hK | (apply Exists.intro; refine ⟨fun _ => ?_, ?_⟩; (· fail); exact hK)
        (try simp only [Act.put, List.setIfInBounds_toArray, List.set_cons_zero, List.set_cons_succ])
        refine relQuiet rfl rfl ?_
        apply Exists.intro
        refine ⟨fun F_ hF hf K_ hK => ?_, ?_⟩
        · have hFc := hF.cell
          have hFf := hF.frozen
          go_big_quiet_op
          first | exact hK | (apply Exists.intro; refine ⟨fun _ => ?_, ?_⟩; (· fail); exact hK)
        (try simp only [Act.put, List.setIfInBounds_toArray, List.set_cons_zero, List.set_cons_succ])
        refine relQuiet rfl rfl ?_
        apply Exists.intro
        refine ⟨fun F_ hF hf K_ hK => ?_, ?_⟩
        · have hFc := hF.cell
          have hFf := hF.frozen
          go_big_quiet_op
          first | exact hK | (apply Exists.intro; refine ⟨fun _ => ?_, ?_⟩; (· fail); exact hK)
        (try simp only [Act.put, List.setIfInBounds_toArray, List.set_cons_zero, List.set_cons_succ])
        refine relQuiet rfl rfl ?_
        apply Exists.intro
        refine ⟨fun F_ hF hf K_ hK => ?_, ?_⟩
        · have hFc := hF.cell
          have hFf := hF.frozen
          go_big_quiet_op
          first | exact hK | (apply Exists.intro; refine ⟨fun _ => ?_, ?_⟩; (· exact hF.call (cG _)); exact hK)
        (try simp only [Act.put, List.setIfInBounds_toArray, List.set_cons_zero, List.set_cons_succ])
        refine relQuiet rfl rfl ?_
        apply Exists.intro
        refine ⟨fun F_ hF hf K_ hK => ?_, ?_⟩
        · have hFc := hF.cell
          have hFf := hF.frozen
          go_big_quiet_op
          first | exact hK | (apply Exists.intro; refine ⟨fun _ => ?_, ?_⟩; (· fail); exact hK)
        (try simp only [Act.put, List.setIfInBounds_toArray, List.set_cons_zero, List.set_cons_succ])
        refine relQuiet rfl rfl ?_
        apply Exists.intro
        refine ⟨fun F_ hF hf K_ hK => ?_, ?_⟩
        · have hFc := hF.cell
          have hFf := hF.frozen
          go_big_quiet_op
          first | exact hK | (apply Exists.intro; refine ⟨fun _ => ?_, ?_⟩; (· fail); exact hK)
        (try simp only [Act.put, List.setIfInBounds_toArray, List.set_cons_zero, List.set_cons_succ])
        refine relQuiet rfl rfl ?_
        apply Exists.intro
        refine ⟨fun F_ hF hf K_ hK => ?_, ?_⟩
        · have hFc := hF.cell
          have hFf := hF.frozen
          go_big_quiet_op
          first | exact hK | (apply Exists.intro; refine ⟨fun _ => ?_, ?_⟩; (· fail); exact hK)
        (try simp only [Act.put, List.setIfInBounds_toArray, List.set_cons_zero, List.set_cons_succ])
        refine relQuiet rfl rfl ?_
        apply Exists.intro
        refine ⟨fun F_ hF hf K_ hK => ?_, ?_⟩
        · have hFc := hF.cell
          have hFf := hF.frozen
          go_big_quiet_op
          first | exact hK | (apply Exists.intro; refine ⟨fun _ => ?_, ?_⟩; (· fail); exact hK)
        (try simp only [Act.put, List.setIfInBounds_toArray, List.set_cons_zero, List.set_cons_succ])
        refine relQuiet rfl rfl ?_
        apply Exists.intro
        refine ⟨fun F_ hF hf K_ hK => ?_, ?_⟩
        · have hFc := hF.cell
          have hFf := hF.frozen
          go_big_quiet_op
          first | exact hK | (apply Exists.intro; refine ⟨fun _ => ?_, ?_⟩; (· fail); exact hK)
        (try simp only [Act.put, List.setIfInBounds_toArray, List.set_cons_zero, List.set_cons_succ])
        refine relQuiet rfl rfl ?_
        apply Exists.intro
        refine ⟨fun F_ hF hf K_ hK => ?_, ?_⟩
        · have hFc := hF.cell
          have hFf := hF.frozen
          go_big_quiet_op
          first | exact hK | (apply Exists.intro; refine ⟨fun _ => ?_, ?_⟩; (· fail); exact hK)
        (try simp only [Act.put, List.setIfInBounds_toArray, List.set_cons_zero, List.set_cons_succ])
        refine relQuiet rfl rfl ?_
        apply Exists.intro
        refine ⟨fun F_ hF hf K_ hK => ?_, ?_⟩
        · have hFc := hF.cell
          have hFf := hF.frozen
          go_big_quiet_op
          first | exact hK | (apply Exists.intro; refine ⟨fun _ => ?_, ?_⟩; (· exact hF.call (cO1 _)); exact hK)
        (try simp only [Act.put, List.setIfInBounds_toArray, List.set_cons_zero, List.set_cons_succ])
        refine relQuiet rfl rfl ?_
        apply Exists.intro
        refine ⟨fun F_ hF hf K_ hK => ?_, ?_⟩
        · have hFc := hF.cell
          have hFf := hF.frozen
          go_big_quiet_op
          first | exact hK | (apply Exists.intro; refine ⟨fun _ => ?_, ?_⟩; (· fail); exact hK)
        (try simp only [Act.put, List.setIfInBounds_toArray, List.set_cons_zero, List.set_cons_succ])
        refine relQuiet rfl rfl ?_
        apply Exists.intro
        refine ⟨fun F_ hF hf K_ hK => ?_, ?_⟩
        · have hFc := hF.cell
          have hFf := hF.frozen
          go_big_quiet_op
          first | exact hK | (apply Exists.intro; refine ⟨fun _ => ?_, ?_⟩; (· exact hF.call (cO2 _)); exact hK)
        (try simp only [Act.put, List.setIfInBounds_toArray, List.set_cons_zero, List.set_cons_succ])
        refine relQuiet rfl rfl ?_
        apply Exists.intro
        refine ⟨fun F_ hF hf K_ hK => ?_, ?_⟩
        · have hFc := hF.cell
          have hFf := hF.frozen
          go_big_quiet_op
          first | exact hK | (apply Exists.intro; refine ⟨fun _ => ?_, ?_⟩; (· exact hF.call (cS.out _ (hF.below _))); exact hK)
        (try simp only [Act.put, List.setIfInBounds_toArray, List.set_cons_zero, List.set_cons_succ])
        refine relQuiet rfl rfl ?_
        apply Exists.intro
        refine ⟨fun F_ hF hf K_ hK => ?_, ?_⟩
        · have hFc := hF.cell
          have hFf := hF.frozen
          go_big_quiet_op
          first | exact hK | (apply Exists.intro; refine ⟨fun _ => ?_, ?_⟩; (· fail); exact hK)
        (try simp only [Act.put, List.setIfInBounds_toArray, List.set_cons_zero, List.set_cons_succ])
        refine relQuiet rfl rfl ?_
        apply Exists.intro
        refine ⟨fun F_ hF hf K_ hK => ?_, ?_⟩
        · have hFc := hF.cell
          have hFf := hF.frozen
          go_big_quiet_op
          first | exact hK | (apply Exists.intro; refine ⟨fun _ => ?_, ?_⟩; (· fail); exact hK)
        (try simp only [Act.put, List.setIfInBounds_toArray, List.set_cons_zero, List.set_cons_succ])
        refine relQuiet rfl rfl ?_
        apply Exists.intro
        refine ⟨fun F_ hF hf K_ hK => ?_, ?_⟩
        · have hFc := hF.cell
          have hFf := hF.frozen
          go_big_quiet_op
          first | exact hK | (apply Exists.intro; refine ⟨fun _ => ?_, ?_⟩; (· fail); exact hK)
        (try simp only [Act.put, List.setIfInBounds_toArray, List.set_cons_zero, List.set_cons_succ])
        refine relQuiet rfl rfl ?_
        apply Exists.intro
        refine ⟨fun F_ hF hf K_ hK => ?_, ?_⟩
        · have hFc := hF.cell
          have hFf := hF.frozen
          go_big_quiet_op
          first | exact hK | (apply Exists.intro; refine ⟨fun _ => ?_, ?_⟩; (· fail); exact hK)
        (try simp only [Act.put, List.setIfInBounds_toArray, List.set_cons_zero, List.set_cons_succ])
        refine relQuiet rfl rfl ?_
        apply Exists.intro
        refine ⟨fun F_ hF hf K_ hK => ?_, ?_⟩
        · have hFc := hF.cell
          have hFf := hF.frozen
          go_big_quiet_op
          first | exact hK | (apply Exists.intro; refine ⟨fun _ => ?_, ?_⟩; (· fail); exact hK)
        (try simp only [Act.put, List.setIfInBounds_toArray, List.set_cons_zero, List.set_cons_succ])
        refine relQuiet rfl rfl ?_
        apply Exists.intro
        refine ⟨fun F_ hF hf K_ hK => ?_, ?_⟩
        · have hFc := hF.cell
          have hFf := hF.frozen
          go_big_quiet_op
          first | exact hK | (apply Exists.intro; refine ⟨fun _ => ?_, ?_⟩; (· fail); exact hK)
        (try simp only [Act.put, List.setIfInBounds_toArray, List.set_cons_zero, List.set_cons_succ])
        refine relSkip rfl rfl ?_
        (try simp only [Act.put, List.setIfInBounds_toArray, List.set_cons_zero, List.set_cons_succ])
        refine relSkip rfl rfl ?_
        (try simp only [Act.put, List.setIfInBounds_toArray, List.set_cons_zero, List.set_cons_succ])
        refine relSkip rfl rfl ?_
        (try simp only [Act.put, List.setIfInBounds_toArray, List.set_cons_zero, List.set_cons_succ])
        refine relSkip rfl rfl ?_
        (try simp only [Act.put, List.setIfInBounds_toArray, List.set_cons_zero, List.set_cons_succ])
        refine relSkip rfl rfl ?_
        (try simp only [Act.put, List.setIfInBounds_toArray, List.set_cons_zero, List.set_cons_succ])
        refine relSkip rfl rfl ?_
        (try simp only [Act.put, List.setIfInBounds_toArray, List.set_cons_zero, List.set_cons_succ])
        refine relQuiet rfl rfl ?_
        apply Exists.intro
        refine ⟨fun F_ hF hf K_ hK => ?_, ?_⟩
        · have hFc := hF.cell
          have hFf := hF.frozen
          go_big_quiet_op
          first | exact hK | (apply Exists.intro; refine ⟨fun _ => ?_, ?_⟩; (· fail); exact hK)
        (try simp only [Act.put, List.setIfInBounds_toArray, List.set_cons_zero, List.set_cons_succ])
        refine relQuiet rfl rfl ?_
        apply Exists.intro
        refine ⟨fun F_ hF hf K_ hK => ?_, ?_⟩
        · have hFc := hF.cell
          have hFf := hF.frozen
          go_big_quiet_op
          first | exact hK | (apply Exists.intro; refine ⟨fun _ => ?_, ?_⟩; (· fail); exact hK)
        (try simp only [Act.put, List.setIfInBounds_toArray, List.set_cons_zero, List.set_cons_succ])
        refine relEnd ?_
        exact rfl
      · intro x
        simp only [putsK, List.foldl_nil]
      · intro z5 xs hBz hf
        simp only [List.drop_succ_cons, List.drop_zero]
        have HB7 : Hid (Below w.heap.size w z5) := bstep HB6.out hBz
        clear hf hBz x0 x1 x2 x3 x4 x5 g0 g1' g2 g3 g4 g5 h0 h1 h2 h3 h4 h5 kx kg kh HB6
        go_wp2
        go_ret
        exact ⟨rfl, HB7.out⟩
  · have h0 : encF k1 f1 t1 v1 s1 b1 = [] := if_neg (by rw [HN.out.1.2.2]; exact g1)
    have h1 : ¬ decP (encF k1 f1 t1 v1 s1 b1) := by rw [h0]; exact not_dec_nil
    have h2 : FrD (encF k1 f1 t1 v1 s1 b1) (.slice pg ng cg) = FrV 0 0 0 0 0 (.slice pg ng cg) := by unfold FrD dN; simp only [if_neg h1]
    rw [if_neg h1, h2]
    have h3 := h0
    clear h0
    unfold FrV
    clear h1 h2 h3 hog
    go_wp2_with fail
    generalize hW4 : World.alloc _ _ = W4
    have HU4 : Hid (Below w3.heap.size w3 W4) := by rw [← hW4]; exact up_alloc _ _
    obtain ⟨g0, g1', g2, g3, g4, g5⟩ : W4.cell? ⟨w3.heap.size, 0, none⟩ = some (.int .i64 0) ∧ W4.cell? ⟨w3.heap.size, 1, none⟩ = some (.int .i64 0) ∧ W4.cell? ⟨w3.heap.size, 2, none⟩ = some (.int .i64 0) ∧ W4.cell? ⟨w3.heap.size, 3, none⟩ = some (.int .u32 0) ∧ W4.cell? ⟨w3.heap.size, 4, none⟩ = some (.int .u32 0) ∧ W4.cell? ⟨w3.heap.size, 5, none⟩ = some (.slice pg ng cg) := by rw [← hW4]; simp [go_sem]
    clear hW4
    replace x0 := still_cell HU4.out x0
    replace x1 := still_cell HU4.out x1
    replace x2 := still_cell HU4.out x2
    replace x3 := still_cell HU4.out x3
    replace x4 := still_cell HU4.out x4
    replace x5 := still_cell HU4.out x5
    refine (pfdec_any p2 n2 c2 l2 HN.out.2.1.2.1 HN.out.2.1.2.2 (by omega) hc2 W4 (HN.out.2.1.1.up (bstep HB3.out HU4.out))).mono ?_
    rintro e w4 ⟨vh, rfl, hoh, hB⟩
    replace x0 := still_cell hB x0
    replace x1 := still_cell hB x1
    replace x2 := still_cell hB x2
    replace x3 := still_cell hB x3
    replace x4 := still_cell hB x4
    replace x5 := still_cell hB x5
    replace g0 := still_cell hB g0
    replace g1' := still_cell hB g1'
    replace g2 := still_cell hB g2
    replace g3 := still_cell hB g3
    replace g4 := still_cell hB g4
    replace g5 := still_cell hB g5
    replace kx := cell_lt x0
    have HB4 : Hid (Below w.heap.size w w4) := bstep HB3.out (bstep HU4.out hB)
    have HB34 : Hid (Below w3.heap.size w3 w4) := bstep HU4.out hB
    obtain ⟨ph, nh, ch, rfl⟩ := own8_sl hoh
    obtain ⟨K, eK⟩ : ∃ x, uK l2 = x := ⟨_, rfl⟩
    obtain ⟨F, eF⟩ : ∃ x, uF l2 = x := ⟨_, rfl⟩
    obtain ⟨T, eT⟩ : ∃ x, uT l2 = x := ⟨_, rfl⟩
    obtain ⟨V, eV⟩ : ∃ x, uV l2 = x := ⟨_, rfl⟩
    obtain ⟨S, eS⟩ : ∃ x, uS l2 = x := ⟨_, rfl⟩
    clear hB HU4
    by_cases d2 : decP l2
    · have hi : (if decP l2 then (0 : Int) else 3) = 0 := if_pos d2
      rw [hi]
      have hfd : FrD l2 (.slice ph nh ch) = FrV K F T V S (.slice ph nh ch) := by unfold FrD dN; simp only [if_pos d2, ← eK, ← eF, ← eT, ← eV, ← eS]
      rw [hfd]
      unfold FrV
      have hbh : dB8 l2 = uB l2 := if_pos d2
      rw [hbh] at hoh
      have hu := u_rng HN.out.2.1.2.1 d2.1
      rw [eV, eS] at hu
      have HH : Hid (Own8 w4 W4.heap.size (.slice ph nh ch) (uB l2) ∧ By8 (uB l2) ∧ (0 ≤ V ∧ V < 4294967296) ∧ (0 ≤ S ∧ S < 4294967296) ∧ encF K F T V S (uB l2) = l2) := ⟨hoh, hu.2.2.1, hu.1, hu.2.1, by have := d2.2; rw [eK, eF, eT, eV, eS] at this; exact this⟩
      clear hi hfd hbh hoh hu
      go_wp2_with fail
      generalize hW6 : World.alloc _ _ = W6
      have HU6 : Hid (Below w4.heap.size w4 W6) := by rw [← hW6]; exact up_alloc _ _
      obtain ⟨h0, h1, h2, h3, h4, h5⟩ : W6.cell? ⟨w4.heap.size, 0, none⟩ = some (.int .i64 K) ∧ W6.cell? ⟨w4.heap.size, 1, none⟩ = some (.int .i64 F) ∧ W6.cell? ⟨w4.heap.size, 2, none⟩ = some (.int .i64 T) ∧ W6.cell? ⟨w4.heap.size, 3, none⟩ = some (.int .u32 V) ∧ W6.cell? ⟨w4.heap.size, 4, none⟩ = some (.int .u32 S) ∧ W6.cell? ⟨w4.heap.size, 5, none⟩ = some (.slice ph nh ch) := by rw [← hW6]; simp [go_sem]
      clear hW6
      replace x0 := still_cell HU6.out x0
      replace x1 := still_cell HU6.out x1
      replace x2 := still_cell HU6.out x2
      replace x3 := still_cell HU6.out x3
      replace x4 := still_cell HU6.out x4
      replace x5 := still_cell HU6.out x5
      replace g0 := still_cell HU6.out g0
      replace g1' := still_cell HU6.out g1'
      replace g2 := still_cell HU6.out g2
      replace g3 := still_cell HU6.out g3
      replace g4 := still_cell HU6.out g4
      replace g5 := still_cell HU6.out g5
      have kx := cell_lt x0
      have kg := cell_lt g0
      have kh := cell_lt h0
      have HB6 : Hid (Below w.heap.size w W6) := bstep HB4.out HU6.out
      have HL : Hid (Bytes W6 (.slice p2 n2 c2) l2 ∧ By8 l2) := ⟨HN.out.2.1.1.up HB6.out, HN.out.2.1.2.1⟩
      have cG := fun W => pfgood_any k1 f1 t1 v1 s1 p1 n1 c1 W
      rw [decide_eq_false g1] at cG
      have hnh : (uB l2).length = nh := by
        obtain ⟨_, _, e, _⟩ := own8_form HH.out.1
        cases e
        rfl
      have cE2 : Hid (∀ W, Below W6.heap.size W6 W → Calls Try.prog 10 #[.agg #[.int .i64 K, .int .i64 F, .int .i64 T, .int .u32 V, .int .u32 S, .slice ph nh ch]] W fun e w' => ∃ v', e = .returned v' ∧ Own8 w' W.heap.size v' l2 ∧ Below W.heap.size W w') := fun W hW => by
        have := pfenc_any K F T V S ph nh ch (uB l2) HH.out.2.2.1 HH.out.2.2.2.1 HH.out.2.1 W ((Own8.bytes HH.out.1).up (bstep HU6.out hW)) hnh
        rw [HH.out.2.2.2.2] at this
        exact this
      have hq : ((str l2).toList == (str l2).toList) = true := by simp
      clear hnh
      clear HU6 HN HB4
      go_wp2_with fail
      refine rel [⟨21, 52, OwnR W6.heap.size l2⟩] 28 59 (by kernel_rfl) rfl rfl (by kernel_rfl) (by rfl) ?_ ?_
      · intro e he v W W' h hb
        simp only [List.mem_cons, List.not_mem_nil, or_false] at he
        rcases he with rfl
        · exact OwnR.up h hb
      apply Exists.intro
      refine ⟨fun x => ?_, ?_, ?_⟩
      · simp only [List.take_succ_cons, List.take_zero]
        refine relQuiet rfl rfl ?_
        apply Exists.intro
        refine ⟨fun F_ hF hf K_ hK => ?_, ?_⟩
        · have hFc := hF.cell
          have hFf := hF.frozen
          go_big_quiet_op
          first | exact hK | (apply Exists.intro; refine ⟨fun _ => ?_, ?_⟩; (· fail); exact hK)
        (try simp only [Act.put, List.setIfInBounds_toArray, List.set_cons_zero, List.set_cons_succ])
        refine relQuiet rfl rfl ?_
        apply Exists.intro
        refine ⟨fun F_ hF hf K_ hK => ?_, ?_⟩
        · have hFc := hF.cell
          have hFf := hF.frozen
          go_big_quiet_op
          first | exact hK | (apply Exists.intro; refine ⟨fun _ => ?_, ?_⟩; (· fail); exact hK)
        (try simp only [Act.put, List.setIfInBounds_toArray, List.set_cons_zero, List.set_cons_succ])
        refine relQuiet rfl rfl ?_
        apply Exists.intro
        refine ⟨fun F_ hF hf K_ hK => ?_, ?_⟩
        · have hFc := hF.cell
          have hFf := hF.frozen
          go_big_quiet_op
          first | exact hK | (apply Exists.intro; refine ⟨fun _ => ?_, ?_⟩; (· fail); exact hK)
        (try simp only [Act.put, List.setIfInBounds_toArray, List.set_cons_zero, List.set_cons_succ])
        refine relQuiet rfl rfl ?_
        apply Exists.intro
        refine ⟨fun F_ hF hf K_ hK => ?_, ?_⟩
        · have hFc := hF.cell
          have hFf := hF.frozen
          go_big_quiet_op
          first | exact hK | (apply Exists.intro; refine ⟨fun _ => ?_, ?_⟩; (· exact hF.call (cG _)); exact hK)
        (try simp only [Act.put, List.setIfInBounds_toArray, List.set_cons_zero, List.set_cons_succ])
        refine relQuiet rfl rfl ?_
        apply Exists.intro
        refine ⟨fun F_ hF hf K_ hK => ?_, ?_⟩
        · have hFc := hF.cell
          have hFf := hF.frozen
          go_big_quiet_op
          first | exact hK | (apply Exists.intro; refine ⟨fun _ => ?_, ?_⟩; (· fail); exact hK)
        (try simp only [Act.put, List.setIfInBounds_toArray, List.set_cons_zero, List.set_cons_succ])
        refine relQuiet rfl rfl ?_
        apply Exists.intro
        refine ⟨fun F_ hF hf K_ hK => ?_, ?_⟩
        · have hFc := hF.cell
          have hFf := hF.frozen
          go_big_quiet_op
          first | exact hK | (apply Exists.intro; refine ⟨fun _ => ?_, ?_⟩; (· fail); exact hK)
        (try simp only [Act.put, List.setIfInBounds_toArray, List.set_cons_zero, List.set_cons_succ])
        refine relQuiet rfl rfl ?_
        apply Exists.intro
        refine ⟨fun F_ hF hf K_ hK => ?_, ?_⟩
        · have hFc := hF.cell
          have hFf := hF.frozen
          go_big_quiet_op
          first | exact hK | (apply Exists.intro; refine ⟨fun _ => ?_, ?_⟩; (· fail); exact hK)
        (try simp only [Act.put, List.setIfInBounds_toArray, List.set_cons_zero, List.set_cons_succ])
        refine relQuiet rfl rfl ?_
        apply Exists.intro
        refine ⟨fun F_ hF hf K_ hK => ?_, ?_⟩
        · have hFc := hF.cell
          have hFf := hF.frozen
          go_big_quiet_op
          first | exact hK | (apply Exists.intro; refine ⟨fun _ => ?_, ?_⟩; (· fail); exact hK)
        (try simp only [Act.put, List.setIfInBounds_toArray, List.set_cons_zero, List.set_cons_succ])
        refine relQuiet rfl rfl ?_
        apply Exists.intro
        refine ⟨fun F_ hF hf K_ hK => ?_, ?_⟩
        · have hFc := hF.cell
          have hFf := hF.frozen
          go_big_quiet_op
          first | exact hK | (apply Exists.intro; refine ⟨fun _ => ?_, ?_⟩; (· fail); exact hK)
        (try simp only [Act.put, List.setIfInBounds_toArray, List.set_cons_zero, List.set_cons_succ])
        refine relSkip rfl rfl ?_
        (try simp only [Act.put, List.setIfInBounds_toArray, List.set_cons_zero, List.set_cons_succ])
        refine relSkip rfl rfl ?_
        (try simp only [Act.put, List.setIfInBounds_toArray, List.set_cons_zero, List.set_cons_succ])
        refine relSkip rfl rfl ?_
        (try simp only [Act.put, List.setIfInBounds_toArray, List.set_cons_zero, List.set_cons_succ])
        refine relSkip rfl rfl ?_
        (try simp only [Act.put, List.setIfInBounds_toArray, List.set_cons_zero, List.set_cons_succ])
        refine relSkip rfl rfl ?_
        (try simp only [Act.put, List.setIfInBounds_toArray, List.set_cons_zero, List.set_cons_succ])
        refine relQuiet rfl rfl ?_
        apply Exists.intro
        refine ⟨fun F_ hF hf K_ hK => ?_, ?_⟩
        · have hFc := hF.cell
          have hFf := hF.frozen
          go_big_quiet_op
          first | exact hK | (apply Exists.intro; refine ⟨fun _ => ?_, ?_⟩; (· fail); exact hK)
        (try simp only [Act.put, List.setIfInBounds_toArray, List.set_cons_zero, List.set_cons_succ])
        refine relQuiet rfl rfl ?_
        apply Exists.intro
        refine ⟨fun F_ hF hf K_ hK => ?_, ?_⟩
        · have hFc := hF.cell
          have hFf := hF.frozen
          go_big_quiet_op
          first | exact hK | (apply Exists.intro; refine ⟨fun _ => ?_, ?_⟩; (· fail); exact hK)
        (try simp only [Act.put, List.setIfInBounds_toArray, List.set_cons_zero, List.set_cons_succ])
        refine relQuiet rfl rfl ?_
        apply Exists.intro
        refine ⟨fun F_ hF hf K_ hK => ?_, ?_⟩
        · have hFc := hF.cell
          have hFf := hF.frozen
          go_big_quiet_op
          first | exact hK | (apply Exists.intro; refine ⟨fun _ => ?_, ?_⟩; (· fail); exact hK)
        (try simp only [Act.put, List.setIfInBounds_toArray, List.set_cons_zero, List.set_cons_succ])
        refine relQuiet rfl rfl ?_
        apply Exists.intro
        refine ⟨fun F_ hF hf K_ hK => ?_, ?_⟩
        · have hFc := hF.cell
          have hFf := hF.frozen
          go_big_quiet_op
          first | exact hK | (apply Exists.intro; refine ⟨fun _ => ?_, ?_⟩; (· fail); exact hK)
        (try simp only [Act.put, List.setIfInBounds_toArray, List.set_cons_zero, List.set_cons_succ])
        refine relQuiet rfl rfl ?_
        apply Exists.intro
        refine ⟨fun F_ hF hf K_ hK => ?_, ?_⟩
        · have hFc := hF.cell
          have hFf := hF.frozen
          go_big_quiet_op
          first | exact hK | (apply Exists.intro; refine ⟨fun _ => ?_, ?_⟩; (· fail); exact hK)
        (try simp only [Act.put, List.setIfInBounds_toArray, List.set_cons_zero, List.set_cons_succ])
        refine relQuiet rfl rfl ?_
        apply Exists.intro
        refine ⟨fun F_ hF hf K_ hK => ?_, ?_⟩
        · have hFc := hF.cell
          have hFf := hF.frozen
          go_big_quiet_op
          first | exact hK | (apply Exists.intro; refine ⟨fun _ => ?_, ?_⟩; (· fail); exact hK)
        (try simp only [Act.put, List.setIfInBounds_toArray, List.set_cons_zero, List.set_cons_succ])
        refine relQuiet rfl rfl ?_
        apply Exists.intro
        refine ⟨fun F_ hF hf K_ hK => ?_, ?_⟩
        · have hFc := hF.cell
          have hFf := hF.frozen
          go_big_quiet_op
          first | exact hK | (apply Exists.intro; refine ⟨fun _ => ?_, ?_⟩; (· fail); exact hK)
        (try simp only [Act.put, List.setIfInBounds_toArray, List.set_cons_zero, List.set_cons_succ])
        refine relTold rfl rfl ?_ ?_
        · intro F_ hF hf d
          have hFc := hF.cell
          have hFf := hF.frozen
          simp [yieldsR, yieldsUpon, go_sem]
          refine (cE2.out (F_ d) (hF.below d)).mono ?_
          rintro e' w8 ⟨v8, rfl, ho8, hb8⟩
          exact ⟨_, rfl, ho8.low (hF.below d).size, hb8⟩
        (try simp only [Act.put, List.setIfInBounds_toArray, List.set_cons_zero, List.set_cons_succ])
        refine relQuiet rfl rfl ?_
        apply Exists.intro
        refine ⟨fun F_ hF hf K_ hK => ?_, ?_⟩
        · have hFc := hF.cell
          have hFf := hF.frozen
          have hcv : ∀ d, Sem.run Try.prog (convert 24 9 (x 21)) (F_ d) = .ok (.string (str l2)) (F_ d) := fun d => conv_any (Own8.bytes (hf _ List.mem_cons_self (by rfl) d)) HL.out.2
          go_big_quiet_op
          first | exact hK | (apply Exists.intro; refine ⟨fun _ => ?_, ?_⟩; (· fail); exact hK)
        (try simp only [Act.put, List.setIfInBounds_toArray, List.set_cons_zero, List.set_cons_succ])
        refine relQuiet rfl rfl ?_
        apply Exists.intro
        refine ⟨fun F_ hF hf K_ hK => ?_, ?_⟩
        · have hFc := hF.cell
          have hFf := hF.frozen
          go_big_quiet_op
          first | exact hK | (apply Exists.intro; refine ⟨fun _ => ?_, ?_⟩; (· fail); exact hK)
        (try simp only [Act.put, List.setIfInBounds_toArray, List.set_cons_zero, List.set_cons_succ])
        refine relQuiet rfl rfl ?_
        apply Exists.intro
        refine ⟨fun F_ hF hf K_ hK => ?_, ?_⟩
        · have hFc := hF.cell
          have hFf := hF.frozen
          have hcv : ∀ d, Sem.run Try.prog (convert 24 9 (.slice p2 n2 c2)) (F_ d) = .ok (.string (str l2)) (F_ d) := fun d => conv_any (HL.out.1.up (hF.below d)) HL.out.2
          go_big_quiet_op
          first | exact hK | (apply Exists.intro; refine ⟨fun _ => ?_, ?_⟩; (· fail); exact hK)
        (try simp only [Act.put, List.setIfInBounds_toArray, List.set_cons_zero, List.set_cons_succ])
        refine relQuiet rfl rfl ?_
        apply Exists.intro
        refine ⟨fun F_ hF hf K_ hK => ?_, ?_⟩
        · have hFc := hF.cell
          have hFf := hF.frozen
          go_big_quiet_op
          first | exact hK | (apply Exists.intro; refine ⟨fun _ => ?_, ?_⟩; (· fail); exact hK)
        (try simp only [Act.put, List.setIfInBounds_toArray, List.set_cons_zero, List.set_cons_succ])
        refine relQuiet rfl rfl ?_
        apply Exists.intro
        refine ⟨fun F_ hF hf K_ hK => ?_, ?_⟩
        · have hFc := hF.cell
          have hFf := hF.frozen
          go_big_quiet_op
          first | exact hK | (apply Exists.intro; refine ⟨fun _ => ?_, ?_⟩; (· fail); exact hK)
        (try simp only [Act.put, List.setIfInBounds_toArray, List.set_cons_zero, List.set_cons_succ])
        refine relQuiet rfl rfl ?_
        apply Exists.intro
        refine ⟨fun F_ hF hf K_ hK => ?_, ?_⟩
        · have hFc := hF.cell
          have hFf := hF.frozen
          go_big_quiet_op
          first | exact hK | (apply Exists.intro; refine ⟨fun _ => ?_, ?_⟩; (· fail); exact hK)
        (try simp only [Act.put, List.setIfInBounds_toArray, List.set_cons_zero, List.set_cons_succ])
        refine relEnd ?_
        exact rfl
      · intro x
        simp only [putsK, List.foldl_cons, List.foldl_nil, Act.put, List.setIfInBounds_toArray, List.set_cons_zero, List.set_cons_succ]
      · intro z5 xs hBz hf
        simp only [List.drop_succ_cons, List.drop_zero]
        have HB7 : Hid (Below w.heap.size w z5) := bstep HB6.out hBz
        obtain ⟨q1, eq1⟩ : ∃ q, xs 21 = q := ⟨_, rfl⟩
        simp only [eq1]
        clear eq1
        clear hf hBz x0 x1 x2 x3 x4 x5 g0 g1' g2 g3 g4 g5 h0 h1 h2 h3 h4 h5 kx kg kh HB6
        go_wp2
        go_ret
        exact ⟨rfl, HB7.out⟩
    · have hi : (if decP l2 then (0 : Int) else 3) = 3 := if_neg d2
      rw [hi]
      have hfd : FrD l2 (.slice ph nh ch) = FrV 0 0 0 0 0 (.slice ph nh ch) := by unfold FrD dN; simp only [if_neg d2]
      rw [hfd]
      unfold FrV
      clear hi hfd hoh
      go_wp2_with fail
      generalize hW6 : World.alloc _ _ = W6
      have HU6 : Hid (Below w4.heap.size w4 W6) := by rw [← hW6]; exact up_alloc _ _
      obtain ⟨h0, h1, h2, h3, h4, h5⟩ : W6.cell? ⟨w4.heap.size, 0, none⟩ = some (.int .i64 0) ∧ W6.cell? ⟨w4.heap.size, 1, none⟩ = some (.int .i64 0) ∧ W6.cell? ⟨w4.heap.size, 2, none⟩ = some (.int .i64 0) ∧ W6.cell? ⟨w4.heap.size, 3, none⟩ = some (.int .u32 0) ∧ W6.cell? ⟨w4.heap.size, 4, none⟩ = some (.int .u32 0) ∧ W6.cell? ⟨w4.heap.size, 5, none⟩ = some (.slice ph nh ch) := by rw [← hW6]; simp [go_sem]
      clear hW6
      replace x0 := still_cell HU6.out x0
      replace x1 := still_cell HU6.out x1
      replace x2 := still_cell HU6.out x2
      replace x3 := still_cell HU6.out x3
      replace x4 := still_cell HU6.out x4
      replace x5 := still_cell HU6.out x5
      replace g0 := still_cell HU6.out g0
      replace g1' := still_cell HU6.out g1'
      replace g2 := still_cell HU6.out g2
      replace g3 := still_cell HU6.out g3
      replace g4 := still_cell HU6.out g4
      replace g5 := still_cell HU6.out g5
      have kx := cell_lt x0
      have kg := cell_lt g0
      have kh := cell_lt h0
      have HB6 : Hid (Below w.heap.size w W6) := bstep HB4.out HU6.out
      have HL : Hid (Bytes W6 (.slice p2 n2 c2) l2 ∧ By8 l2) := ⟨HN.out.2.1.1.up HB6.out, HN.out.2.1.2.1⟩
      have cG := fun W => pfgood_any k1 f1 t1 v1 s1 p1 n1 c1 W
      rw [decide_eq_false g1] at cG
      clear HU6 HN HB4
      go_wp2_with fail
      refine rel [] 28 59 (by kernel_rfl) rfl rfl (by kernel_rfl) (by rfl) ?_ ?_
      · intro e he
        simp at he
      apply Exists.intro
      refine ⟨fun x => ?_, ?_, ?_⟩
      · simp only [List.take_succ_cons, List.take_zero]
        refine relQuiet rfl rfl ?_
        apply Exists.intro
        refine ⟨fun F_ hF hf K_ hK => ?_, ?_⟩
        · have hFc := hF.cell
          have hFf := hF.frozen
          go_big_quiet_op
          first | exact hK | (apply Exists.intro; refine ⟨fun _ => ?_, ?_⟩; (· fail); exact hK)
        (try simp only [Act.put, List.setIfInBounds_toArray, List.set_cons_zero, List.set_cons_succ])
        refine relQuiet rfl rfl ?_
        apply Exists.intro
        refine ⟨fun F_ hF hf K_ hK => ?_, ?_⟩
        · have hFc := hF.cell
          have hFf := hF.frozen
          go_big_quiet_op
          first | exact hK | (apply Exists.intro; refine ⟨fun _ => ?_, ?_⟩; (· fail); exact hK)
        (try simp only [Act.put, List.setIfInBounds_toArray, List.set_cons_zero, List.set_cons_succ])
        refine relQuiet rfl rfl ?_
        apply Exists.intro
        refine ⟨fun F_ hF hf K_ hK => ?_, ?_⟩
        · have hFc := hF.cell
          have hFf := hF.frozen
          go_big_quiet_op
          first | exact hK | (apply Exists.intro; refine ⟨fun _ => ?_, ?_⟩; (· fail); exact hK)
        (try simp only [Act.put, List.setIfInBounds_toArray, List.set_cons_zero, List.set_cons_succ])
        refine relQuiet rfl rfl ?_
        apply Exists.intro
        refine ⟨fun F_ hF hf K_ hK => ?_, ?_⟩
        · have hFc := hF.cell
          have hFf := hF.frozen
          go_big_quiet_op
          first | exact hK | (apply Exists.intro; refine ⟨fun _ => ?_, ?_⟩; (· exact hF.call (cG _)); exact hK)
        (try simp only [Act.put, List.setIfInBounds_toArray, List.set_cons_zero, List.set_cons_succ])
        refine relQuiet rfl rfl ?_
        apply Exists.intro
        refine ⟨fun F_ hF hf K_ hK => ?_, ?_⟩
        · have hFc := hF.cell
          have hFf := hF.frozen
          go_big_quiet_op
          first | exact hK | (apply Exists.intro; refine ⟨fun _ => ?_, ?_⟩; (· fail); exact hK)
        (try simp only [Act.put, List.setIfInBounds_toArray, List.set_cons_zero, List.set_cons_succ])
        refine relQuiet rfl rfl ?_
        apply Exists.intro
        refine ⟨fun F_ hF hf K_ hK => ?_, ?_⟩
        · have hFc := hF.cell
          have hFf := hF.frozen
          go_big_quiet_op
          first | exact hK | (apply Exists.intro; refine ⟨fun _ => ?_, ?_⟩; (· fail); exact hK)
        (try simp only [Act.put, List.setIfInBounds_toArray, List.set_cons_zero, List.set_cons_succ])
        refine relQuiet rfl rfl ?_
        apply Exists.intro
        refine ⟨fun F_ hF hf K_ hK => ?_, ?_⟩
        · have hFc := hF.cell
          have hFf := hF.frozen
          go_big_quiet_op
          first | exact hK | (apply Exists.intro; refine ⟨fun _ => ?_, ?_⟩; (· fail); exact hK)
        (try simp only [Act.put, List.setIfInBounds_toArray, List.set_cons_zero, List.set_cons_succ])
        refine relQuiet rfl rfl ?_
        apply Exists.intro
        refine ⟨fun F_ hF hf K_ hK => ?_, ?_⟩
        · have hFc := hF.cell
          have hFf := hF.frozen
          go_big_quiet_op
          first | exact hK | (apply Exists.intro; refine ⟨fun _ => ?_, ?_⟩; (· fail); exact hK)
        (try simp only [Act.put, List.setIfInBounds_toArray, List.set_cons_zero, List.set_cons_succ])
        refine relQuiet rfl rfl ?_
        apply Exists.intro
        refine ⟨fun F_ hF hf K_ hK => ?_, ?_⟩
        · have hFc := hF.cell
          have hFf := hF.frozen
          go_big_quiet_op
          first | exact hK | (apply Exists.intro; refine ⟨fun _ => ?_, ?_⟩; (· fail); exact hK)
        (try simp only [Act.put, List.setIfInBounds_toArray, List.set_cons_zero, List.set_cons_succ])
        refine relSkip rfl rfl ?_
        (try simp only [Act.put, List.setIfInBounds_toArray, List.set_cons_zero, List.set_cons_succ])
        refine relSkip rfl rfl ?_
        (try simp only [Act.put, List.setIfInBounds_toArray, List.set_cons_zero, List.set_cons_succ])
        refine relSkip rfl rfl ?_
        (try simp only [Act.put, List.setIfInBounds_toArray, List.set_cons_zero, List.set_cons_succ])
        refine relSkip rfl rfl ?_
        (try simp only [Act.put, List.setIfInBounds_toArray, List.set_cons_zero, List.set_cons_succ])
        refine relSkip rfl rfl ?_
        (try simp only [Act.put, List.setIfInBounds_toArray, List.set_cons_zero, List.set_cons_succ])
        refine relQuiet rfl rfl ?_
        apply Exists.intro
        refine ⟨fun F_ hF hf K_ hK => ?_, ?_⟩
        · have hFc := hF.cell
          have hFf := hF.frozen
          go_big_quiet_op
          first | exact hK | (apply Exists.intro; refine ⟨fun _ => ?_, ?_⟩; (· fail); exact hK)
        (try simp only [Act.put, List.setIfInBounds_toArray, List.set_cons_zero, List.set_cons_succ])
        refine relQuiet rfl rfl ?_
        apply Exists.intro
        refine ⟨fun F_ hF hf K_ hK => ?_, ?_⟩
        · have hFc := hF.cell
          have hFf := hF.frozen
          go_big_quiet_op
          first | exact hK | (apply Exists.intro; refine ⟨fun _ => ?_, ?_⟩; (· fail); exact hK)
        (try simp only [Act.put, List.setIfInBounds_toArray, List.set_cons_zero, List.set_cons_succ])
        refine relQuiet rfl rfl ?_
        apply Exists.intro
        refine ⟨fun F_ hF hf K_ hK => ?_, ?_⟩
        · have hFc := hF.cell
          have hFf := hF.frozen
          go_big_quiet_op
          first | exact hK | (apply Exists.intro; refine ⟨fun _ => ?_, ?_⟩; (· fail); exact hK)
        (try simp only [Act.put, List.setIfInBounds_toArray, List.set_cons_zero, List.set_cons_succ])
        refine relQuiet rfl rfl ?_
        apply Exists.intro
        refine ⟨fun F_ hF hf K_ hK => ?_, ?_⟩
        · have hFc := hF.cell
          have hFf := hF.frozen
          go_big_quiet_op
          first | exact hK | (apply Exists.intro; refine ⟨fun _ => ?_, ?_⟩; (· fail); exact hK)
        (try simp only [Act.put, List.setIfInBounds_toArray, List.set_cons_zero, List.set_cons_succ])
        refine relQuiet rfl rfl ?_
        apply Exists.intro
        refine ⟨fun F_ hF hf K_ hK => ?_, ?_⟩
        · have hFc := hF.cell
          have hFf := hF.frozen
          go_big_quiet_op
          first | exact hK | (apply Exists.intro; refine ⟨fun _ => ?_, ?_⟩; (· fail); exact hK)
        (try simp only [Act.put, List.setIfInBounds_toArray, List.set_cons_zero, List.set_cons_succ])
        refine relQuiet rfl rfl ?_
        apply Exists.intro
        refine ⟨fun F_ hF hf K_ hK => ?_, ?_⟩
        · have hFc := hF.cell
          have hFf := hF.frozen
          go_big_quiet_op
          first | exact hK | (apply Exists.intro; refine ⟨fun _ => ?_, ?_⟩; (· fail); exact hK)
        (try simp only [Act.put, List.setIfInBounds_toArray, List.set_cons_zero, List.set_cons_succ])
        refine relSkip rfl rfl ?_
        (try simp only [Act.put, List.setIfInBounds_toArray, List.set_cons_zero, List.set_cons_succ])
        refine relSkip rfl rfl ?_
        (try simp only [Act.put, List.setIfInBounds_toArray, List.set_cons_zero, List.set_cons_succ])
        refine relSkip rfl rfl ?_
        (try simp only [Act.put, List.setIfInBounds_toArray, List.set_cons_zero, List.set_cons_succ])
        refine relSkip rfl rfl ?_
        (try simp only [Act.put, List.setIfInBounds_toArray, List.set_cons_zero, List.set_cons_succ])
        refine relSkip rfl rfl ?_
        (try simp only [Act.put, List.setIfInBounds_toArray, List.set_cons_zero, List.set_cons_succ])
        refine relSkip rfl rfl ?_
        (try simp only [Act.put, List.setIfInBounds_toArray, List.set_cons_zero, List.set_cons_succ])
        refine relQuiet rfl rfl ?_
        apply Exists.intro
        refine ⟨fun F_ hF hf K_ hK => ?_, ?_⟩
        · have hFc := hF.cell
          have hFf := hF.frozen
          go_big_quiet_op
          first | exact hK | (apply Exists.intro; refine ⟨fun _ => ?_, ?_⟩; (· fail); exact hK)
        (try simp only [Act.put, List.setIfInBounds_toArray, List.set_cons_zero, List.set_cons_succ])
        refine relQuiet rfl rfl ?_
        apply Exists.intro
        refine ⟨fun F_ hF hf K_ hK => ?_, ?_⟩
        · have hFc := hF.cell
          have hFf := hF.frozen
          go_big_quiet_op
          first | exact hK | (apply Exists.intro; refine ⟨fun _ => ?_, ?_⟩; (· fail); exact hK)
        (try simp only [Act.put, List.setIfInBounds_toArray, List.set_cons_zero, List.set_cons_succ])
        refine relEnd ?_
        exact rfl
      · intro x
        simp only [putsK, List.foldl_nil]
      · intro z5 xs hBz hf
        simp only [List.drop_succ_cons, List.drop_zero]
        have HB7 : Hid (Below w.heap.size w z5) := bstep HB6.out hBz
        clear hf hBz x0 x1 x2 x3 x4 x5 g0 g1' g2 g3 g4 g5 h0 h1 h2 h3 h4 h5 kx kg kh HB6
        go_wp2
        go_ret
        exact ⟨rfl, HB7.out⟩
end Go.Proofs.Ytdllobikpjejiaa.Wd
