/- FrameSays: any bytes, any frame, as the document says. -/
import Derived.Test.YtdllobikpjejiaaFrO
import Derived.Test.YtdllobikpjejiaaFrW
import Derived.Test.YtdllobikpjejiaaRow
namespace Go.Proofs.Ytdllobikpjejiaa.Wd
open Go.RowKit
set_option linter.unusedVariables false
set_option linter.unusedSimpArgs false
set_option maxRecDepth 8000
set_option maxHeartbeats 8000000
theorem fsays_walk (w : World) (z2 : Nat → Int) (n2 c2 : Nat) (p2 : Option Addr) (k1 f1 t1 v1 s1 : Int) (z1 : Nat → Int) (n1 c1 : Nat) (p1 : Option Addr)
    (hr2 : RowN .u8 w p2 n2 c2 z2) (hv1 : 0 ≤ v1 ∧ v1 < 4294967296) (hs1 : 0 ≤ s1 ∧ s1 < 4294967296) (hr1 : RowN .u8 w p1 n1 c1 z1) :
    Calls Try.prog 4 #[.slice p2 n2 c2, .agg #[.int .i64 k1, .int .i64 f1, .int .i64 t1, .int .u32 v1, .int .u32 s1, .slice p1 n1 c1]] w fun e w' => e = .returned (.bool true) ∧ Below w.heap.size w w' := by
  haveI : Nonempty World := ⟨w⟩
  have hc2 : n2 ≤ c2 := hr2.1.1
  obtain ⟨b1, eb1⟩ : ∃ l, lst n1 z1 = l := ⟨_, rfl⟩
  obtain ⟨l2, el2⟩ : ∃ l, lst n2 z2 = l := ⟨_, rfl⟩
  have HN : Hid ((Bytes w (.slice p1 n1 c1) b1 ∧ By8 b1 ∧ b1.length = n1) ∧ (Bytes w (.slice p2 n2 c2) l2 ∧ By8 l2 ∧ l2.length = n2) ∧ (0 ≤ v1 ∧ v1 < 4294967296) ∧ (0 ≤ s1 ∧ s1 < 4294967296)) := by
    rw [← eb1, ← el2]
    exact ⟨⟨hr1.bytes, hr1.rng, lst_len _ _⟩, ⟨hr2.bytes, hr2.rng, lst_len _ _⟩, hv1, hs1⟩
  clear hr1 hr2 eb1 el2 hv1 hs1
  go_enter Try.func4, Try.ntmps4
  go_wp2_with fail
  generalize hW0 : World.alloc _ _ = W0
  have HB0 : Hid (Below w.heap.size w W0) := by rw [← hW0]; exact up_alloc _ _
  obtain ⟨x0, x1, x2, x3, x4, x5⟩ : W0.cell? ⟨w.heap.size, 0, none⟩ = some (.int .i64 k1) ∧ W0.cell? ⟨w.heap.size, 1, none⟩ = some (.int .i64 f1) ∧ W0.cell? ⟨w.heap.size, 2, none⟩ = some (.int .i64 t1) ∧ W0.cell? ⟨w.heap.size, 3, none⟩ = some (.int .u32 v1) ∧ W0.cell? ⟨w.heap.size, 4, none⟩ = some (.int .u32 s1) ∧ W0.cell? ⟨w.heap.size, 5, none⟩ = some (.slice p1 n1 c1) := by rw [← hW0]; simp [go_sem]
  clear hW0
  refine (awake18_any W0).mono ?_
  rintro e w1 ⟨rfl, hB⟩
  replace x0 := still_cell hB x0
  replace x1 := still_cell hB x1
  replace x2 := still_cell hB x2
  replace x3 := still_cell hB x3
  replace x4 := still_cell hB x4
  replace x5 := still_cell hB x5
  have kx := cell_lt x0
  have HB1 : Hid (Below w.heap.size w w1) := bstep HB0.out hB
  clear hB HB0
  by_cases a2 : 1000 < n2
  · have : (1000 : Int) < (n2 : Int) := by omega
    go_wp2
    go_ret
    exact ⟨rfl, HB1.out⟩
  have a2' : (n2 : Int) ≤ 1000 := by omega
  by_cases a1 : 1000 < n1
  · have : (1000 : Int) < (n1 : Int) := by omega
    go_wp2
    go_ret
    exact ⟨rfl, HB1.out⟩
  have a1' : (n1 : Int) ≤ 1000 := by omega
  go_wp2_with fail
  refine (pfdec_any p2 n2 c2 l2 HN.out.2.1.2.1 HN.out.2.1.2.2 (by omega) hc2 w1 (HN.out.2.1.1.up HB1.out)).mono ?_
  rintro e w2 ⟨vg, rfl, hog, hB⟩
  replace x0 := still_cell hB x0
  replace x1 := still_cell hB x1
  replace x2 := still_cell hB x2
  replace x3 := still_cell hB x3
  replace x4 := still_cell hB x4
  replace x5 := still_cell hB x5
  replace kx := cell_lt x0
  have HB2 : Hid (Below w.heap.size w w2) := bstep HB1.out hB
  obtain ⟨pg, ng, cg, rfl⟩ := own8_sl hog
  have HG : Hid (Bytes w2 (.slice pg ng cg) (dB8 l2) ∧ By8 (dB8 l2)) := ⟨Own8.bytes hog, by
    unfold dB8
    split
    · rename_i h
      exact (u_rng HN.out.2.1.2.1 h.1).2.2.1
    · exact By8.nil⟩
  obtain ⟨K, eK⟩ : ∃ x, dN l2 (uK l2) = x := ⟨_, rfl⟩
  obtain ⟨F, eF⟩ : ∃ x, dN l2 (uF l2) = x := ⟨_, rfl⟩
  obtain ⟨T, eT⟩ : ∃ x, dN l2 (uT l2) = x := ⟨_, rfl⟩
  obtain ⟨V, eV⟩ : ∃ x, dN l2 (uV l2) = x := ⟨_, rfl⟩
  obtain ⟨S, eS⟩ : ∃ x, dN l2 (uS l2) = x := ⟨_, rfl⟩
  have hfd : ∀ vb, FrD l2 vb = FrV K F T V S vb := fun vb => by unfold FrD; rw [eK, eF, eT, eV, eS]
  rw [hfd]
  have cR := fun W (hW : Below w.heap.size w W) => rfdec_any p2 n2 c2 l2 HN.out.2.1.2.1 HN.out.2.1.2.2 (by omega) hc2 W (HN.out.2.1.1.up hW)
  simp only [hfd] at cR
  unfold FrV at cR ⊢
  obtain ⟨D, eD⟩ : ∃ x, dB8 l2 = x := ⟨_, rfl⟩
  rw [eD] at HG cR
  obtain ⟨r, er⟩ : ∃ r, decide (decP l2) = r := ⟨_, rfl⟩
  rw [er] at cR
  obtain ⟨ei, eei⟩ : ∃ x : Int, (if decP l2 then (0 : Int) else 3) = x := ⟨_, rfl⟩
  have HI : Hid ((r = true → ei = 0) ∧ (r = false → ei = 3)) := by
    refine ⟨fun h => ?_, fun h => ?_⟩
    · rw [← eei, if_pos (of_decide_eq_true (er.trans h))]
    · rw [← eei, if_neg (of_decide_eq_false (er.trans h))]
  rw [eei]
  have HC : Hid (∀ W, Below w.heap.size w W → Calls Try.prog 12 #[.slice p2 n2 c2] W fun e w' => ∃ vb, e = .returned (.tuple #[.agg #[.int .i64 K, .int .i64 F, .int .i64 T, .int .u32 V, .int .u32 S, vb], .bool r]) ∧ Own8 w' W.heap.size vb D ∧ Below W.heap.size W w') := cR
  clear cR hfd eei er eK eF eT eV eS eD hog hB HB1
  go_wp2_with fail
  generalize hW4 : World.alloc _ _ = W4
  have HU4 : Hid (Below w2.heap.size w2 W4) := by rw [← hW4]; exact up_alloc _ _
  obtain ⟨g0, g1, g2, g3, g4, g5⟩ : W4.cell? ⟨w2.heap.size, 0, none⟩ = some (.int .i64 K) ∧ W4.cell? ⟨w2.heap.size, 1, none⟩ = some (.int .i64 F) ∧ W4.cell? ⟨w2.heap.size, 2, none⟩ = some (.int .i64 T) ∧ W4.cell? ⟨w2.heap.size, 3, none⟩ = some (.int .u32 V) ∧ W4.cell? ⟨w2.heap.size, 4, none⟩ = some (.int .u32 S) ∧ W4.cell? ⟨w2.heap.size, 5, none⟩ = some (.slice pg ng cg) := by rw [← hW4]; simp [go_sem]
  clear hW4
  replace x0 := still_cell HU4.out x0
  replace x1 := still_cell HU4.out x1
  replace x2 := still_cell HU4.out x2
  replace x3 := still_cell HU4.out x3
  replace x4 := still_cell HU4.out x4
  replace x5 := still_cell HU4.out x5
  refine (HC.out W4 (bstep HB2.out HU4.out)).mono ?_
  rintro e w4 ⟨vh, rfl, hoh, hB⟩
  replace x0 := still_cell hB x0
  replace x1 := still_cell hB x1
  replace x2 := still_cell hB x2
  replace x3 := still_cell hB x3
  replace x4 := still_cell hB x4
  replace x5 := still_cell hB x5
  replace g0 := still_cell hB g0
  replace g1 := still_cell hB g1
  replace g2 := still_cell hB g2
  replace g3 := still_cell hB g3
  replace g4 := still_cell hB g4
  replace g5 := still_cell hB g5
  replace kx := cell_lt x0
  have HB4 : Hid (Below w.heap.size w w4) := bstep HB2.out (bstep HU4.out hB)
  have HB24 : Hid (Below w2.heap.size w2 w4) := bstep HU4.out hB
  obtain ⟨ph, nh, ch, rfl⟩ := own8_sl hoh
  have HH : Hid (Bytes w4 (.slice ph nh ch) D) := Own8.bytes hoh
  clear hB HU4 hoh HC
  go_wp2_with fail
  generalize hW6 : World.alloc _ _ = W6
  have HU6 : Hid (Below w4.heap.size w4 W6) := by rw [← hW6]; exact up_alloc _ _
  obtain ⟨h0, h1, h2, h3, h4, h5⟩ : W6.cell? ⟨w4.heap.size, 0, none⟩ = some (.int .i64 K) ∧ W6.cell? ⟨w4.heap.size, 1, none⟩ = some (.int .i64 F) ∧ W6.cell? ⟨w4.heap.size, 2, none⟩ = some (.int .i64 T) ∧ W6.cell? ⟨w4.heap.size, 3, none⟩ = some (.int .u32 V) ∧ W6.cell? ⟨w4.heap.size, 4, none⟩ = some (.int .u32 S) ∧ W6.cell? ⟨w4.heap.size, 5, none⟩ = some (.slice ph nh ch) := by rw [← hW6]; simp [go_sem]
  clear hW6
  replace x0 := still_cell HU6.out x0
  replace x1 := still_cell HU6.out x1
  replace x2 := still_cell HU6.out x2
  replace x3 := still_cell HU6.out x3
  replace x4 := still_cell HU6.out x4
  replace x5 := still_cell HU6.out x5
  replace g0 := still_cell HU6.out g0
  replace g1 := still_cell HU6.out g1
  replace g2 := still_cell HU6.out g2
  replace g3 := still_cell HU6.out g3
  replace g4 := still_cell HU6.out g4
  replace g5 := still_cell HU6.out g5
  replace kx := cell_lt x0
  have kg := cell_lt g0
  have kh := cell_lt h0
  have HB6 : Hid (Below w.heap.size w W6) := bstep HB4.out HU6.out
  obtain ⟨gd, egd⟩ : ∃ r, decide (goodF k1 f1 t1 n1) = r := ⟨_, rfl⟩
  obtain ⟨E, eE⟩ : ∃ r, encF k1 f1 t1 v1 s1 b1 = r := ⟨_, rfl⟩
  have cG : ∀ W, Calls Try.prog 11 #[.agg #[.int .i64 k1, .int .i64 f1, .int .i64 t1, .int .u32 v1, .int .u32 s1, .slice p1 n1 c1]] W fun e w' => e = .returned (.bool gd) ∧ Below W.heap.size W w' := fun W => by rw [← egd]; exact pfgood_any k1 f1 t1 v1 s1 p1 n1 c1 W
  have cG2 : ∀ W, Calls Try.prog 15 #[.agg #[.int .i64 k1, .int .i64 f1, .int .i64 t1, .int .u32 v1, .int .u32 s1, .slice p1 n1 c1]] W fun e w' => e = .returned (.bool gd) ∧ Below W.heap.size W w' := fun W => by rw [← egd]; exact rfgood_any k1 f1 t1 v1 s1 p1 n1 c1 W
  have cO1 := fun W => fown_any k1 f1 t1 v1 s1 p1 n1 c1 W
  have cO2 := fun W => fown_any K F T V S pg ng cg W
  have cS : Hid (∀ W, Below W6.heap.size W6 W → Calls Try.prog 13 #[.agg #[.int .i64 K, .int .i64 F, .int .i64 T, .int .u32 V, .int .u32 S, .slice pg ng cg], .agg #[.int .i64 K, .int .i64 F, .int .i64 T, .int .u32 V, .int .u32 S, .slice ph nh ch]] W fun e w' => e = .returned (.bool true) ∧ Below W.heap.size W w') := fun W hW => by
    have := fsame_any K F T V S K F T V S pg ph ng cg nh ch D D HG.out.2 HG.out.2 W (HG.out.1.up (bstep HB24.out (bstep HU6.out hW))) (HH.out.up (bstep HU6.out hW))
    rw [decide_eq_true ⟨rfl, rfl, rfl, rfl, rfl, rfl⟩] at this
    exact this
  have cE1 : Hid (∀ W, Below W6.heap.size W6 W → Calls Try.prog 10 #[.agg #[.int .i64 k1, .int .i64 f1, .int .i64 t1, .int .u32 v1, .int .u32 s1, .slice p1 n1 c1]] W fun e w' => ∃ v', e = .returned v' ∧ Own8 w' W.heap.size v' E ∧ Below W.heap.size W w') := fun W hW => by
    rw [← eE]
    exact pfenc_any k1 f1 t1 v1 s1 p1 n1 c1 b1 HN.out.2.2.1 HN.out.2.2.2 HN.out.1.2.1 W (HN.out.1.1.up (bstep HB6.out hW)) HN.out.1.2.2
  have cE2 : Hid (∀ W, Below W6.heap.size W6 W → Calls Try.prog 16 #[.agg #[.int .i64 k1, .int .i64 f1, .int .i64 t1, .int .u32 v1, .int .u32 s1, .slice p1 n1 c1]] W fun e w' => ∃ v', e = .returned v' ∧ Own8 w' W.heap.size v' E ∧ Below W.heap.size W w') := fun W hW => by
    rw [← eE]
    exact rfenc_any k1 f1 t1 v1 s1 p1 n1 c1 b1 HN.out.2.2.1 HN.out.2.2.2 HN.out.1.2.1 W (HN.out.1.1.up (bstep HB6.out hW)) HN.out.1.2.2
  have HE : Hid (By8 E) := by
    rw [← eE]
    exact encF_by HN.out.1.2.1
  have hq : ((str E).toList == (str E).toList) = true := by simp
  have hgg : (gd == gd) = true := by simp
  clear HU6 HN HB4 HB24 HB2 HG HH egd eE
  cases r with
  | true =>
    obtain rfl := HI.out.1 rfl
    go_wp2_with fail
    refine rel [⟨27, 57, OwnR W6.heap.size E⟩, ⟨31, 61, OwnR W6.heap.size E⟩] 35 65 (by kernel_rfl) rfl rfl (by kernel_rfl) (by rfl) ?_ ?_
    · intro e he v W W' h hb
      simp only [List.mem_cons, List.not_mem_nil, or_false] at he
      rcases he with rfl | rfl
      · exact OwnR.up h hb
      · exact OwnR.up h hb
    apply Exists.intro
    refine ⟨fun x => ?_, ?_, ?_⟩
    · simp only [List.take_succ_cons, List.take_zero]
      refine relQuiet rfl rfl ?_
      apply Exists.intro
      refine ⟨fun F_ hF hf K_ hK => ?_, ?_⟩
      · have hFc := hF.cell
        have hFf := hF.frozen
        go_big_quiet_op
        first | exact hK | (apply Exists.intro; refine ⟨fun _ => ?_, ?_⟩; (· fail); exact hK)
      (try simp only [Act.put, List.setIfInBounds_toArray, List.set_cons_zero, List.set_cons_succ])
      refine relQuiet rfl rfl ?_
      apply Exists.intro
      refine ⟨fun F_ hF hf K_ hK => ?_, ?_⟩
      · have hFc := hF.cell
        have hFf := hF.frozen
        go_big_quiet_op
        first | exact hK | (apply Exists.intro; refine ⟨fun _ => ?_, ?_⟩; (· fail); exact hK)
      (try simp only [Act.put, List.setIfInBounds_toArray, List.set_cons_zero, List.set_cons_succ])
      refine relQuiet rfl rfl ?_
      apply Exists.intro
      refine ⟨fun F_ hF hf K_ hK => ?_, ?_⟩
      · have hFc := hF.cell
        have hFf := hF.frozen
        go_big_quiet_op
        first | exact hK | (apply Exists.intro; refine ⟨fun _ => ?_, ?_⟩; (· fail); exact hK)
      (try simp only [Act.put, List.setIfInBounds_toArray, List.set_cons_zero, List.set_cons_succ])
      refine relQuiet rfl rfl ?_
      apply Exists.intro
      refine ⟨fun F_ hF hf K_ hK => ?_, ?_⟩
      · have hFc := hF.cell
        have hFf := hF.frozen
        go_big_quiet_op
        first | exact hK | (apply Exists.intro; refine ⟨fun _ => ?_, ?_⟩; (· fail); exact hK)
      (try simp only [Act.put, List.setIfInBounds_toArray, List.set_cons_zero, List.set_cons_succ])
      refine relQuiet rfl rfl ?_
      apply Exists.intro
      refine ⟨fun F_ hF hf K_ hK => ?_, ?_⟩
      · have hFc := hF.cell
        have hFf := hF.frozen
        go_big_quiet_op
        first | exact hK | (apply Exists.intro; refine ⟨fun _ => ?_, ?_⟩; (· fail); exact hK)
      (try simp only [Act.put, List.setIfInBounds_toArray, List.set_cons_zero, List.set_cons_succ])
      refine relQuiet rfl rfl ?_
      apply Exists.intro
      refine ⟨fun F_ hF hf K_ hK => ?_, ?_⟩
      · have hFc := hF.cell
        have hFf := hF.frozen
        go_big_quiet_op
        first | exact hK | (apply Exists.intro; refine ⟨fun _ => ?_, ?_⟩; (· fail); exact hK)
      (try simp only [Act.put, List.setIfInBounds_toArray, List.set_cons_zero, List.set_cons_succ])
      refine relQuiet rfl rfl ?_
      apply Exists.intro
      refine ⟨fun F_ hF hf K_ hK => ?_, ?_⟩
      · have hFc := hF.cell
        have hFf := hF.frozen
        go_big_quiet_op
        first | exact hK | (apply Exists.intro; refine ⟨fun _ => ?_, ?_⟩; (· fail); exact hK)
      (try simp only [Act.put, List.setIfInBounds_toArray, List.set_cons_zero, List.set_cons_succ])
      refine relSkip rfl rfl ?_
      (try simp only [Act.put, List.setIfInBounds_toArray, List.set_cons_zero, List.set_cons_succ])
      refine relSkip rfl rfl ?_
      (try simp only [Act.put, List.setIfInBounds_toArray, List.set_cons_zero, List.set_cons_succ])
      refine relQuiet rfl rfl ?_
      apply Exists.intro
      refine ⟨fun F_ hF hf K_ hK => ?_, ?_⟩
      · have hFc := hF.cell
        have hFf := hF.frozen
        go_big_quiet_op
        first | exact hK | (apply Exists.intro; refine ⟨fun _ => ?_, ?_⟩; (· fail); exact hK)
      (try simp only [Act.put, List.setIfInBounds_toArray, List.set_cons_zero, List.set_cons_succ])
      refine relQuiet rfl rfl ?_
      apply Exists.intro
      refine ⟨fun F_ hF hf K_ hK => ?_, ?_⟩
      · have hFc := hF.cell
        have hFf := hF.frozen
        go_big_quiet_op
        first | exact hK | (apply Exists.intro; refine ⟨fun _ => ?_, ?_⟩; (· fail); exact hK)
      (try simp only [Act.put, List.setIfInBounds_toArray, List.set_cons_zero, List.set_cons_succ])
      refine relQuiet rfl rfl ?_
      apply Exists.intro
      refine ⟨fun F_ hF hf K_ hK => ?_, ?_⟩
      · have hFc := hF.cell
        have hFf := hF.frozen
        go_big_quiet_op
        first | exact hK | (apply Exists.intro; refine ⟨fun _ => ?_, ?_⟩; (· fail); exact hK)
      (try simp only [Act.put, List.setIfInBounds_toArray, List.set_cons_zero, List.set_cons_succ])
      refine relQuiet rfl rfl ?_
      apply Exists.intro
      refine ⟨fun F_ hF hf K_ hK => ?_, ?_⟩
      · have hFc := hF.cell
        have hFf := hF.frozen
        go_big_quiet_op
        first | exact hK | (apply Exists.intro; refine ⟨fun _ => ?_, ?_⟩; (· fail); exact hK)
      (try simp only [Act.put, List.setIfInBounds_toArray, List.set_cons_zero, List.set_cons_succ])
      refine relQuiet rfl rfl ?_
      apply Exists.intro
      refine ⟨fun F_ hF hf K_ hK => ?_, ?_⟩
      · have hFc := hF.cell
        have hFf := hF.frozen
        go_big_quiet_op
        first | exact hK | (apply Exists.intro; refine ⟨fun _ => ?_, ?_⟩; (· exact hF.call (cO2 _)); exact hK)
      (try simp only [Act.put, List.setIfInBounds_toArray, List.set_cons_zero, List.set_cons_succ])
      refine relQuiet rfl rfl ?_
      apply Exists.intro
      refine ⟨fun F_ hF hf K_ hK => ?_, ?_⟩
      · have hFc := hF.cell
        have hFf := hF.frozen
        go_big_quiet_op
        first | exact hK | (apply Exists.intro; refine ⟨fun _ => ?_, ?_⟩; (· fail); exact hK)
      (try simp only [Act.put, List.setIfInBounds_toArray, List.set_cons_zero, List.set_cons_succ])
      refine relQuiet rfl rfl ?_
      apply Exists.intro
      refine ⟨fun F_ hF hf K_ hK => ?_, ?_⟩
      · have hFc := hF.cell
        have hFf := hF.frozen
        go_big_quiet_op
        first | exact hK | (apply Exists.intro; refine ⟨fun _ => ?_, ?_⟩; (· exact hF.call (cS.out _ (hF.below _))); exact hK)
      (try simp only [Act.put, List.setIfInBounds_toArray, List.set_cons_zero, List.set_cons_succ])
      refine relQuiet rfl rfl ?_
      apply Exists.intro
      refine ⟨fun F_ hF hf K_ hK => ?_, ?_⟩
      · have hFc := hF.cell
        have hFf := hF.frozen
        go_big_quiet_op
        first | exact hK | (apply Exists.intro; refine ⟨fun _ => ?_, ?_⟩; (· fail); exact hK)
      (try simp only [Act.put, List.setIfInBounds_toArray, List.set_cons_zero, List.set_cons_succ])
      refine relQuiet rfl rfl ?_
      apply Exists.intro
      refine ⟨fun F_ hF hf K_ hK => ?_, ?_⟩
      · have hFc := hF.cell
        have hFf := hF.frozen
        go_big_quiet_op
        first | exact hK | (apply Exists.intro; refine ⟨fun _ => ?_, ?_⟩; (· fail); exact hK)
      (try simp only [Act.put, List.setIfInBounds_toArray, List.set_cons_zero, List.set_cons_succ])
      refine relQuiet rfl rfl ?_
      apply Exists.intro
      refine ⟨fun F_ hF hf K_ hK => ?_, ?_⟩
      · have hFc := hF.cell
        have hFf := hF.frozen
        go_big_quiet_op
        first | exact hK | (apply Exists.intro; refine ⟨fun _ => ?_, ?_⟩; (· fail); exact hK)
      (try simp only [Act.put, List.setIfInBounds_toArray, List.set_cons_zero, List.set_cons_succ])
      refine relQuiet rfl rfl ?_
      apply Exists.intro
      refine ⟨fun F_ hF hf K_ hK => ?_, ?_⟩
      · have hFc := hF.cell
        have hFf := hF.frozen
        go_big_quiet_op
        first | exact hK | (apply Exists.intro; refine ⟨fun _ => ?_, ?_⟩; (· exact hF.call (cG _)); exact hK)
      (try simp only [Act.put, List.setIfInBounds_toArray, List.set_cons_zero, List.set_cons_succ])
      refine relQuiet rfl rfl ?_
      apply Exists.intro
      refine ⟨fun F_ hF hf K_ hK => ?_, ?_⟩
      · have hFc := hF.cell
        have hFf := hF.frozen
        go_big_quiet_op
        first | exact hK | (apply Exists.intro; refine ⟨fun _ => ?_, ?_⟩; (· fail); exact hK)
      (try simp only [Act.put, List.setIfInBounds_toArray, List.set_cons_zero, List.set_cons_succ])
      refine relQuiet rfl rfl ?_
      apply Exists.intro
      refine ⟨fun F_ hF hf K_ hK => ?_, ?_⟩
      · have hFc := hF.cell
        have hFf := hF.frozen
        go_big_quiet_op
        first | exact hK | (apply Exists.intro; refine ⟨fun _ => ?_, ?_⟩; (· exact hF.call (cO1 _)); exact hK)
      (try simp only [Act.put, List.setIfInBounds_toArray, List.set_cons_zero, List.set_cons_succ])
      refine relQuiet rfl rfl ?_
      apply Exists.intro
      refine ⟨fun F_ hF hf K_ hK => ?_, ?_⟩
      · have hFc := hF.cell
        have hFf := hF.frozen
        go_big_quiet_op
        first | exact hK | (apply Exists.intro; refine ⟨fun _ => ?_, ?_⟩; (· exact hF.call (cG2 _)); exact hK)
      (try simp only [Act.put, List.setIfInBounds_toArray, List.set_cons_zero, List.set_cons_succ])
      refine relQuiet rfl rfl ?_
      apply Exists.intro
      refine ⟨fun F_ hF hf K_ hK => ?_, ?_⟩
      · have hFc := hF.cell
        have hFf := hF.frozen
        go_big_quiet_op
        first | exact hK | (apply Exists.intro; refine ⟨fun _ => ?_, ?_⟩; (· fail); exact hK)
      (try simp only [Act.put, List.setIfInBounds_toArray, List.set_cons_zero, List.set_cons_succ])
      refine relQuiet rfl rfl ?_
      apply Exists.intro
      refine ⟨fun F_ hF hf K_ hK => ?_, ?_⟩
      · have hFc := hF.cell
        have hFf := hF.frozen
        go_big_quiet_op
        first | exact hK | (apply Exists.intro; refine ⟨fun _ => ?_, ?_⟩; (· fail); exact hK)
      (try simp only [Act.put, List.setIfInBounds_toArray, List.set_cons_zero, List.set_cons_succ])
      refine relQuiet rfl rfl ?_
      apply Exists.intro
      refine ⟨fun F_ hF hf K_ hK => ?_, ?_⟩
      · have hFc := hF.cell
        have hFf := hF.frozen
        go_big_quiet_op
        first | exact hK | (apply Exists.intro; refine ⟨fun _ => ?_, ?_⟩; (· fail); exact hK)
      (try simp only [Act.put, List.setIfInBounds_toArray, List.set_cons_zero, List.set_cons_succ])
      refine relQuiet rfl rfl ?_
      apply Exists.intro
      refine ⟨fun F_ hF hf K_ hK => ?_, ?_⟩
      · have hFc := hF.cell
        have hFf := hF.frozen
        go_big_quiet_op
        first | exact hK | (apply Exists.intro; refine ⟨fun _ => ?_, ?_⟩; (· fail); exact hK)
      (try simp only [Act.put, List.setIfInBounds_toArray, List.set_cons_zero, List.set_cons_succ])
      refine relTold rfl rfl ?_ ?_
      · intro F_ hF hf d
        have hFc := hF.cell
        have hFf := hF.frozen
        simp [yieldsR, yieldsUpon, go_sem]
        refine (cE1.out (F_ d) (hF.below d)).mono ?_
        rintro e' w8 ⟨v8, rfl, ho8, hb8⟩
        exact ⟨_, rfl, ho8.low (hF.below d).size, hb8⟩
      (try simp only [Act.put, List.setIfInBounds_toArray, List.set_cons_zero, List.set_cons_succ])
      refine relQuiet rfl rfl ?_
      apply Exists.intro
      refine ⟨fun F_ hF hf K_ hK => ?_, ?_⟩
      · have hFc := hF.cell
        have hFf := hF.frozen
        have hcv : ∀ d, Sem.run Try.prog (convert 24 9 (x 27)) (F_ d) = .ok (.string (str E)) (F_ d) := fun d => conv_any (Own8.bytes (hf _ List.mem_cons_self (by rfl) d)) HE.out
        go_big_quiet_op
        first | exact hK | (apply Exists.intro; refine ⟨fun _ => ?_, ?_⟩; (· fail); exact hK)
      (try simp only [Act.put, List.setIfInBounds_toArray, List.set_cons_zero, List.set_cons_succ])
      refine relQuiet rfl rfl ?_
      apply Exists.intro
      refine ⟨fun F_ hF hf K_ hK => ?_, ?_⟩
      · have hFc := hF.cell
        have hFf := hF.frozen
        go_big_quiet_op
        first | exact hK | (apply Exists.intro; refine ⟨fun _ => ?_, ?_⟩; (· fail); exact hK)
      (try simp only [Act.put, List.setIfInBounds_toArray, List.set_cons_zero, List.set_cons_succ])
      refine relQuiet rfl rfl ?_
      apply Exists.intro
      refine ⟨fun F_ hF hf K_ hK => ?_, ?_⟩
      · have hFc := hF.cell
        have hFf := hF.frozen
        go_big_quiet_op
        first | exact hK | (apply Exists.intro; refine ⟨fun _ => ?_, ?_⟩; (· exact hF.call (cO1 _)); exact hK)
      (try simp only [Act.put, List.setIfInBounds_toArray, List.set_cons_zero, List.set_cons_succ])
      refine relTold rfl rfl ?_ ?_
      · intro F_ hF hf d
        have hFc := hF.cell
        have hFf := hF.frozen
        simp [yieldsR, yieldsUpon, go_sem]
        refine (cE2.out (F_ d) (hF.below d)).mono ?_
        rintro e' w8 ⟨v8, rfl, ho8, hb8⟩
        exact ⟨_, rfl, ho8.low (hF.below d).size, hb8⟩
      (try simp only [Act.put, List.setIfInBounds_toArray, List.set_cons_zero, List.set_cons_succ])
      refine relQuiet rfl rfl ?_
      apply Exists.intro
      refine ⟨fun F_ hF hf K_ hK => ?_, ?_⟩
      · have hFc := hF.cell
        have hFf := hF.frozen
        have hcv : ∀ d, Sem.run Try.prog (convert 24 9 (x 31)) (F_ d) = .ok (.string (str E)) (F_ d) := fun d => conv_any (Own8.bytes (hf _ (List.mem_cons_of_mem _ List.mem_cons_self) (by rfl) d)) HE.out
        go_big_quiet_op
        first | exact hK | (apply Exists.intro; refine ⟨fun _ => ?_, ?_⟩; (· fail); exact hK)
      (try simp only [Act.put, List.setIfInBounds_toArray, List.set_cons_zero, List.set_cons_succ])
      refine relQuiet rfl rfl ?_
      apply Exists.intro
      refine ⟨fun F_ hF hf K_ hK => ?_, ?_⟩
      · have hFc := hF.cell
        have hFf := hF.frozen
        go_big_quiet_op
        first | exact hK | (apply Exists.intro; refine ⟨fun _ => ?_, ?_⟩; (· fail); exact hK)
      (try simp only [Act.put, List.setIfInBounds_toArray, List.set_cons_zero, List.set_cons_succ])
      refine relQuiet rfl rfl ?_
      apply Exists.intro
      refine ⟨fun F_ hF hf K_ hK => ?_, ?_⟩
      · have hFc := hF.cell
        have hFf := hF.frozen
        go_big_quiet_op
        first | exact hK | (apply Exists.intro; refine ⟨fun _ => ?_, ?_⟩; (· fail); exact hK)
      (try simp only [Act.put, List.setIfInBounds_toArray, List.set_cons_zero, List.set_cons_succ])
      refine relEnd ?_
      exact rfl
    · intro x
      simp only [putsK, List.foldl_cons, List.foldl_nil, Act.put, List.setIfInBounds_toArray, List.set_cons_zero, List.set_cons_succ]
    · intro z5 xs hBz hf
      simp only [List.drop_succ_cons, List.drop_zero]
      have HB7 : Hid (Below w.heap.size w z5) := bstep HB6.out hBz
      obtain ⟨q1, eq1⟩ : ∃ q, xs 27 = q := ⟨_, rfl⟩
      obtain ⟨q2, eq2⟩ : ∃ q, xs 31 = q := ⟨_, rfl⟩
      simp only [eq1, eq2]
      clear eq1 eq2 hf hBz x0 x1 x2 x3 x4 x5 g0 g1 g2 g3 g4 g5 h0 h1 h2 h3 h4 h5 kx kg kh HB6
      go_wp2
      go_ret
      exact ⟨rfl, HB7.out⟩
  | false =>
    obtain rfl := HI.out.2 rfl
    go_wp2_with fail
    refine rel [⟨27, 57, OwnR W6.heap.size E⟩, ⟨31, 61, OwnR W6.heap.size E⟩] 35 65 (by kernel_rfl) rfl rfl (by kernel_rfl) (by rfl) ?_ ?_
    · intro e he v W W' h hb
      simp only [List.mem_cons, List.not_mem_nil, or_false] at he
      rcases he with rfl | rfl
      · exact OwnR.up h hb
      · exact OwnR.up h hb
    apply Exists.intro
    refine ⟨fun x => ?_, ?_, ?_⟩
    · simp only [List.take_succ_cons, List.take_zero]
      refine relQuiet rfl rfl ?_
      apply Exists.intro
      refine ⟨fun F_ hF hf K_ hK => ?_, ?_⟩
      · have hFc := hF.cell
        have hFf := hF.frozen
        go_big_quiet_op
        first | exact hK | (apply Exists.intro; refine ⟨fun _ => ?_, ?_⟩; (· fail); exact hK)
      (try simp only [Act.put, List.setIfInBounds_toArray, List.set_cons_zero, List.set_cons_succ])
      refine relQuiet rfl rfl ?_
      apply Exists.intro
      refine ⟨fun F_ hF hf K_ hK => ?_, ?_⟩
      · have hFc := hF.cell
        have hFf := hF.frozen
        go_big_quiet_op
        first | exact hK | (apply Exists.intro; refine ⟨fun _ => ?_, ?_⟩; (· fail); exact hK)
      (try simp only [Act.put, List.setIfInBounds_toArray, List.set_cons_zero, List.set_cons_succ])
      refine relQuiet rfl rfl ?_
      apply Exists.intro
      refine ⟨fun F_ hF hf K_ hK => ?_, ?_⟩
      · have hFc := hF.cell
        have hFf := hF.frozen
        go_big_quiet_op
        first | exact hK | (apply Exists.intro; refine ⟨fun _ => ?_, ?_⟩; (· fail); exact hK)
      (try simp only [Act.put, List.setIfInBounds_toArray, List.set_cons_zero, List.set_cons_succ])
      refine relQuiet rfl rfl ?_
      apply Exists.intro
      refine ⟨fun F_ hF hf K_ hK => ?_, ?_⟩
      · have hFc := hF.cell
        have hFf := hF.frozen
        go_big_quiet_op
        first | exact hK | (apply Exists.intro; refine ⟨fun _ => ?_, ?_⟩; (· fail); exact hK)
      (try simp only [Act.put, List.setIfInBounds_toArray, List.set_cons_zero, List.set_cons_succ])
      refine relQuiet rfl rfl ?_
      apply Exists.intro
      refine ⟨fun F_ hF hf K_ hK => ?_, ?_⟩
      · have hFc := hF.cell
        have hFf := hF.frozen
        go_big_quiet_op
        first | exact hK | (apply Exists.intro; refine ⟨fun _ => ?_, ?_⟩; (· fail); exact hK)
      (try simp only [Act.put, List.setIfInBounds_toArray, List.set_cons_zero, List.set_cons_succ])
      refine relQuiet rfl rfl ?_
      apply Exists.intro
      refine ⟨fun F_ hF hf K_ hK => ?_, ?_⟩
      · have hFc := hF.cell
        have hFf := hF.frozen
        go_big_quiet_op
        first | exact hK | (apply Exists.intro; refine ⟨fun _ => ?_, ?_⟩; (· fail); exact hK)
      (try simp only [Act.put, List.setIfInBounds_toArray, List.set_cons_zero, List.set_cons_succ])
      refine relQuiet rfl rfl ?_
      apply Exists.intro
      refine ⟨fun F_ hF hf K_ hK => ?_, ?_⟩
      · have hFc := hF.cell
        have hFf := hF.frozen
        go_big_quiet_op
        first | exact hK | (apply Exists.intro; refine ⟨fun _ => ?_, ?_⟩; (· fail); exact hK)
      (try simp only [Act.put, List.setIfInBounds_toArray, List.set_cons_zero, List.set_cons_succ])
      refine relQuiet rfl rfl ?_
      apply Exists.intro
      refine ⟨fun F_ hF hf K_ hK => ?_, ?_⟩
      · have hFc := hF.cell
        have hFf := hF.frozen
        go_big_quiet_op
        first | exact hK | (apply Exists.intro; refine ⟨fun _ => ?_, ?_⟩; (· fail); exact hK)
      (try simp only [Act.put, List.setIfInBounds_toArray, List.set_cons_zero, List.set_cons_succ])
      refine relQuiet rfl rfl ?_
      apply Exists.intro
      refine ⟨fun F_ hF hf K_ hK => ?_, ?_⟩
      · have hFc := hF.cell
        have hFf := hF.frozen
        go_big_quiet_op
        first | exact hK | (apply Exists.intro; refine ⟨fun _ => ?_, ?_⟩; (· fail); exact hK)
      (try simp only [Act.put, List.setIfInBounds_toArray, List.set_cons_zero, List.set_cons_succ])
      refine relQuiet rfl rfl ?_
      apply Exists.intro
      refine ⟨fun F_ hF hf K_ hK => ?_, ?_⟩
      · have hFc := hF.cell
        have hFf := hF.frozen
        go_big_quiet_op
        first | exact hK | (apply Exists.intro; refine ⟨fun _ => ?_, ?_⟩; (· fail); exact hK)
      (try simp only [Act.put, List.setIfInBounds_toArray, List.set_cons_zero, List.set_cons_succ])
      refine relQuiet rfl rfl ?_
      apply Exists.intro
      refine ⟨fun F_ hF hf K_ hK => ?_, ?_⟩
      · have hFc := hF.cell
        have hFf := hF.frozen
        go_big_quiet_op
        first | exact hK | (apply Exists.intro; refine ⟨fun _ => ?_, ?_⟩; (· fail); exact hK)
      (try simp only [Act.put, List.setIfInBounds_toArray, List.set_cons_zero, List.set_cons_succ])
      refine relQuiet rfl rfl ?_
      apply Exists.intro
      refine ⟨fun F_ hF hf K_ hK => ?_, ?_⟩
      · have hFc := hF.cell
        have hFf := hF.frozen
        go_big_quiet_op
        first | exact hK | (apply Exists.intro; refine ⟨fun _ => ?_, ?_⟩; (· fail); exact hK)
      (try simp only [Act.put, List.setIfInBounds_toArray, List.set_cons_zero, List.set_cons_succ])
      refine relQuiet rfl rfl ?_
      apply Exists.intro
      refine ⟨fun F_ hF hf K_ hK => ?_, ?_⟩
      · have hFc := hF.cell
        have hFf := hF.frozen
        go_big_quiet_op
        first | exact hK | (apply Exists.intro; refine ⟨fun _ => ?_, ?_⟩; (· fail); exact hK)
      (try simp only [Act.put, List.setIfInBounds_toArray, List.set_cons_zero, List.set_cons_succ])
      refine relQuiet rfl rfl ?_
      apply Exists.intro
      refine ⟨fun F_ hF hf K_ hK => ?_, ?_⟩
      · have hFc := hF.cell
        have hFf := hF.frozen
        go_big_quiet_op
        first | exact hK | (apply Exists.intro; refine ⟨fun _ => ?_, ?_⟩; (· exact hF.call (cO2 _)); exact hK)
      (try simp only [Act.put, List.setIfInBounds_toArray, List.set_cons_zero, List.set_cons_succ])
      refine relQuiet rfl rfl ?_
      apply Exists.intro
      refine ⟨fun F_ hF hf K_ hK => ?_, ?_⟩
      · have hFc := hF.cell
        have hFf := hF.frozen
        go_big_quiet_op
        first | exact hK | (apply Exists.intro; refine ⟨fun _ => ?_, ?_⟩; (· fail); exact hK)
      (try simp only [Act.put, List.setIfInBounds_toArray, List.set_cons_zero, List.set_cons_succ])
      refine relQuiet rfl rfl ?_
      apply Exists.intro
      refine ⟨fun F_ hF hf K_ hK => ?_, ?_⟩
      · have hFc := hF.cell
        have hFf := hF.frozen
        go_big_quiet_op
        first | exact hK | (apply Exists.intro; refine ⟨fun _ => ?_, ?_⟩; (· exact hF.call (cS.out _ (hF.below _))); exact hK)
      (try simp only [Act.put, List.setIfInBounds_toArray, List.set_cons_zero, List.set_cons_succ])
      refine relQuiet rfl rfl ?_
      apply Exists.intro
      refine ⟨fun F_ hF hf K_ hK => ?_, ?_⟩
      · have hFc := hF.cell
        have hFf := hF.frozen
        go_big_quiet_op
        first | exact hK | (apply Exists.intro; refine ⟨fun _ => ?_, ?_⟩; (· fail); exact hK)
      (try simp only [Act.put, List.setIfInBounds_toArray, List.set_cons_zero, List.set_cons_succ])
      refine relQuiet rfl rfl ?_
      apply Exists.intro
      refine ⟨fun F_ hF hf K_ hK => ?_, ?_⟩
      · have hFc := hF.cell
        have hFf := hF.frozen
        go_big_quiet_op
        first | exact hK | (apply Exists.intro; refine ⟨fun _ => ?_, ?_⟩; (· fail); exact hK)
      (try simp only [Act.put, List.setIfInBounds_toArray, List.set_cons_zero, List.set_cons_succ])
      refine relQuiet rfl rfl ?_
      apply Exists.intro
      refine ⟨fun F_ hF hf K_ hK => ?_, ?_⟩
      · have hFc := hF.cell
        have hFf := hF.frozen
        go_big_quiet_op
        first | exact hK | (apply Exists.intro; refine ⟨fun _ => ?_, ?_⟩; (· fail); exact hK)
      (try simp only [Act.put, List.setIfInBounds_toArray, List.set_cons_zero, List.set_cons_succ])
      refine relQuiet rfl rfl ?_
      apply Exists.intro
      refine ⟨fun F_ hF hf K_ hK => ?_, ?_⟩
      · have hFc := hF.cell
        have hFf := hF.frozen
        go_big_quiet_op
        first | exact hK | (apply Exists.intro; refine ⟨fun _ => ?_, ?_⟩; (· exact hF.call (cG _)); exact hK)
      (try simp only [Act.put, List.setIfInBounds_toArray, List.set_cons_zero, List.set_cons_succ])
      refine relQuiet rfl rfl ?_
      apply Exists.intro
      refine ⟨fun F_ hF hf K_ hK => ?_, ?_⟩
      · have hFc := hF.cell
        have hFf := hF.frozen
        go_big_quiet_op
        first | exact hK | (apply Exists.intro; refine ⟨fun _ => ?_, ?_⟩; (· fail); exact hK)
      (try simp only [Act.put, List.setIfInBounds_toArray, List.set_cons_zero, List.set_cons_succ])
      refine relQuiet rfl rfl ?_
      apply Exists.intro
      refine ⟨fun F_ hF hf K_ hK => ?_, ?_⟩
      · have hFc := hF.cell
        have hFf := hF.frozen
        go_big_quiet_op
        first | exact hK | (apply Exists.intro; refine ⟨fun _ => ?_, ?_⟩; (· exact hF.call (cO1 _)); exact hK)
      (try simp only [Act.put, List.setIfInBounds_toArray, List.set_cons_zero, List.set_cons_succ])
      refine relQuiet rfl rfl ?_
      apply Exists.intro
      refine ⟨fun F_ hF hf K_ hK => ?_, ?_⟩
      · have hFc := hF.cell
        have hFf := hF.frozen
        go_big_quiet_op
        first | exact hK | (apply Exists.intro; refine ⟨fun _ => ?_, ?_⟩; (· exact hF.call (cG2 _)); exact hK)
      (try simp only [Act.put, List.setIfInBounds_toArray, List.set_cons_zero, List.set_cons_succ])
      refine relQuiet rfl rfl ?_
      apply Exists.intro
      refine ⟨fun F_ hF hf K_ hK => ?_, ?_⟩
      · have hFc := hF.cell
        have hFf := hF.frozen
        go_big_quiet_op
        first | exact hK | (apply Exists.intro; refine ⟨fun _ => ?_, ?_⟩; (· fail); exact hK)
      (try simp only [Act.put, List.setIfInBounds_toArray, List.set_cons_zero, List.set_cons_succ])
      refine relQuiet rfl rfl ?_
      apply Exists.intro
      refine ⟨fun F_ hF hf K_ hK => ?_, ?_⟩
      · have hFc := hF.cell
        have hFf := hF.frozen
        go_big_quiet_op
        first | exact hK | (apply Exists.intro; refine ⟨fun _ => ?_, ?_⟩; (· fail); exact hK)
      (try simp only [Act.put, List.setIfInBounds_toArray, List.set_cons_zero, List.set_cons_succ])
      refine relQuiet rfl rfl ?_
      apply Exists.intro
      refine ⟨fun F_ hF hf K_ hK => ?_, ?_⟩
      · have hFc := hF.cell
        have hFf := hF.frozen
        go_big_quiet_op
        first | exact hK | (apply Exists.intro; refine ⟨fun _ => ?_, ?_⟩; (· fail); exact hK)
      (try simp only [Act.put, List.setIfInBounds_toArray, List.set_cons_zero, List.set_cons_succ])
      refine relQuiet rfl rfl ?_
      apply Exists.intro
      refine ⟨fun F_ hF hf K_ hK => ?_, ?_⟩
      · have hFc := hF.cell
        have hFf := hF.frozen
        go_big_quiet_op
        first | exact hK | (apply Exists.intro; refine ⟨fun _ => ?_, ?_⟩; (· fail); exact hK)
      (try simp only [Act.put, List.setIfInBounds_toArray, List.set_cons_zero, List.set_cons_succ])
      refine relTold rfl rfl ?_ ?_
      · intro F_ hF hf d
        have hFc := hF.cell
        have hFf := hF.frozen
        simp [yieldsR, yieldsUpon, go_sem]
        refine (cE1.out (F_ d) (hF.below d)).mono ?_
        rintro e' w8 ⟨v8, rfl, ho8, hb8⟩
        exact ⟨_, rfl, ho8.low (hF.below d).size, hb8⟩
      (try simp only [Act.put, List.setIfInBounds_toArray, List.set_cons_zero, List.set_cons_succ])
      refine relQuiet rfl rfl ?_
      apply Exists.intro
      refine ⟨fun F_ hF hf K_ hK => ?_, ?_⟩
      · have hFc := hF.cell
        have hFf := hF.frozen
        have hcv : ∀ d, Sem.run Try.prog (convert 24 9 (x 27)) (F_ d) = .ok (.string (str E)) (F_ d) := fun d => conv_any (Own8.bytes (hf _ List.mem_cons_self (by rfl) d)) HE.out
        go_big_quiet_op
        first | exact hK | (apply Exists.intro; refine ⟨fun _ => ?_, ?_⟩; (· fail); exact hK)
      (try simp only [Act.put, List.setIfInBounds_toArray, List.set_cons_zero, List.set_cons_succ])
      refine relQuiet rfl rfl ?_
      apply Exists.intro
      refine ⟨fun F_ hF hf K_ hK => ?_, ?_⟩
      · have hFc := hF.cell
        have hFf := hF.frozen
        go_big_quiet_op
        first | exact hK | (apply Exists.intro; refine ⟨fun _ => ?_, ?_⟩; (· fail); exact hK)
      (try simp only [Act.put, List.setIfInBounds_toArray, List.set_cons_zero, List.set_cons_succ])
      refine relQuiet rfl rfl ?_
      apply Exists.intro
      refine ⟨fun F_ hF hf K_ hK => ?_, ?_⟩
      · have hFc := hF.cell
        have hFf := hF.frozen
        go_big_quiet_op
        first | exact hK | (apply Exists.intro; refine ⟨fun _ => ?_, ?_⟩; (· exact hF.call (cO1 _)); exact hK)
      (try simp only [Act.put, List.setIfInBounds_toArray, List.set_cons_zero, List.set_cons_succ])
      refine relTold rfl rfl ?_ ?_
      · intro F_ hF hf d
        have hFc := hF.cell
        have hFf := hF.frozen
        simp [yieldsR, yieldsUpon, go_sem]
        refine (cE2.out (F_ d) (hF.below d)).mono ?_
        rintro e' w8 ⟨v8, rfl, ho8, hb8⟩
        exact ⟨_, rfl, ho8.low (hF.below d).size, hb8⟩
      (try simp only [Act.put, List.setIfInBounds_toArray, List.set_cons_zero, List.set_cons_succ])
      refine relQuiet rfl rfl ?_
      apply Exists.intro
      refine ⟨fun F_ hF hf K_ hK => ?_, ?_⟩
      · have hFc := hF.cell
        have hFf := hF.frozen
        have hcv : ∀ d, Sem.run Try.prog (convert 24 9 (x 31)) (F_ d) = .ok (.string (str E)) (F_ d) := fun d => conv_any (Own8.bytes (hf _ (List.mem_cons_of_mem _ List.mem_cons_self) (by rfl) d)) HE.out
        go_big_quiet_op
        first | exact hK | (apply Exists.intro; refine ⟨fun _ => ?_, ?_⟩; (· fail); exact hK)
      (try simp only [Act.put, List.setIfInBounds_toArray, List.set_cons_zero, List.set_cons_succ])
      refine relQuiet rfl rfl ?_
      apply Exists.intro
      refine ⟨fun F_ hF hf K_ hK => ?_, ?_⟩
      · have hFc := hF.cell
        have hFf := hF.frozen
        go_big_quiet_op
        first | exact hK | (apply Exists.intro; refine ⟨fun _ => ?_, ?_⟩; (· fail); exact hK)
      (try simp only [Act.put, List.setIfInBounds_toArray, List.set_cons_zero, List.set_cons_succ])
      refine relQuiet rfl rfl ?_
      apply Exists.intro
      refine ⟨fun F_ hF hf K_ hK => ?_, ?_⟩
      · have hFc := hF.cell
        have hFf := hF.frozen
        go_big_quiet_op
        first | exact hK | (apply Exists.intro; refine ⟨fun _ => ?_, ?_⟩; (· fail); exact hK)
      (try simp only [Act.put, List.setIfInBounds_toArray, List.set_cons_zero, List.set_cons_succ])
      refine relEnd ?_
      exact rfl
    · intro x
      simp only [putsK, List.foldl_cons, List.foldl_nil, Act.put, List.setIfInBounds_toArray, List.set_cons_zero, List.set_cons_succ]
    · intro z5 xs hBz hf
      simp only [List.drop_succ_cons, List.drop_zero]
      have HB7 : Hid (Below w.heap.size w z5) := bstep HB6.out hBz
      obtain ⟨q1, eq1⟩ : ∃ q, xs 27 = q := ⟨_, rfl⟩
      obtain ⟨q2, eq2⟩ : ∃ q, xs 31 = q := ⟨_, rfl⟩
      simp only [eq1, eq2]
      clear eq1 eq2 hf hBz x0 x1 x2 x3 x4 x5 g0 g1 g2 g3 g4 g5 h0 h1 h2 h3 h4 h5 kx kg kh HB6
      go_wp2
      go_ret
      exact ⟨rfl, HB7.out⟩
end Go.Proofs.Ytdllobikpjejiaa.Wd
