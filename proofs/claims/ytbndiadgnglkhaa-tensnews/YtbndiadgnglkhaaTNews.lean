/- TensNews: a tensor of any shape that may be has that shape, and one number all over. -/
import Derived.Test.YtbndiadgnglkhaaTenM
import Derived.Test.YtbndiadgnglkhaaTenG
namespace Go.Proofs.Ytbndiadgnglkhaa.Wd
open Go.RowKit
set_option linter.unusedVariables false
set_option linter.unusedSimpArgs false
theorem new_is {d : List Int} (h : goodN (ntl d)) (X : Int) : isP d (List.replicate (prodN (ntl d)) X) := ⟨h, by simp⟩
set_option maxRecDepth 8000 in
set_option maxHeartbeats 4000000 in
theorem tnews_walk (w : World) (z : Nat → Int) (n cap : Nat) (p : Option Addr) (X : Int) (hr : RowN .i64 w p n cap z) (hX : -9223372036854775808 ≤ X ∧ X ≤ 9223372036854775807) :
    Calls Try.prog 6 #[.slice p n cap, .int .i64 X] w fun e w' => e = .returned (.bool true) ∧ Below w.heap.size w w' := by
  have HA : Hid (Nums .i64 w (.slice p n cap) (nlst n z) ∧ RI (nlst n z) ∧ (nlst n z).length = n ∧ Few (nlst n z)) := ⟨hr.nums, hr.riI, nlst_len _ _, hr.few⟩
  obtain ⟨d, ed⟩ : ∃ d, nlst n z = d := ⟨_, rfl⟩
  rw [ed] at HA
  clear hr ed
  haveI : Nonempty World := ⟨w⟩
  go_enter Try.func6, Try.ntmps6
  go_wp2_with fail
  refine (tawake_any w).mono ?_
  rintro e w1 ⟨rfl, hB1⟩
  have HB1 : Hid (Below w.heap.size w w1) := hB1
  clear hB1
  by_cases hn : 10 < n
  · have hn' : (10 : Int) < (n : Int) := by omega
    go_wp2
    go_ret
    exact ⟨rfl, HB1.out⟩
  have hn' : (n : Int) ≤ 10 := by omega
  have cN := tnew_any _ d HA.out.2.1 X w1 (HA.out.1.up HB1.out)
  unfold newE newD newV at cN
  have cG : ∀ W, Below w.heap.size w W → Calls Try.prog 29 #[.slice p n cap] W fun e w' => e = .returned (.bool (decide (goodN (ntl d)))) ∧ w' = W := fun W hW => rgood_any _ d HA.out.2.1 W (HA.out.1.up hW)
  by_cases hg : goodN (ntl d)
  · rw [if_pos hg, if_pos hg, if_pos hg] at cN
    rw [decide_eq_true hg] at cG
    have hP := new_is hg X
    have hN : prodN (ntl d) ≤ 4096 := hg.2.2
    have cR : ∀ W, Below w.heap.size w W → Calls Try.prog 30 #[.slice p n cap, .int .i64 X] W fun e w' => ∃ v', e = .returned v' ∧ Tn d (List.replicate (prodN (ntl d)) X) v' w' ∧ Below W.heap.size W w' := fun W hW => by
      refine (rnew_any _ d HA.out.2.1 hg X W (HA.out.1.up hW)).mono ?_
      rintro e w' ⟨v', rfl, h, hb⟩
      exact ⟨v', rfl, h.res.tn, hb⟩
    obtain ⟨V, eV⟩ : ∃ V, List.replicate (prodN (ntl d)) X = V := ⟨_, rfl⟩
    have HV : Hid (isP d V ∧ Few V) := ⟨by rw [← eV]; exact hP, by unfold Few; rw [← eV, List.length_replicate]; omega⟩
    rw [eV] at cN cR
    have HR : Hid (∀ W, Below w.heap.size w W → Calls Try.prog 30 #[.slice p n cap, .int .i64 X] W fun e w' => ∃ v', e = .returned v' ∧ Tn d V v' w' ∧ Below W.heap.size W w') := cR
    clear hg hP hN eV cR
    go_wp2_with fail
    refine cN.mono ?_
    rintro e w2 ⟨v2, rfl, ⟨s2, t2, rfl, hs2, ht2⟩, hB2⟩
    obtain ⟨p2, n2, c2, rfl, _⟩ := hs2.nums.lst
    obtain ⟨p3, n3, c3, rfl, _⟩ := ht2.nums.lst
    have HB2 : Hid (Below w.heap.size w w2) := bstep HB1.out hB2
    have HT2 : Hid (Tn d V (.agg #[.slice p2 n2 c2, .slice p3 n3 c3]) w2) := ⟨_, _, _, _, _, _, rfl, hs2.nums, ht2.nums⟩
    clear cN hs2 ht2 hB2
    go_wp2_with fail
    generalize hW3 : World.alloc _ _ = W3
    have hB3 : Below w2.heap.size w2 W3 := by rw [← hW3]; exact up_alloc w2 _
    have X3 : Hid (Cel W3 w2.heap.size (.slice p2 n2 c2) (.slice p3 n3 c3)) := by show Cel _ _ _ _; unfold Cel; rw [← hW3]; simp [go_sem]
    have HB3 : Hid (Below w.heap.size w W3) := bstep HB2.out hB3
    have HT3 : Hid (Tn d V (.agg #[.slice p2 n2 c2, .slice p3 n3 c3]) W3) := HT2.out.up hB3
    clear hW3 hB3
    refine (cG W3 HB3.out).mono ?_
    rintro e w4 ⟨rfl, rfl⟩
    clear cG
    obtain ⟨a0, a1, _, _⟩ := X3.out
    have z0 := cell_lt a0
    have HL : Hid (∀ W v, Below w4.heap.size w4 W → Tn d V v W → Calls Try.prog 21 #[.agg #[.slice p2 n2 c2, .slice p3 n3 c3], v] W fun e w' => e = .returned (.bool true) ∧ Below W.heap.size W w') := fun W v hW hv => by
      have := alike_tn (HT3.out.up hW) hv HA.out.2.2.2 HV.out.2
      rw [decide_eq_true ⟨rfl, rfl⟩] at this
      exact this
    have HG : Hid (∀ W, Below w4.heap.size w4 W → Calls Try.prog 22 #[.agg #[.slice p2 n2 c2, .slice p3 n3 c3]] W fun e w' => e = .returned (.bool true) ∧ Below W.heap.size W w') := fun W hW => by
      have := good_tn (HT3.out.up hW) HA.out.2.1
      rw [decide_eq_true HV.out.1] at this
      exact this
    go_wp2_with fail
    refine rel [⟨6, 35, Tn d V⟩] 13 42 (by kernel_rfl) rfl rfl (by kernel_rfl) (by rfl) ?_ ?_
    · intro e he v W W' h hb
      simp only [List.mem_cons, List.not_mem_nil, or_false] at he
      subst he
      exact Tn.up h hb
    apply Exists.intro
    refine ⟨fun x => ?_, ?_, ?_⟩
    · simp only [List.take_succ_cons, List.take_zero]
      refine relQuiet rfl rfl ?_
      apply Exists.intro
      refine ⟨fun F hF hf K hK => ?_, ?_⟩
      · have hFc := hF.cell
        have hFf := hF.frozen
        go_big_quiet_op
        first | exact hK | (apply Exists.intro; refine ⟨fun _ => ?_, ?_⟩; (· fail); exact hK)
      (try simp only [Act.put, List.setIfInBounds_toArray, List.set_cons_zero, List.set_cons_succ])
      refine relQuiet rfl rfl ?_
      apply Exists.intro
      refine ⟨fun F hF hf K hK => ?_, ?_⟩
      · have hFc := hF.cell
        have hFf := hF.frozen
        go_big_quiet_op
        first | exact hK | (apply Exists.intro; refine ⟨fun _ => ?_, ?_⟩; (· fail); exact hK)
      (try simp only [Act.put, List.setIfInBounds_toArray, List.set_cons_zero, List.set_cons_succ])
      refine relQuiet rfl rfl ?_
      apply Exists.intro
      refine ⟨fun F hF hf K hK => ?_, ?_⟩
      · have hFc := hF.cell
        have hFf := hF.frozen
        go_big_quiet_op
        first | exact hK | (apply Exists.intro; refine ⟨fun _ => ?_, ?_⟩; (· fail); exact hK)
      (try simp only [Act.put, List.setIfInBounds_toArray, List.set_cons_zero, List.set_cons_succ])
      refine relQuiet rfl rfl ?_
      apply Exists.intro
      refine ⟨fun F hF hf K hK => ?_, ?_⟩
      · have hFc := hF.cell
        have hFf := hF.frozen
        go_big_quiet_op
        first | exact hK | (apply Exists.intro; refine ⟨fun _ => ?_, ?_⟩; (· fail); exact hK)
      (try simp only [Act.put, List.setIfInBounds_toArray, List.set_cons_zero, List.set_cons_succ])
      refine relQuiet rfl rfl ?_
      apply Exists.intro
      refine ⟨fun F hF hf K hK => ?_, ?_⟩
      · have hFc := hF.cell
        have hFf := hF.frozen
        go_big_quiet_op
        first | exact hK | (apply Exists.intro; refine ⟨fun _ => ?_, ?_⟩; (· fail); exact hK)
      (try simp only [Act.put, List.setIfInBounds_toArray, List.set_cons_zero, List.set_cons_succ])
      refine relQuiet rfl rfl ?_
      apply Exists.intro
      refine ⟨fun F hF hf K hK => ?_, ?_⟩
      · have hFc := hF.cell
        have hFf := hF.frozen
        go_big_quiet_op
        first | exact hK | (apply Exists.intro; refine ⟨fun _ => ?_, ?_⟩; (· fail); exact hK)
      (try simp only [Act.put, List.setIfInBounds_toArray, List.set_cons_zero, List.set_cons_succ])
      refine relTold rfl rfl ?_ ?_
      · intro F hF hf d_
        have hFc := hF.cell
        have hFf := hF.frozen
        simp [yieldsR, yieldsUpon, go_sem]
        refine (HR.out (F d_) (bstep HB3.out (hF.below d_))).mono ?_
        rintro e' w8 ⟨v8, rfl, h8, hb8⟩
        exact ⟨_, rfl, h8, hb8⟩
      (try simp only [Act.put, List.setIfInBounds_toArray, List.set_cons_zero, List.set_cons_succ])
      refine relQuiet rfl rfl ?_
      apply Exists.intro
      refine ⟨fun F hF hf K hK => ?_, ?_⟩
      · have hFc := hF.cell
        have hFf := hF.frozen
        go_big_quiet_op
        first | exact hK | (apply Exists.intro; refine ⟨fun _ => ?_, ?_⟩; (· exact hF.call (HL.out _ _ (hF.below _) (hf _ List.mem_cons_self (by rfl) _))); exact hK)
      (try simp only [Act.put, List.setIfInBounds_toArray, List.set_cons_zero, List.set_cons_succ])
      refine relQuiet rfl rfl ?_
      apply Exists.intro
      refine ⟨fun F hF hf K hK => ?_, ?_⟩
      · have hFc := hF.cell
        have hFf := hF.frozen
        go_big_quiet_op
        first | exact hK | (apply Exists.intro; refine ⟨fun _ => ?_, ?_⟩; (· fail); exact hK)
      (try simp only [Act.put, List.setIfInBounds_toArray, List.set_cons_zero, List.set_cons_succ])
      refine relQuiet rfl rfl ?_
      apply Exists.intro
      refine ⟨fun F hF hf K hK => ?_, ?_⟩
      · have hFc := hF.cell
        have hFf := hF.frozen
        go_big_quiet_op
        first | exact hK | (apply Exists.intro; refine ⟨fun _ => ?_, ?_⟩; (· fail); exact hK)
      (try simp only [Act.put, List.setIfInBounds_toArray, List.set_cons_zero, List.set_cons_succ])
      refine relQuiet rfl rfl ?_
      apply Exists.intro
      refine ⟨fun F hF hf K hK => ?_, ?_⟩
      · have hFc := hF.cell
        have hFf := hF.frozen
        go_big_quiet_op
        first | exact hK | (apply Exists.intro; refine ⟨fun _ => ?_, ?_⟩; (· fail); exact hK)
      (try simp only [Act.put, List.setIfInBounds_toArray, List.set_cons_zero, List.set_cons_succ])
      refine relQuiet rfl rfl ?_
      apply Exists.intro
      refine ⟨fun F hF hf K hK => ?_, ?_⟩
      · have hFc := hF.cell
        have hFf := hF.frozen
        go_big_quiet_op
        first | exact hK | (apply Exists.intro; refine ⟨fun _ => ?_, ?_⟩; (· exact hF.call (HG.out _ (hF.below _))); exact hK)
      (try simp only [Act.put, List.setIfInBounds_toArray, List.set_cons_zero, List.set_cons_succ])
      refine relQuiet rfl rfl ?_
      apply Exists.intro
      refine ⟨fun F hF hf K hK => ?_, ?_⟩
      · have hFc := hF.cell
        have hFf := hF.frozen
        go_big_quiet_op
        first | exact hK | (apply Exists.intro; refine ⟨fun _ => ?_, ?_⟩; (· fail); exact hK)
      (try simp only [Act.put, List.setIfInBounds_toArray, List.set_cons_zero, List.set_cons_succ])
      refine relEnd ?_
      exact rfl
    · exact fun x => rfl
    · intro w5 xs hB5 hf
      simp only [List.drop_succ_cons, List.drop_zero]
      have HB5 : Hid (Below w.heap.size w w5) := bstep HB3.out hB5
      clear hf hB5
      go_wp2
      go_ret
      exact ⟨rfl, HB5.out⟩
  · rw [if_neg hg, if_neg hg, if_neg hg] at cN
    rw [decide_eq_false hg] at cG
    clear hg
    go_wp2_with fail
    refine cN.mono ?_
    rintro e w2 ⟨v2, rfl, ⟨s2, t2, rfl, hs2, ht2⟩, hB2⟩
    obtain ⟨p2, n2, c2, rfl, _⟩ := hs2.nums.lst
    obtain ⟨p3, n3, c3, rfl, L3⟩ := ht2.nums.lst
    obtain rfl : 0 = n3 := L3.out.1
    have HB2 : Hid (Below w.heap.size w w2) := bstep HB1.out hB2
    clear cN hs2 ht2 hB2 L3
    go_wp2_with fail
    generalize hW3 : World.alloc _ _ = W3
    have hB3 : Below w2.heap.size w2 W3 := by rw [← hW3]; exact up_alloc w2 _
    have X3 : Hid (Cel W3 w2.heap.size (.slice p2 n2 c2) (.slice p3 0 c3)) := by show Cel _ _ _ _; unfold Cel; rw [← hW3]; simp [go_sem]
    have HB3 : Hid (Below w.heap.size w W3) := bstep HB2.out hB3
    clear hW3 hB3
    refine (cG W3 HB3.out).mono ?_
    rintro e w4 ⟨rfl, rfl⟩
    clear cG
    obtain ⟨a0, a1, _, _⟩ := X3.out
    go_wp2
    go_ret
    exact ⟨rfl, HB3.out⟩
end Go.Proofs.Ytbndiadgnglkhaa.Wd
