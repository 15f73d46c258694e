/- ConvKnown: what chapter 8 says of a few. -/
import Derived.Test.YtnicknnhboanoaaDoorCvL
namespace Go.Proofs.YtnicknnhboanoaaDoor.Wd
open Go.RowKit Fx
set_option linter.unusedVariables false
set_option linter.unusedSimpArgs false
theorem kn1 : rwE [1, 3] [1, 2, 3] [1, 1, 2] [4294967296, 4294967296] 0 = 1 ∧ rwD [1, 3] [1, 2, 3] [1, 1, 2] [4294967296, 4294967296] 0 = [] ∧ rwV [1, 3] [1, 2, 3] [1, 1, 2] [4294967296, 4294967296] 0 = [] := by decide +kernel
theorem kn2 : rwE [1, 1, 2] [4294967296, 4294967296] [1, 3] [1, 2, 3] 1 = 4 ∧ rwD [1, 1, 2] [4294967296, 4294967296] [1, 3] [1, 2, 3] 1 = [] ∧ rwV [1, 1, 2] [4294967296, 4294967296] [1, 3] [1, 2, 3] 1 = [] := by decide +kernel
theorem kn3 : rwE [1, 1] [1] [1, 1, 2] [4294967296, 4294967296] 1 = 4 ∧ rwD [1, 1] [1] [1, 1, 2] [4294967296, 4294967296] 1 = [] ∧ rwV [1, 1] [1] [1, 1, 2] [4294967296, 4294967296] 1 = [] := by decide +kernel
theorem kn4 : biE [1, 2] [5, 7] [1, 1, 2] [4294967296, 4294967296] 1 3 = 0 ∧ biD [1, 2] [5, 7] [1, 1, 2] [4294967296, 4294967296] 1 3 = [1, 3] ∧ biV [1, 2] [5, 7] [1, 1, 2] [4294967296, 4294967296] 1 3 = [5, 12, 7] := by decide +kernel
theorem kn5 : bkE [1, 2] [21474836480, 30064771072] [1, 3] [1, 2, 3] 1 2 = 0 ∧ bkD [1, 2] [21474836480, 30064771072] [1, 3] [1, 2, 3] 1 2 = [1, 1, 2] ∧ bkV [1, 2] [21474836480, 30064771072] [1, 3] [1, 2, 3] 1 2 = [19, 31] := by decide +kernel
theorem kn6 : biE [1, 2] [5, 7] [1, 1, 2] [4294967296, 4294967296] 1 4 = 4 ∧ biD [1, 2] [5, 7] [1, 1, 2] [4294967296, 4294967296] 1 4 = [] ∧ biV [1, 2] [5, 7] [1, 1, 2] [4294967296, 4294967296] 1 4 = [] := by decide +kernel
theorem kn7 : plE [1, 5] [3, 9, 9, 1, 5] 2 = 0 ∧ plD [1, 5] [3, 9, 9, 1, 5] 2 = [1, 2] ∧ plV [1, 5] [3, 9, 9, 1, 5] 2 = [9, 9] ∧ plP [1, 5] [3, 9, 9, 1, 5] 2 = [1, 2] := by decide +kernel
theorem kn8 : plE [1, 3] [1, 2, 3] 4 = 1 ∧ plD [1, 3] [1, 2, 3] 4 = [] ∧ plV [1, 3] [1, 2, 3] 4 = [] ∧ plP [1, 3] [1, 2, 3] 4 = [] := by decide +kernel
theorem kn9 : plE [1, 1, 2] [4294967296, 4294967296] 1 = 4 ∧ plD [1, 1, 2] [4294967296, 4294967296] 1 = [] ∧ plV [1, 1, 2] [4294967296, 4294967296] 1 = [] ∧ plP [1, 1, 2] [4294967296, 4294967296] 1 = [] := by decide +kernel
set_option maxRecDepth 10000 in
set_option maxHeartbeats 32000000 in
theorem cknown_walk (w : World) (hT : Hid (Tz w)) :
    Calls Tryd.prog 3 #[] w fun e w' => e = .returned (.bool true) ∧ Below w.heap.size w w' := by
  have HR : Hid (RI [1, 3] ∧ RI [1, 2, 3] ∧ RI [1, 1, 2] ∧ RI [4294967296, 4294967296]) := ⟨RI_kern (by decide +kernel), RI_kern (by decide +kernel), RI_kern (by decide +kernel), RI_kern (by decide +kernel)⟩
  haveI : Nonempty World := ⟨w⟩
  go_enter Tryd.func3, Tryd.ntmps3
  go_wp2_with fail
  have HB_w : Hid (Below w.heap.size w w) := Below.refl _ _
  refine (awake8_any w (hT)).mono ?_
  rintro e wa ⟨rfl, hBa⟩
  have HB_wa : Hid (Below w.heap.size w wa) := bstep HB_w.out hBa
  clear hBa
  go_wp2_with fail
  generalize hK1 : World.alloc _ _ = K1
  have hL1 : Below wa.heap.size wa K1 := by rw [← hK1]; exact up_alloc wa _
  have l1 : LitN [1, 2, 3] (.slice (some ⟨wa.heap.size, 0, none⟩) 3 3) K1 := ⟨_, rfl, by rw [← hK1]; exact nums_lit (k := .i64) wa [1, 2, 3] 3 (0, 0) rfl⟩
  have HB_K1 : Hid (Below w.heap.size w K1) := bstep HB_wa.out hL1
  refine (rows_lit 1 3 _ _ (by omega) (by simp) rfl K1 l1).mono ?_
  rintro e w1 ⟨v1, rfl, ⟨ps1, ns1, cs1, pt1, nt1, ct1, rfl, hs1, ht1, hk1⟩, hB1⟩
  have HB_w1 : Hid (Below w.heap.size w w1) := bstep HB_K1.out hB1
  have T1_v0 : Hid (TnC [1, 3] [1, 2, 3] (.agg #[.slice ps1 ns1 cs1, .slice pt1 nt1 ct1]) w1) := ⟨_, _, _, _, _, _, rfl, hs1, ht1, hk1⟩
  clear hB1 hs1 ht1 hk1 hK1 hL1 l1 
  go_wp2_with fail
  generalize hK2 : World.alloc _ _ = K2
  have hL2 : Below w1.heap.size w1 K2 := by rw [← hK2]; exact up_alloc w1 _
  have l2 : LitN [4294967296, 4294967296] (.slice (some ⟨w1.heap.size, 0, none⟩) 2 2) K2 := ⟨_, rfl, by rw [← hK2]; exact nums_lit (k := .i64) w1 [4294967296, 4294967296] 2 (0, 0) rfl⟩
  have HB_K2 : Hid (Below w.heap.size w K2) := bstep HB_w1.out hL2
  have T1_v1 : Hid (TnC [1, 3] [1, 2, 3] (.agg #[.slice ps1 ns1 cs1, .slice pt1 nt1 ct1]) K2) := T1_v0.out.up hL2
  clear T1_v0
  refine (windows_lit 1 1 2 _ _ (by omega) (by omega) (by simp) rfl K2 l2).mono ?_
  rintro e w2 ⟨v2, rfl, ⟨ps2, ns2, cs2, pt2, nt2, ct2, rfl, hs2, ht2, hk2⟩, hB2⟩
  have HB_w2 : Hid (Below w.heap.size w w2) := bstep HB_K2.out hB2
  have T1_v2 : Hid (TnC [1, 3] [1, 2, 3] (.agg #[.slice ps1 ns1 cs1, .slice pt1 nt1 ct1]) w2) := T1_v1.out.up hB2
  clear T1_v1
  have T2_v2 : Hid (TnC [1, 1, 2] [4294967296, 4294967296] (.agg #[.slice ps2 ns2 cs2, .slice pt2 nt2 ct2]) w2) := ⟨_, _, _, _, _, _, rfl, hs2, ht2, hk2⟩
  clear hB2 hs2 ht2 hk2 hK2 hL2 l2 
  go_wp2_with fail
  generalize hW2 : World.alloc _ _ = W2
  have hM2 : Below w2.heap.size w2 W2 := by rw [← hW2]; exact bstep (up_alloc w2 _) (up_alloc _ _)
  have HB_W2 : Hid (Below w.heap.size w W2) := bstep HB_w2.out hM2
  have T1_v3 : Hid (TnC [1, 3] [1, 2, 3] (.agg #[.slice ps1 ns1 cs1, .slice pt1 nt1 ct1]) W2) := T1_v2.out.up hM2
  have T2_v3 : Hid (TnC [1, 1, 2] [4294967296, 4294967296] (.agg #[.slice ps2 ns2 cs2, .slice pt2 nt2 ct2]) W2) := T2_v2.out.up hM2
  clear T1_v2 T2_v2
  have X1_v3 : Hid (Cel W2 w2.heap.size (.slice ps1 ns1 cs1) (.slice pt1 nt1 ct1)) := by show Cel _ _ _ _; unfold Cel; rw [← hW2]; simp [go_sem]
  have X2_v3 : Hid (Cel W2 (w2.heap.size + 1) (.slice ps2 ns2 cs2) (.slice pt2 nt2 ct2)) := by show Cel _ _ _ _; unfold Cel; rw [← hW2]; simp [go_sem]
  clear hW2 hM2
  have cm := row_tn 0 T1_v3.out.tn T2_v3.out.tn HR.out.1 HR.out.2.1 HR.out.2.2.1 HR.out.2.2.2 (Hid.up_tz hT HB_W2.out)
  rw [kn1.1, kn1.2.1, kn1.2.2] at cm
  refine (cm).mono ?_
  rintro e w3 ⟨v3, rfl, ⟨s3, t3, rfl, hs3, ht3⟩, hB3⟩
  obtain ⟨ps3, ns3, cs3, rfl, _⟩ := hs3.nums.lst
  obtain ⟨pt3, nt3, ct3, rfl, _⟩ := ht3.nums.lst
  have HB_w3 : Hid (Below w.heap.size w w3) := bstep HB_W2.out hB3
  have T1_v4 : Hid (TnC [1, 3] [1, 2, 3] (.agg #[.slice ps1 ns1 cs1, .slice pt1 nt1 ct1]) w3) := T1_v3.out.up hB3
  have T2_v4 : Hid (TnC [1, 1, 2] [4294967296, 4294967296] (.agg #[.slice ps2 ns2 cs2, .slice pt2 nt2 ct2]) w3) := T2_v3.out.up hB3
  have X1_v4 : Hid (Cel w3 w2.heap.size (.slice ps1 ns1 cs1) (.slice pt1 nt1 ct1)) := X1_v3.out.up hB3
  have X2_v4 : Hid (Cel w3 (w2.heap.size + 1) (.slice ps2 ns2 cs2) (.slice pt2 nt2 ct2)) := X2_v3.out.up hB3
  clear T1_v3 T2_v3 X1_v3 X2_v3
  have T3_v4 : Hid (TnC [] [] (.agg #[.slice ps3 ns3 cs3, .slice pt3 nt3 ct3]) w3) := ⟨_, _, _, _, _, _, rfl, hs3.nums, ht3.nums, ht3.cap⟩
  clear hB3 hs3 ht3 
  obtain ⟨x10, x11, _, _⟩ := X1_v4.out
  have x1z := cell_lt x10
  obtain ⟨x20, x21, _, _⟩ := X2_v4.out
  have x2z := cell_lt x20
  go_wp2_with fail
  generalize hW3 : World.alloc _ _ = W3
  have hC3 : Below w3.heap.size w3 W3 := by rw [← hW3]; exact up_alloc w3 _
  have HB_W3 : Hid (Below w.heap.size w W3) := bstep HB_w3.out hC3
  have T1_v5 : Hid (TnC [1, 3] [1, 2, 3] (.agg #[.slice ps1 ns1 cs1, .slice pt1 nt1 ct1]) W3) := T1_v4.out.up hC3
  have T2_v5 : Hid (TnC [1, 1, 2] [4294967296, 4294967296] (.agg #[.slice ps2 ns2 cs2, .slice pt2 nt2 ct2]) W3) := T2_v4.out.up hC3
  have X1_v5 : Hid (Cel W3 w2.heap.size (.slice ps1 ns1 cs1) (.slice pt1 nt1 ct1)) := X1_v4.out.up hC3
  have X2_v5 : Hid (Cel W3 (w2.heap.size + 1) (.slice ps2 ns2 cs2) (.slice pt2 nt2 ct2)) := X2_v4.out.up hC3
  have T3_v5 : Hid (TnC [] [] (.agg #[.slice ps3 ns3 cs3, .slice pt3 nt3 ct3]) W3) := T3_v4.out.up hC3
  clear T1_v4 T2_v4 X1_v4 X2_v4 T3_v4
  have X3_v5 : Hid (Cel W3 w3.heap.size (.slice ps3 ns3 cs3) (.slice pt3 nt3 ct3)) := by show Cel _ _ _ _; unfold Cel; rw [← hW3]; simp [go_sem]
  clear hW3 hC3 x10 x11 x1z x20 x21 x2z
  clear cm
  have cm := row_tn 1 T2_v5.out.tn T1_v5.out.tn HR.out.2.2.1 HR.out.2.2.2 HR.out.1 HR.out.2.1 (Hid.up_tz hT HB_W3.out)
  rw [kn2.1, kn2.2.1, kn2.2.2] at cm
  obtain ⟨x10, x11, _, _⟩ := X1_v5.out
  have x1z := cell_lt x10
  obtain ⟨x20, x21, _, _⟩ := X2_v5.out
  have x2z := cell_lt x20
  go_wp2_with fail
  refine (cm).mono ?_
  rintro e w4 ⟨v4, rfl, ⟨s4, t4, rfl, hs4, ht4⟩, hB4⟩
  obtain ⟨ps4, ns4, cs4, rfl, _⟩ := hs4.nums.lst
  obtain ⟨pt4, nt4, ct4, rfl, _⟩ := ht4.nums.lst
  have HB_w4 : Hid (Below w.heap.size w w4) := bstep HB_W3.out hB4
  have T1_v6 : Hid (TnC [1, 3] [1, 2, 3] (.agg #[.slice ps1 ns1 cs1, .slice pt1 nt1 ct1]) w4) := T1_v5.out.up hB4
  have T2_v6 : Hid (TnC [1, 1, 2] [4294967296, 4294967296] (.agg #[.slice ps2 ns2 cs2, .slice pt2 nt2 ct2]) w4) := T2_v5.out.up hB4
  have X1_v6 : Hid (Cel w4 w2.heap.size (.slice ps1 ns1 cs1) (.slice pt1 nt1 ct1)) := X1_v5.out.up hB4
  have X2_v6 : Hid (Cel w4 (w2.heap.size + 1) (.slice ps2 ns2 cs2) (.slice pt2 nt2 ct2)) := X2_v5.out.up hB4
  have T3_v6 : Hid (TnC [] [] (.agg #[.slice ps3 ns3 cs3, .slice pt3 nt3 ct3]) w4) := T3_v5.out.up hB4
  have X3_v6 : Hid (Cel w4 w3.heap.size (.slice ps3 ns3 cs3) (.slice pt3 nt3 ct3)) := X3_v5.out.up hB4
  clear T1_v5 T2_v5 X1_v5 X2_v5 T3_v5 X3_v5
  have T4_v6 : Hid (TnC [] [] (.agg #[.slice ps4 ns4 cs4, .slice pt4 nt4 ct4]) w4) := ⟨_, _, _, _, _, _, rfl, hs4.nums, ht4.nums, ht4.cap⟩
  clear hB4 hs4 ht4 x10 x11 x1z x20 x21 x2z
  obtain ⟨x10, x11, _, _⟩ := X1_v6.out
  have x1z := cell_lt x10
  obtain ⟨x20, x21, _, _⟩ := X2_v6.out
  have x2z := cell_lt x20
  go_wp2_with fail
  generalize hW4 : World.alloc _ _ = W4
  have hC4 : Below w4.heap.size w4 W4 := by rw [← hW4]; exact up_alloc w4 _
  have HB_W4 : Hid (Below w.heap.size w W4) := bstep HB_w4.out hC4
  have T1_v7 : Hid (TnC [1, 3] [1, 2, 3] (.agg #[.slice ps1 ns1 cs1, .slice pt1 nt1 ct1]) W4) := T1_v6.out.up hC4
  have T2_v7 : Hid (TnC [1, 1, 2] [4294967296, 4294967296] (.agg #[.slice ps2 ns2 cs2, .slice pt2 nt2 ct2]) W4) := T2_v6.out.up hC4
  have X1_v7 : Hid (Cel W4 w2.heap.size (.slice ps1 ns1 cs1) (.slice pt1 nt1 ct1)) := X1_v6.out.up hC4
  have X2_v7 : Hid (Cel W4 (w2.heap.size + 1) (.slice ps2 ns2 cs2) (.slice pt2 nt2 ct2)) := X2_v6.out.up hC4
  have T3_v7 : Hid (TnC [] [] (.agg #[.slice ps3 ns3 cs3, .slice pt3 nt3 ct3]) W4) := T3_v6.out.up hC4
  have X3_v7 : Hid (Cel W4 w3.heap.size (.slice ps3 ns3 cs3) (.slice pt3 nt3 ct3)) := X3_v6.out.up hC4
  have T4_v7 : Hid (TnC [] [] (.agg #[.slice ps4 ns4 cs4, .slice pt4 nt4 ct4]) W4) := T4_v6.out.up hC4
  clear T1_v6 T2_v6 X1_v6 X2_v6 T3_v6 X3_v6 T4_v6
  have X4_v7 : Hid (Cel W4 w4.heap.size (.slice ps4 ns4 cs4) (.slice pt4 nt4 ct4)) := by show Cel _ _ _ _; unfold Cel; rw [← hW4]; simp [go_sem]
  clear hW4 hC4 x10 x11 x1z x20 x21 x2z
  clear cm
  have HC6 : Hid (∀ B W v, B ≤ W.heap.size → Below W4.heap.size W4 W → TnC [1, 1] [1] v W → Calls Tryd.prog 12 #[v, .agg #[.slice ps2 ns2 cs2, .slice pt2 nt2 ct2], .int .i64 1] W fun e w' => ∃ u, e = .returned u ∧ TupP B [] [] 4 u w' ∧ Below W.heap.size W w') := fun B W v hB hW hv => by
    have cm := row_tn 1 hv.tn (T2_v7.out.up hW).tn (RI_kern (by decide +kernel)) (RI_kern (by decide +kernel)) HR.out.2.2.1 HR.out.2.2.2 (Hid.up_tz hT (bstep HB_W4.out hW))
    rw [kn3.1, kn3.2.1, kn3.2.2] at cm
    refine cm.mono ?_
    rintro e w' ⟨u, rfl, h, hb⟩
    exact ⟨_, rfl, ⟨u, rfl, (h.low hB).own⟩, hb⟩
  obtain ⟨x20, x21, _, _⟩ := X2_v7.out
  have x2z := cell_lt x20
  refine relE [⟨0, 43, LitN [1]⟩, ⟨1, 44, TnC [1, 1] [1]⟩, ⟨3, 46, TupP W4.heap.size [] [] 4⟩, ⟨4, 42, TupP W4.heap.size [] [] 4⟩, ⟨5, 47, OwnT W4.heap.size [] []⟩, ⟨7, 7, NewC W4.heap.size⟩] 8 158 (by kernel_rfl) rfl rfl 6 _ rfl (by decide) rfl (by kernel_rfl) (by kernel_rfl) (fun _ _ _ _ h => h) (by rfl) ?_ ?_
  · intro e he v W W' h hb
    simp only [List.mem_cons, List.not_mem_nil, or_false] at he
    rcases he with rfl | rfl | rfl | rfl | rfl | rfl
    · exact LitN.up h hb
    · exact TnC.up h hb
    · exact TupP.up h hb
    · exact TupP.up h hb
    · exact OwnT.up h hb
    · exact NewC.up h hb
  apply Exists.intro
  refine ⟨?yl6, ?wk6, ?pk6, ?rest6⟩
  case wk6 =>
    intro x
    simp only [List.take_succ_cons, List.take_zero]
    refine relTold rfl rfl ?_ ?_
    · intro F hF hf d
      have hFc := hF.cell
      have hFf := hF.frozen
      simp [yieldsR, yieldsUpon, go_sem]
      exact ⟨⟨(F d).heap.size, rfl, nums_lit (k := .i64) (F d) [1] 1 (0, 0) rfl⟩, up_alloc _ _⟩
    (try simp only [Act.put, List.setIfInBounds_toArray, List.set_cons_zero, List.set_cons_succ])
    refine relTold rfl rfl ?_ ?_
    · intro F hF hf d
      have hFc := hF.cell
      have hFf := hF.frozen
      have h9 := hf _ List.mem_cons_self (by rfl) d
      simp [yieldsR, yieldsUpon, go_sem]
      refine (rows_lit 1 1 _ _ (by omega) (by simp) rfl (F d) h9).mono ?_
      rintro e' w8 ⟨v8, rfl, h8, hb8⟩
      exact ⟨_, rfl, h8, hb8⟩
    (try simp only [Act.put, List.setIfInBounds_toArray, List.set_cons_zero, List.set_cons_succ])
    refine relQuiet rfl rfl ?_
    apply Exists.intro
    refine ⟨fun F hF hf K hK => ?_, ?_⟩
    · have hFc := hF.cell
      have hFf := hF.frozen
      go_big_quiet_op
      first | exact hK | (apply Exists.intro; refine ⟨fun _ => ?_, ?_⟩; (· fail); exact hK)
    (try simp only [Act.put, List.setIfInBounds_toArray, List.set_cons_zero, List.set_cons_succ])
    refine relTold rfl rfl ?_ ?_
    · intro F hF hf d
      have hFc := hF.cell
      have hFf := hF.frozen
      have h9 := hf _ (List.mem_cons_of_mem _ List.mem_cons_self) (by rfl) d
      simp [yieldsR, yieldsUpon, go_sem]
      refine (HC6.out W4.heap.size (F d) _ (hF.below d).size (hF.below d) h9).mono ?_
      rintro e' w8 ⟨v8, rfl, h8, hb8⟩
      exact ⟨_, rfl, h8, hb8⟩
    (try simp only [Act.put, List.setIfInBounds_toArray, List.set_cons_zero, List.set_cons_succ])
    refine relTold rfl rfl ?_ ?_
    · intro F hF hf d
      have hFc := hF.cell
      have hFf := hF.frozen
      have h9 := hf _ (List.mem_cons_of_mem _ (List.mem_cons_of_mem _ List.mem_cons_self)) (by rfl) d
      simp [yieldsR, yieldsUpon, go_sem]
      exact ⟨h9, Below.refl _ _⟩
    (try simp only [Act.put, List.setIfInBounds_toArray, List.set_cons_zero, List.set_cons_succ])
    refine relTold rfl rfl ?_ ?_
    · intro F hF hf d
      have hFc := hF.cell
      have hFf := hF.frozen
      have h9 := hf _ (List.mem_cons_of_mem _ (List.mem_cons_of_mem _ (List.mem_cons_of_mem _ List.mem_cons_self))) (by rfl) d
      obtain ⟨u9, e9, n9⟩ := h9
      simp only [] at e9 n9
      simp [yieldsR, yieldsUpon, go_sem, e9]
      exact ⟨n9, Below.refl _ _⟩
    (try simp only [Act.put, List.setIfInBounds_toArray, List.set_cons_zero, List.set_cons_succ])
    refine relQuiet rfl rfl ?_
    apply Exists.intro
    refine ⟨fun F hF hf K hK => ?_, ?_⟩
    · have hFc := hF.cell
      have hFf := hF.frozen
      have h9 := hf _ (List.mem_cons_of_mem _ (List.mem_cons_of_mem _ (List.mem_cons_of_mem _ List.mem_cons_self))) (by rfl)
      obtain ⟨u9, e9, _⟩ := h9 w
      simp only [] at e9
      go_big_quiet_op
      first | exact hK | (apply Exists.intro; refine ⟨fun _ => ?_, ?_⟩; (· fail); exact hK)
    (try simp only [Act.put, List.setIfInBounds_toArray, List.set_cons_zero, List.set_cons_succ])
    refine relTold rfl rfl ?_ ?_
    · intro F hF hf d
      have hFc := hF.cell
      have hFf := hF.frozen
      simp [yieldsR, yieldsUpon, go_sem]
      exact ⟨⟨(F d).heap.size, rfl, by show ((F d).heap.push _)[(F d).heap.size]? = _; simp, (hF.below d).size⟩, up_alloc _ _⟩
    (try simp only [Act.put, List.setIfInBounds_toArray, List.set_cons_zero, List.set_cons_succ])
    refine relEnd ?_
    exact rfl
  case pk6 =>
    intro x
    simp only [putsK, List.foldl_cons, List.foldl_nil, Act.put, List.setIfInBounds_toArray, List.set_cons_zero, List.set_cons_succ]
  case yl6 =>
    intro x hx
    obtain ⟨W9, u9, e9, _⟩ := hx _ (List.mem_cons_of_mem _ (List.mem_cons_of_mem _ (List.mem_cons_of_mem _ List.mem_cons_self))) (by rfl)
    simp only [] at e9
    refine ⟨.int .i64 4, fun t ht => ?_, .inl ⟨by rfl, fun w => ?_⟩⟩
    · cases ht
      rfl
    · simp [execOp, Act.eval, e9, go_sem]
  intro z6 xs hBz hf
  simp only [List.drop_succ_cons, List.drop_zero]
  have hT1 := hf _ (List.mem_cons_of_mem _ (List.mem_cons_of_mem _ (List.mem_cons_of_mem _ (List.mem_cons_of_mem _ List.mem_cons_self))))
  have hN := hf _ (List.mem_cons_of_mem _ (List.mem_cons_of_mem _ (List.mem_cons_of_mem _ (List.mem_cons_of_mem _ (List.mem_cons_of_mem _ List.mem_cons_self)))))
  obtain ⟨ps6, ns6, cs6, pt6, nt6, ct6, ev, o1, o2⟩ := hT1
  obtain ⟨g6, eb, hb1, hb2⟩ := hN
  simp only [] at ev eb
  obtain ⟨x0, e0⟩ : ∃ q, xs 0 = q := ⟨_, rfl⟩
  obtain ⟨x1, e1⟩ : ∃ q, xs 1 = q := ⟨_, rfl⟩
  obtain ⟨x3, e3⟩ : ∃ q, xs 3 = q := ⟨_, rfl⟩
  obtain ⟨x4, e4⟩ : ∃ q, xs 4 = q := ⟨_, rfl⟩
  simp only [ev, eb, e0, e1, e3, e4]
  have cbl := new_cel hb1
  have f1 := o1.off_type hb1 (by decide)
  have f2 := o2.off_type hb1 (by decide)
  obtain ⟨c0_, c1_, c2_, c3_⟩ := cbl
  clear x20 x21 x2z
  go_wp2_with fail
  refine name_world (fun Z6 hZ => ?_)
  have hS : Below W4.heap.size W4 Z6 := by rw [hZ]; exact below_set2 hBz g6 hb2 _ _
  have HB_Z6 : Hid (Below w.heap.size w Z6) := bstep HB_W4.out hS
  have T1_v8 : Hid (TnC [1, 3] [1, 2, 3] (.agg #[.slice ps1 ns1 cs1, .slice pt1 nt1 ct1]) Z6) := T1_v7.out.up hS
  have T2_v8 : Hid (TnC [1, 1, 2] [4294967296, 4294967296] (.agg #[.slice ps2 ns2 cs2, .slice pt2 nt2 ct2]) Z6) := T2_v7.out.up hS
  have X1_v8 : Hid (Cel Z6 w2.heap.size (.slice ps1 ns1 cs1) (.slice pt1 nt1 ct1)) := X1_v7.out.up hS
  have X2_v8 : Hid (Cel Z6 (w2.heap.size + 1) (.slice ps2 ns2 cs2) (.slice pt2 nt2 ct2)) := X2_v7.out.up hS
  have T3_v8 : Hid (TnC [] [] (.agg #[.slice ps3 ns3 cs3, .slice pt3 nt3 ct3]) Z6) := T3_v7.out.up hS
  have X3_v8 : Hid (Cel Z6 w3.heap.size (.slice ps3 ns3 cs3) (.slice pt3 nt3 ct3)) := X3_v7.out.up hS
  have T4_v8 : Hid (TnC [] [] (.agg #[.slice ps4 ns4 cs4, .slice pt4 nt4 ct4]) Z6) := T4_v7.out.up hS
  have X4_v8 : Hid (Cel Z6 w4.heap.size (.slice ps4 ns4 cs4) (.slice pt4 nt4 ct4)) := X4_v7.out.up hS
  clear T1_v7 T2_v7 X1_v7 X2_v7 T3_v7 X3_v7 T4_v7 X4_v7
  clear hZ hS o1 o2 f1 f2 hb1 hb2 hBz hf c0_ c1_ c2_ c3_ ev eb e0 e1 e3 e4 HC6
  have HC7 : Hid (∀ B W v, B ≤ W.heap.size → Below Z6.heap.size Z6 W → TnC [1, 2] [5, 7] v W → Calls Tryd.prog 13 #[v, .agg #[.slice ps2 ns2 cs2, .slice pt2 nt2 ct2], .int .i64 1, .int .i64 3] W fun e w' => ∃ u, e = .returned u ∧ TupP B [1, 3] [5, 12, 7] 0 u w' ∧ Below W.heap.size W w') := fun B W v hB hW hv => by
    have cm := in_tn 1 3 hv.tn (T2_v8.out.up hW).tn (RI_kern (by decide +kernel)) (RI_kern (by decide +kernel)) HR.out.2.2.1 HR.out.2.2.2 (Hid.up_tz hT (bstep HB_Z6.out hW))
    rw [kn4.1, kn4.2.1, kn4.2.2] at cm
    refine cm.mono ?_
    rintro e w' ⟨u, rfl, h, hb⟩
    exact ⟨_, rfl, ⟨u, rfl, (h.low hB).own⟩, hb⟩
  obtain ⟨x20, x21, _, _⟩ := X2_v8.out
  have x2z := cell_lt x20
  refine relE [⟨0, 50, LitN [5, 7]⟩, ⟨1, 51, TnC [1, 2] [5, 7]⟩, ⟨3, 53, TupP Z6.heap.size [1, 3] [5, 12, 7] 0⟩, ⟨4, 49, TupP Z6.heap.size [1, 3] [5, 12, 7] 0⟩, ⟨5, 54, OwnT Z6.heap.size [1, 3] [5, 12, 7]⟩, ⟨7, 9, NewC Z6.heap.size⟩] 8 158 (by kernel_rfl) rfl rfl 6 _ rfl (by decide) rfl (by kernel_rfl) (by kernel_rfl) (fun _ _ _ _ h => h) (by rfl) ?_ ?_
  · intro e he v W W' h hb
    simp only [List.mem_cons, List.not_mem_nil, or_false] at he
    rcases he with rfl | rfl | rfl | rfl | rfl | rfl
    · exact LitN.up h hb
    · exact TnC.up h hb
    · exact TupP.up h hb
    · exact TupP.up h hb
    · exact OwnT.up h hb
    · exact NewC.up h hb
  apply Exists.intro
  refine ⟨?yl7, ?wk7, ?pk7, ?rest7⟩
  case wk7 =>
    intro x
    simp only [List.take_succ_cons, List.take_zero]
    refine relTold rfl rfl ?_ ?_
    · intro F hF hf d
      have hFc := hF.cell
      have hFf := hF.frozen
      simp [yieldsR, yieldsUpon, go_sem]
      exact ⟨⟨(F d).heap.size, rfl, nums_lit (k := .i64) (F d) [5, 7] 2 (0, 0) rfl⟩, up_alloc _ _⟩
    (try simp only [Act.put, List.setIfInBounds_toArray, List.set_cons_zero, List.set_cons_succ])
    refine relTold rfl rfl ?_ ?_
    · intro F hF hf d
      have hFc := hF.cell
      have hFf := hF.frozen
      have h9 := hf _ List.mem_cons_self (by rfl) d
      simp [yieldsR, yieldsUpon, go_sem]
      refine (rows_lit 1 2 _ _ (by omega) (by simp) rfl (F d) h9).mono ?_
      rintro e' w8 ⟨v8, rfl, h8, hb8⟩
      exact ⟨_, rfl, h8, hb8⟩
    (try simp only [Act.put, List.setIfInBounds_toArray, List.set_cons_zero, List.set_cons_succ])
    refine relQuiet rfl rfl ?_
    apply Exists.intro
    refine ⟨fun F hF hf K hK => ?_, ?_⟩
    · have hFc := hF.cell
      have hFf := hF.frozen
      go_big_quiet_op
      first | exact hK | (apply Exists.intro; refine ⟨fun _ => ?_, ?_⟩; (· fail); exact hK)
    (try simp only [Act.put, List.setIfInBounds_toArray, List.set_cons_zero, List.set_cons_succ])
    refine relTold rfl rfl ?_ ?_
    · intro F hF hf d
      have hFc := hF.cell
      have hFf := hF.frozen
      have h9 := hf _ (List.mem_cons_of_mem _ List.mem_cons_self) (by rfl) d
      simp [yieldsR, yieldsUpon, go_sem]
      refine (HC7.out Z6.heap.size (F d) _ (hF.below d).size (hF.below d) h9).mono ?_
      rintro e' w8 ⟨v8, rfl, h8, hb8⟩
      exact ⟨_, rfl, h8, hb8⟩
    (try simp only [Act.put, List.setIfInBounds_toArray, List.set_cons_zero, List.set_cons_succ])
    refine relTold rfl rfl ?_ ?_
    · intro F hF hf d
      have hFc := hF.cell
      have hFf := hF.frozen
      have h9 := hf _ (List.mem_cons_of_mem _ (List.mem_cons_of_mem _ List.mem_cons_self)) (by rfl) d
      simp [yieldsR, yieldsUpon, go_sem]
      exact ⟨h9, Below.refl _ _⟩
    (try simp only [Act.put, List.setIfInBounds_toArray, List.set_cons_zero, List.set_cons_succ])
    refine relTold rfl rfl ?_ ?_
    · intro F hF hf d
      have hFc := hF.cell
      have hFf := hF.frozen
      have h9 := hf _ (List.mem_cons_of_mem _ (List.mem_cons_of_mem _ (List.mem_cons_of_mem _ List.mem_cons_self))) (by rfl) d
      obtain ⟨u9, e9, n9⟩ := h9
      simp only [] at e9 n9
      simp [yieldsR, yieldsUpon, go_sem, e9]
      exact ⟨n9, Below.refl _ _⟩
    (try simp only [Act.put, List.setIfInBounds_toArray, List.set_cons_zero, List.set_cons_succ])
    refine relQuiet rfl rfl ?_
    apply Exists.intro
    refine ⟨fun F hF hf K hK => ?_, ?_⟩
    · have hFc := hF.cell
      have hFf := hF.frozen
      have h9 := hf _ (List.mem_cons_of_mem _ (List.mem_cons_of_mem _ (List.mem_cons_of_mem _ List.mem_cons_self))) (by rfl)
      obtain ⟨u9, e9, _⟩ := h9 w
      simp only [] at e9
      go_big_quiet_op
      first | exact hK | (apply Exists.intro; refine ⟨fun _ => ?_, ?_⟩; (· fail); exact hK)
    (try simp only [Act.put, List.setIfInBounds_toArray, List.set_cons_zero, List.set_cons_succ])
    refine relTold rfl rfl ?_ ?_
    · intro F hF hf d
      have hFc := hF.cell
      have hFf := hF.frozen
      simp [yieldsR, yieldsUpon, go_sem]
      exact ⟨⟨(F d).heap.size, rfl, by show ((F d).heap.push _)[(F d).heap.size]? = _; simp, (hF.below d).size⟩, up_alloc _ _⟩
    (try simp only [Act.put, List.setIfInBounds_toArray, List.set_cons_zero, List.set_cons_succ])
    refine relEnd ?_
    exact rfl
  case pk7 =>
    intro x
    simp only [putsK, List.foldl_cons, List.foldl_nil, Act.put, List.setIfInBounds_toArray, List.set_cons_zero, List.set_cons_succ]
  case yl7 =>
    intro x hx
    obtain ⟨W9, u9, e9, _⟩ := hx _ (List.mem_cons_of_mem _ (List.mem_cons_of_mem _ (List.mem_cons_of_mem _ List.mem_cons_self))) (by rfl)
    simp only [] at e9
    refine ⟨.int .i64 0, fun t ht => ?_, .inl ⟨by rfl, fun w => ?_⟩⟩
    · cases ht
      rfl
    · simp [execOp, Act.eval, e9, go_sem]
  intro z7 xs hBz hf
  simp only [List.drop_succ_cons, List.drop_zero]
  have hT1 := hf _ (List.mem_cons_of_mem _ (List.mem_cons_of_mem _ (List.mem_cons_of_mem _ (List.mem_cons_of_mem _ List.mem_cons_self))))
  have hN := hf _ (List.mem_cons_of_mem _ (List.mem_cons_of_mem _ (List.mem_cons_of_mem _ (List.mem_cons_of_mem _ (List.mem_cons_of_mem _ List.mem_cons_self)))))
  obtain ⟨ps7, ns7, cs7, pt7, nt7, ct7, ev, o1, o2⟩ := hT1
  obtain ⟨g7, eb, hb1, hb2⟩ := hN
  simp only [] at ev eb
  obtain ⟨x0, e0⟩ : ∃ q, xs 0 = q := ⟨_, rfl⟩
  obtain ⟨x1, e1⟩ : ∃ q, xs 1 = q := ⟨_, rfl⟩
  obtain ⟨x3, e3⟩ : ∃ q, xs 3 = q := ⟨_, rfl⟩
  obtain ⟨x4, e4⟩ : ∃ q, xs 4 = q := ⟨_, rfl⟩
  simp only [ev, eb, e0, e1, e3, e4]
  have cbl := new_cel hb1
  have f1 := o1.off_type hb1 (by decide)
  have f2 := o2.off_type hb1 (by decide)
  obtain ⟨c0_, c1_, c2_, c3_⟩ := cbl
  clear x20 x21 x2z
  go_wp2_with fail
  refine name_world (fun Z7 hZ => ?_)
  have hS : Below Z6.heap.size Z6 Z7 := by rw [hZ]; exact below_set2 hBz g7 hb2 _ _
  have HB_Z7 : Hid (Below w.heap.size w Z7) := bstep HB_Z6.out hS
  have T1_v9 : Hid (TnC [1, 3] [1, 2, 3] (.agg #[.slice ps1 ns1 cs1, .slice pt1 nt1 ct1]) Z7) := T1_v8.out.up hS
  have T2_v9 : Hid (TnC [1, 1, 2] [4294967296, 4294967296] (.agg #[.slice ps2 ns2 cs2, .slice pt2 nt2 ct2]) Z7) := T2_v8.out.up hS
  have X1_v9 : Hid (Cel Z7 w2.heap.size (.slice ps1 ns1 cs1) (.slice pt1 nt1 ct1)) := X1_v8.out.up hS
  have X2_v9 : Hid (Cel Z7 (w2.heap.size + 1) (.slice ps2 ns2 cs2) (.slice pt2 nt2 ct2)) := X2_v8.out.up hS
  have T3_v9 : Hid (TnC [] [] (.agg #[.slice ps3 ns3 cs3, .slice pt3 nt3 ct3]) Z7) := T3_v8.out.up hS
  have X3_v9 : Hid (Cel Z7 w3.heap.size (.slice ps3 ns3 cs3) (.slice pt3 nt3 ct3)) := X3_v8.out.up hS
  have T4_v9 : Hid (TnC [] [] (.agg #[.slice ps4 ns4 cs4, .slice pt4 nt4 ct4]) Z7) := T4_v8.out.up hS
  have X4_v9 : Hid (Cel Z7 w4.heap.size (.slice ps4 ns4 cs4) (.slice pt4 nt4 ct4)) := X4_v8.out.up hS
  clear T1_v8 T2_v8 X1_v8 X2_v8 T3_v8 X3_v8 T4_v8 X4_v8
  have T7_v9 : Hid (TnC [1, 3] [5, 12, 7] (.agg #[.slice ps7 ns7 cs7, .slice pt7 nt7 ct7]) Z7) := by show TnC _ _ _ _; rw [hZ]; exact ⟨_, _, _, _, _, _, rfl, (o1.stay (Stay.set2 _ _ _) f1).nums, (o2.stay (Stay.set2 _ _ _) f2).nums, o2.cap⟩
  have X7_v9 : Hid (Cel Z7 g7 (.slice ps7 ns7 cs7) (.slice pt7 nt7 ct7)) := by show Cel _ _ _ _; rw [hZ]; exact (new_cel hb1).set _ _
  clear hZ hS o1 o2 f1 f2 hb1 hb2 hBz hf c0_ c1_ c2_ c3_ ev eb e0 e1 e3 e4 HC7
  have HC8 : Hid (∀ B W v, B ≤ W.heap.size → Below Z7.heap.size Z7 W → TnC [1, 2] [21474836480, 30064771072] v W → Calls Tryd.prog 14 #[v, .agg #[.slice ps1 ns1 cs1, .slice pt1 nt1 ct1], .int .i64 1, .int .i64 2] W fun e w' => ∃ u, e = .returned u ∧ TupP B [1, 1, 2] [19, 31] 0 u w' ∧ Below W.heap.size W w') := fun B W v hB hW hv => by
    have cm := ker_tn 1 2 hv.tn (T1_v9.out.up hW).tn (RI_kern (by decide +kernel)) (RI_kern (by decide +kernel)) HR.out.1 HR.out.2.1 (Hid.up_tz hT (bstep HB_Z7.out hW))
    rw [kn5.1, kn5.2.1, kn5.2.2] at cm
    refine cm.mono ?_
    rintro e w' ⟨u, rfl, h, hb⟩
    exact ⟨_, rfl, ⟨u, rfl, (h.low hB).own⟩, hb⟩
  obtain ⟨x10, x11, _, _⟩ := X1_v9.out
  have x1z := cell_lt x10
  refine relE [⟨0, 57, LitN [21474836480, 30064771072]⟩, ⟨1, 58, TnC [1, 2] [21474836480, 30064771072]⟩, ⟨3, 60, TupP Z7.heap.size [1, 1, 2] [19, 31] 0⟩, ⟨4, 56, TupP Z7.heap.size [1, 1, 2] [19, 31] 0⟩, ⟨5, 61, OwnT Z7.heap.size [1, 1, 2] [19, 31]⟩, ⟨7, 11, NewC Z7.heap.size⟩] 8 158 (by kernel_rfl) rfl rfl 6 _ rfl (by decide) rfl (by kernel_rfl) (by kernel_rfl) (fun _ _ _ _ h => h) (by rfl) ?_ ?_
  · intro e he v W W' h hb
    simp only [List.mem_cons, List.not_mem_nil, or_false] at he
    rcases he with rfl | rfl | rfl | rfl | rfl | rfl
    · exact LitN.up h hb
    · exact TnC.up h hb
    · exact TupP.up h hb
    · exact TupP.up h hb
    · exact OwnT.up h hb
    · exact NewC.up h hb
  apply Exists.intro
  refine ⟨?yl8, ?wk8, ?pk8, ?rest8⟩
  case wk8 =>
    intro x
    simp only [List.take_succ_cons, List.take_zero]
    refine relTold rfl rfl ?_ ?_
    · intro F hF hf d
      have hFc := hF.cell
      have hFf := hF.frozen
      simp [yieldsR, yieldsUpon, go_sem]
      exact ⟨⟨(F d).heap.size, rfl, nums_lit (k := .i64) (F d) [21474836480, 30064771072] 2 (0, 0) rfl⟩, up_alloc _ _⟩
    (try simp only [Act.put, List.setIfInBounds_toArray, List.set_cons_zero, List.set_cons_succ])
    refine relTold rfl rfl ?_ ?_
    · intro F hF hf d
      have hFc := hF.cell
      have hFf := hF.frozen
      have h9 := hf _ List.mem_cons_self (by rfl) d
      simp [yieldsR, yieldsUpon, go_sem]
      refine (rows_lit 1 2 _ _ (by omega) (by simp) rfl (F d) h9).mono ?_
      rintro e' w8 ⟨v8, rfl, h8, hb8⟩
      exact ⟨_, rfl, h8, hb8⟩
    (try simp only [Act.put, List.setIfInBounds_toArray, List.set_cons_zero, List.set_cons_succ])
    refine relQuiet rfl rfl ?_
    apply Exists.intro
    refine ⟨fun F hF hf K hK => ?_, ?_⟩
    · have hFc := hF.cell
      have hFf := hF.frozen
      go_big_quiet_op
      first | exact hK | (apply Exists.intro; refine ⟨fun _ => ?_, ?_⟩; (· fail); exact hK)
    (try simp only [Act.put, List.setIfInBounds_toArray, List.set_cons_zero, List.set_cons_succ])
    refine relTold rfl rfl ?_ ?_
    · intro F hF hf d
      have hFc := hF.cell
      have hFf := hF.frozen
      have h9 := hf _ (List.mem_cons_of_mem _ List.mem_cons_self) (by rfl) d
      simp [yieldsR, yieldsUpon, go_sem]
      refine (HC8.out Z7.heap.size (F d) _ (hF.below d).size (hF.below d) h9).mono ?_
      rintro e' w8 ⟨v8, rfl, h8, hb8⟩
      exact ⟨_, rfl, h8, hb8⟩
    (try simp only [Act.put, List.setIfInBounds_toArray, List.set_cons_zero, List.set_cons_succ])
    refine relTold rfl rfl ?_ ?_
    · intro F hF hf d
      have hFc := hF.cell
      have hFf := hF.frozen
      have h9 := hf _ (List.mem_cons_of_mem _ (List.mem_cons_of_mem _ List.mem_cons_self)) (by rfl) d
      simp [yieldsR, yieldsUpon, go_sem]
      exact ⟨h9, Below.refl _ _⟩
    (try simp only [Act.put, List.setIfInBounds_toArray, List.set_cons_zero, List.set_cons_succ])
    refine relTold rfl rfl ?_ ?_
    · intro F hF hf d
      have hFc := hF.cell
      have hFf := hF.frozen
      have h9 := hf _ (List.mem_cons_of_mem _ (List.mem_cons_of_mem _ (List.mem_cons_of_mem _ List.mem_cons_self))) (by rfl) d
      obtain ⟨u9, e9, n9⟩ := h9
      simp only [] at e9 n9
      simp [yieldsR, yieldsUpon, go_sem, e9]
      exact ⟨n9, Below.refl _ _⟩
    (try simp only [Act.put, List.setIfInBounds_toArray, List.set_cons_zero, List.set_cons_succ])
    refine relQuiet rfl rfl ?_
    apply Exists.intro
    refine ⟨fun F hF hf K hK => ?_, ?_⟩
    · have hFc := hF.cell
      have hFf := hF.frozen
      have h9 := hf _ (List.mem_cons_of_mem _ (List.mem_cons_of_mem _ (List.mem_cons_of_mem _ List.mem_cons_self))) (by rfl)
      obtain ⟨u9, e9, _⟩ := h9 w
      simp only [] at e9
      go_big_quiet_op
      first | exact hK | (apply Exists.intro; refine ⟨fun _ => ?_, ?_⟩; (· fail); exact hK)
    (try simp only [Act.put, List.setIfInBounds_toArray, List.set_cons_zero, List.set_cons_succ])
    refine relTold rfl rfl ?_ ?_
    · intro F hF hf d
      have hFc := hF.cell
      have hFf := hF.frozen
      simp [yieldsR, yieldsUpon, go_sem]
      exact ⟨⟨(F d).heap.size, rfl, by show ((F d).heap.push _)[(F d).heap.size]? = _; simp, (hF.below d).size⟩, up_alloc _ _⟩
    (try simp only [Act.put, List.setIfInBounds_toArray, List.set_cons_zero, List.set_cons_succ])
    refine relEnd ?_
    exact rfl
  case pk8 =>
    intro x
    simp only [putsK, List.foldl_cons, List.foldl_nil, Act.put, List.setIfInBounds_toArray, List.set_cons_zero, List.set_cons_succ]
  case yl8 =>
    intro x hx
    obtain ⟨W9, u9, e9, _⟩ := hx _ (List.mem_cons_of_mem _ (List.mem_cons_of_mem _ (List.mem_cons_of_mem _ List.mem_cons_self))) (by rfl)
    simp only [] at e9
    refine ⟨.int .i64 0, fun t ht => ?_, .inl ⟨by rfl, fun w => ?_⟩⟩
    · cases ht
      rfl
    · simp [execOp, Act.eval, e9, go_sem]
  intro z8 xs hBz hf
  simp only [List.drop_succ_cons, List.drop_zero]
  have hT1 := hf _ (List.mem_cons_of_mem _ (List.mem_cons_of_mem _ (List.mem_cons_of_mem _ (List.mem_cons_of_mem _ List.mem_cons_self))))
  have hN := hf _ (List.mem_cons_of_mem _ (List.mem_cons_of_mem _ (List.mem_cons_of_mem _ (List.mem_cons_of_mem _ (List.mem_cons_of_mem _ List.mem_cons_self)))))
  obtain ⟨ps8, ns8, cs8, pt8, nt8, ct8, ev, o1, o2⟩ := hT1
  obtain ⟨g8, eb, hb1, hb2⟩ := hN
  simp only [] at ev eb
  obtain ⟨x0, e0⟩ : ∃ q, xs 0 = q := ⟨_, rfl⟩
  obtain ⟨x1, e1⟩ : ∃ q, xs 1 = q := ⟨_, rfl⟩
  obtain ⟨x3, e3⟩ : ∃ q, xs 3 = q := ⟨_, rfl⟩
  obtain ⟨x4, e4⟩ : ∃ q, xs 4 = q := ⟨_, rfl⟩
  simp only [ev, eb, e0, e1, e3, e4]
  have cbl := new_cel hb1
  have f1 := o1.off_type hb1 (by decide)
  have f2 := o2.off_type hb1 (by decide)
  obtain ⟨c0_, c1_, c2_, c3_⟩ := cbl
  clear x10 x11 x1z
  go_wp2_with fail
  refine name_world (fun Z8 hZ => ?_)
  have hS : Below Z7.heap.size Z7 Z8 := by rw [hZ]; exact below_set2 hBz g8 hb2 _ _
  have HB_Z8 : Hid (Below w.heap.size w Z8) := bstep HB_Z7.out hS
  have T1_v10 : Hid (TnC [1, 3] [1, 2, 3] (.agg #[.slice ps1 ns1 cs1, .slice pt1 nt1 ct1]) Z8) := T1_v9.out.up hS
  have T2_v10 : Hid (TnC [1, 1, 2] [4294967296, 4294967296] (.agg #[.slice ps2 ns2 cs2, .slice pt2 nt2 ct2]) Z8) := T2_v9.out.up hS
  have X1_v10 : Hid (Cel Z8 w2.heap.size (.slice ps1 ns1 cs1) (.slice pt1 nt1 ct1)) := X1_v9.out.up hS
  have X2_v10 : Hid (Cel Z8 (w2.heap.size + 1) (.slice ps2 ns2 cs2) (.slice pt2 nt2 ct2)) := X2_v9.out.up hS
  have T3_v10 : Hid (TnC [] [] (.agg #[.slice ps3 ns3 cs3, .slice pt3 nt3 ct3]) Z8) := T3_v9.out.up hS
  have X3_v10 : Hid (Cel Z8 w3.heap.size (.slice ps3 ns3 cs3) (.slice pt3 nt3 ct3)) := X3_v9.out.up hS
  have T4_v10 : Hid (TnC [] [] (.agg #[.slice ps4 ns4 cs4, .slice pt4 nt4 ct4]) Z8) := T4_v9.out.up hS
  have X4_v10 : Hid (Cel Z8 w4.heap.size (.slice ps4 ns4 cs4) (.slice pt4 nt4 ct4)) := X4_v9.out.up hS
  have T7_v10 : Hid (TnC [1, 3] [5, 12, 7] (.agg #[.slice ps7 ns7 cs7, .slice pt7 nt7 ct7]) Z8) := T7_v9.out.up hS
  have X7_v10 : Hid (Cel Z8 g7 (.slice ps7 ns7 cs7) (.slice pt7 nt7 ct7)) := X7_v9.out.up hS
  clear T1_v9 T2_v9 X1_v9 X2_v9 T3_v9 X3_v9 T4_v9 X4_v9 T7_v9 X7_v9
  have T8_v10 : Hid (TnC [1, 1, 2] [19, 31] (.agg #[.slice ps8 ns8 cs8, .slice pt8 nt8 ct8]) Z8) := by show TnC _ _ _ _; rw [hZ]; exact ⟨_, _, _, _, _, _, rfl, (o1.stay (Stay.set2 _ _ _) f1).nums, (o2.stay (Stay.set2 _ _ _) f2).nums, o2.cap⟩
  have X8_v10 : Hid (Cel Z8 g8 (.slice ps8 ns8 cs8) (.slice pt8 nt8 ct8)) := by show Cel _ _ _ _; rw [hZ]; exact (new_cel hb1).set _ _
  clear hZ hS o1 o2 f1 f2 hb1 hb2 hBz hf c0_ c1_ c2_ c3_ ev eb e0 e1 e3 e4 HC8
  have HC9 : Hid (∀ B W v, B ≤ W.heap.size → Below Z8.heap.size Z8 W → TnC [1, 2] [5, 7] v W → Calls Tryd.prog 13 #[v, .agg #[.slice ps2 ns2 cs2, .slice pt2 nt2 ct2], .int .i64 1, .int .i64 4] W fun e w' => ∃ u, e = .returned u ∧ TupP B [] [] 4 u w' ∧ Below W.heap.size W w') := fun B W v hB hW hv => by
    have cm := in_tn 1 4 hv.tn (T2_v10.out.up hW).tn (RI_kern (by decide +kernel)) (RI_kern (by decide +kernel)) HR.out.2.2.1 HR.out.2.2.2 (Hid.up_tz hT (bstep HB_Z8.out hW))
    rw [kn6.1, kn6.2.1, kn6.2.2] at cm
    refine cm.mono ?_
    rintro e w' ⟨u, rfl, h, hb⟩
    exact ⟨_, rfl, ⟨u, rfl, (h.low hB).own⟩, hb⟩
  obtain ⟨x20, x21, _, _⟩ := X2_v10.out
  have x2z := cell_lt x20
  refine relE [⟨0, 64, LitN [5, 7]⟩, ⟨1, 65, TnC [1, 2] [5, 7]⟩, ⟨3, 67, TupP Z8.heap.size [] [] 4⟩, ⟨4, 63, TupP Z8.heap.size [] [] 4⟩, ⟨5, 68, OwnT Z8.heap.size [] []⟩, ⟨7, 13, NewC Z8.heap.size⟩] 8 158 (by kernel_rfl) rfl rfl 6 _ rfl (by decide) rfl (by kernel_rfl) (by kernel_rfl) (fun _ _ _ _ h => h) (by rfl) ?_ ?_
  · intro e he v W W' h hb
    simp only [List.mem_cons, List.not_mem_nil, or_false] at he
    rcases he with rfl | rfl | rfl | rfl | rfl | rfl
    · exact LitN.up h hb
    · exact TnC.up h hb
    · exact TupP.up h hb
    · exact TupP.up h hb
    · exact OwnT.up h hb
    · exact NewC.up h hb
  apply Exists.intro
  refine ⟨?yl9, ?wk9, ?pk9, ?rest9⟩
  case wk9 =>
    intro x
    simp only [List.take_succ_cons, List.take_zero]
    refine relTold rfl rfl ?_ ?_
    · intro F hF hf d
      have hFc := hF.cell
      have hFf := hF.frozen
      simp [yieldsR, yieldsUpon, go_sem]
      exact ⟨⟨(F d).heap.size, rfl, nums_lit (k := .i64) (F d) [5, 7] 2 (0, 0) rfl⟩, up_alloc _ _⟩
    (try simp only [Act.put, List.setIfInBounds_toArray, List.set_cons_zero, List.set_cons_succ])
    refine relTold rfl rfl ?_ ?_
    · intro F hF hf d
      have hFc := hF.cell
      have hFf := hF.frozen
      have h9 := hf _ List.mem_cons_self (by rfl) d
      simp [yieldsR, yieldsUpon, go_sem]
      refine (rows_lit 1 2 _ _ (by omega) (by simp) rfl (F d) h9).mono ?_
      rintro e' w8 ⟨v8, rfl, h8, hb8⟩
      exact ⟨_, rfl, h8, hb8⟩
    (try simp only [Act.put, List.setIfInBounds_toArray, List.set_cons_zero, List.set_cons_succ])
    refine relQuiet rfl rfl ?_
    apply Exists.intro
    refine ⟨fun F hF hf K hK => ?_, ?_⟩
    · have hFc := hF.cell
      have hFf := hF.frozen
      go_big_quiet_op
      first | exact hK | (apply Exists.intro; refine ⟨fun _ => ?_, ?_⟩; (· fail); exact hK)
    (try simp only [Act.put, List.setIfInBounds_toArray, List.set_cons_zero, List.set_cons_succ])
    refine relTold rfl rfl ?_ ?_
    · intro F hF hf d
      have hFc := hF.cell
      have hFf := hF.frozen
      have h9 := hf _ (List.mem_cons_of_mem _ List.mem_cons_self) (by rfl) d
      simp [yieldsR, yieldsUpon, go_sem]
      refine (HC9.out Z8.heap.size (F d) _ (hF.below d).size (hF.below d) h9).mono ?_
      rintro e' w8 ⟨v8, rfl, h8, hb8⟩
      exact ⟨_, rfl, h8, hb8⟩
    (try simp only [Act.put, List.setIfInBounds_toArray, List.set_cons_zero, List.set_cons_succ])
    refine relTold rfl rfl ?_ ?_
    · intro F hF hf d
      have hFc := hF.cell
      have hFf := hF.frozen
      have h9 := hf _ (List.mem_cons_of_mem _ (List.mem_cons_of_mem _ List.mem_cons_self)) (by rfl) d
      simp [yieldsR, yieldsUpon, go_sem]
      exact ⟨h9, Below.refl _ _⟩
    (try simp only [Act.put, List.setIfInBounds_toArray, List.set_cons_zero, List.set_cons_succ])
    refine relTold rfl rfl ?_ ?_
    · intro F hF hf d
      have hFc := hF.cell
      have hFf := hF.frozen
      have h9 := hf _ (List.mem_cons_of_mem _ (List.mem_cons_of_mem _ (List.mem_cons_of_mem _ List.mem_cons_self))) (by rfl) d
      obtain ⟨u9, e9, n9⟩ := h9
      simp only [] at e9 n9
      simp [yieldsR, yieldsUpon, go_sem, e9]
      exact ⟨n9, Below.refl _ _⟩
    (try simp only [Act.put, List.setIfInBounds_toArray, List.set_cons_zero, List.set_cons_succ])
    refine relQuiet rfl rfl ?_
    apply Exists.intro
    refine ⟨fun F hF hf K hK => ?_, ?_⟩
    · have hFc := hF.cell
      have hFf := hF.frozen
      have h9 := hf _ (List.mem_cons_of_mem _ (List.mem_cons_of_mem _ (List.mem_cons_of_mem _ List.mem_cons_self))) (by rfl)
      obtain ⟨u9, e9, _⟩ := h9 w
      simp only [] at e9
      go_big_quiet_op
      first | exact hK | (apply Exists.intro; refine ⟨fun _ => ?_, ?_⟩; (· fail); exact hK)
    (try simp only [Act.put, List.setIfInBounds_toArray, List.set_cons_zero, List.set_cons_succ])
    refine relTold rfl rfl ?_ ?_
    · intro F hF hf d
      have hFc := hF.cell
      have hFf := hF.frozen
      simp [yieldsR, yieldsUpon, go_sem]
      exact ⟨⟨(F d).heap.size, rfl, by show ((F d).heap.push _)[(F d).heap.size]? = _; simp, (hF.below d).size⟩, up_alloc _ _⟩
    (try simp only [Act.put, List.setIfInBounds_toArray, List.set_cons_zero, List.set_cons_succ])
    refine relEnd ?_
    exact rfl
  case pk9 =>
    intro x
    simp only [putsK, List.foldl_cons, List.foldl_nil, Act.put, List.setIfInBounds_toArray, List.set_cons_zero, List.set_cons_succ]
  case yl9 =>
    intro x hx
    obtain ⟨W9, u9, e9, _⟩ := hx _ (List.mem_cons_of_mem _ (List.mem_cons_of_mem _ (List.mem_cons_of_mem _ List.mem_cons_self))) (by rfl)
    simp only [] at e9
    refine ⟨.int .i64 4, fun t ht => ?_, .inl ⟨by rfl, fun w => ?_⟩⟩
    · cases ht
      rfl
    · simp [execOp, Act.eval, e9, go_sem]
  intro z9 xs hBz hf
  simp only [List.drop_succ_cons, List.drop_zero]
  have hT1 := hf _ (List.mem_cons_of_mem _ (List.mem_cons_of_mem _ (List.mem_cons_of_mem _ (List.mem_cons_of_mem _ List.mem_cons_self))))
  have hN := hf _ (List.mem_cons_of_mem _ (List.mem_cons_of_mem _ (List.mem_cons_of_mem _ (List.mem_cons_of_mem _ (List.mem_cons_of_mem _ List.mem_cons_self)))))
  obtain ⟨ps9, ns9, cs9, pt9, nt9, ct9, ev, o1, o2⟩ := hT1
  obtain ⟨g9, eb, hb1, hb2⟩ := hN
  simp only [] at ev eb
  obtain ⟨x0, e0⟩ : ∃ q, xs 0 = q := ⟨_, rfl⟩
  obtain ⟨x1, e1⟩ : ∃ q, xs 1 = q := ⟨_, rfl⟩
  obtain ⟨x3, e3⟩ : ∃ q, xs 3 = q := ⟨_, rfl⟩
  obtain ⟨x4, e4⟩ : ∃ q, xs 4 = q := ⟨_, rfl⟩
  simp only [ev, eb, e0, e1, e3, e4]
  have cbl := new_cel hb1
  have f1 := o1.off_type hb1 (by decide)
  have f2 := o2.off_type hb1 (by decide)
  obtain ⟨c0_, c1_, c2_, c3_⟩ := cbl
  clear x20 x21 x2z
  go_wp2_with fail
  generalize hK10 : World.alloc _ _ = K10
  have hL10 : Below Z8.heap.size Z8 K10 := by rw [← hK10]; exact bstep (below_set2 hBz g9 hb2 _ _) (up_alloc _ _)
  have l10 : LitN [3, 9, 9, 1, 5] (.slice (some ⟨z9.heap.size, 0, none⟩) 5 5) K10 := ⟨_, rfl, by
    rw [← hK10]
    have e9 : (set2 z9 g9 (.slice ps9 ns9 cs9) (.slice pt9 nt9 ct9)).heap.size = z9.heap.size := by simp
    have := nums_lit (k := .i64) (e := 28) (set2 z9 g9 (.slice ps9 ns9 cs9) (.slice pt9 nt9 ct9)) [3, 9, 9, 1, 5] 5 (0, 0) rfl
    rw [e9] at this
    exact this⟩
  clear o1 o2 f1 f2 hb1 hb2 hBz hf c0_ c1_ c2_ c3_ ev eb e0 e1 e3 e4 HC9
  have HB_K10 : Hid (Below w.heap.size w K10) := bstep HB_Z8.out hL10
  have T1_v11 : Hid (TnC [1, 3] [1, 2, 3] (.agg #[.slice ps1 ns1 cs1, .slice pt1 nt1 ct1]) K10) := T1_v10.out.up hL10
  have T2_v11 : Hid (TnC [1, 1, 2] [4294967296, 4294967296] (.agg #[.slice ps2 ns2 cs2, .slice pt2 nt2 ct2]) K10) := T2_v10.out.up hL10
  have X1_v11 : Hid (Cel K10 w2.heap.size (.slice ps1 ns1 cs1) (.slice pt1 nt1 ct1)) := X1_v10.out.up hL10
  have X2_v11 : Hid (Cel K10 (w2.heap.size + 1) (.slice ps2 ns2 cs2) (.slice pt2 nt2 ct2)) := X2_v10.out.up hL10
  have T3_v11 : Hid (TnC [] [] (.agg #[.slice ps3 ns3 cs3, .slice pt3 nt3 ct3]) K10) := T3_v10.out.up hL10
  have X3_v11 : Hid (Cel K10 w3.heap.size (.slice ps3 ns3 cs3) (.slice pt3 nt3 ct3)) := X3_v10.out.up hL10
  have T4_v11 : Hid (TnC [] [] (.agg #[.slice ps4 ns4 cs4, .slice pt4 nt4 ct4]) K10) := T4_v10.out.up hL10
  have X4_v11 : Hid (Cel K10 w4.heap.size (.slice ps4 ns4 cs4) (.slice pt4 nt4 ct4)) := X4_v10.out.up hL10
  have T7_v11 : Hid (TnC [1, 3] [5, 12, 7] (.agg #[.slice ps7 ns7 cs7, .slice pt7 nt7 ct7]) K10) := T7_v10.out.up hL10
  have X7_v11 : Hid (Cel K10 g7 (.slice ps7 ns7 cs7) (.slice pt7 nt7 ct7)) := X7_v10.out.up hL10
  have T8_v11 : Hid (TnC [1, 1, 2] [19, 31] (.agg #[.slice ps8 ns8 cs8, .slice pt8 nt8 ct8]) K10) := T8_v10.out.up hL10
  have X8_v11 : Hid (Cel K10 g8 (.slice ps8 ns8 cs8) (.slice pt8 nt8 ct8)) := X8_v10.out.up hL10
  clear T1_v10 T2_v10 X1_v10 X2_v10 T3_v10 X3_v10 T4_v10 X4_v10 T7_v10 X7_v10 T8_v10 X8_v10
  refine (rows_lit 1 5 _ _ (by omega) (by simp) rfl K10 l10).mono ?_
  rintro e w10 ⟨v10, rfl, ⟨ps10, ns10, cs10, pt10, nt10, ct10, rfl, hs10, ht10, hk10⟩, hB10⟩
  have HB_w10 : Hid (Below w.heap.size w w10) := bstep HB_K10.out hB10
  have T1_v12 : Hid (TnC [1, 3] [1, 2, 3] (.agg #[.slice ps1 ns1 cs1, .slice pt1 nt1 ct1]) w10) := T1_v11.out.up hB10
  have T2_v12 : Hid (TnC [1, 1, 2] [4294967296, 4294967296] (.agg #[.slice ps2 ns2 cs2, .slice pt2 nt2 ct2]) w10) := T2_v11.out.up hB10
  have X1_v12 : Hid (Cel w10 w2.heap.size (.slice ps1 ns1 cs1) (.slice pt1 nt1 ct1)) := X1_v11.out.up hB10
  have X2_v12 : Hid (Cel w10 (w2.heap.size + 1) (.slice ps2 ns2 cs2) (.slice pt2 nt2 ct2)) := X2_v11.out.up hB10
  have T3_v12 : Hid (TnC [] [] (.agg #[.slice ps3 ns3 cs3, .slice pt3 nt3 ct3]) w10) := T3_v11.out.up hB10
  have X3_v12 : Hid (Cel w10 w3.heap.size (.slice ps3 ns3 cs3) (.slice pt3 nt3 ct3)) := X3_v11.out.up hB10
  have T4_v12 : Hid (TnC [] [] (.agg #[.slice ps4 ns4 cs4, .slice pt4 nt4 ct4]) w10) := T4_v11.out.up hB10
  have X4_v12 : Hid (Cel w10 w4.heap.size (.slice ps4 ns4 cs4) (.slice pt4 nt4 ct4)) := X4_v11.out.up hB10
  have T7_v12 : Hid (TnC [1, 3] [5, 12, 7] (.agg #[.slice ps7 ns7 cs7, .slice pt7 nt7 ct7]) w10) := T7_v11.out.up hB10
  have X7_v12 : Hid (Cel w10 g7 (.slice ps7 ns7 cs7) (.slice pt7 nt7 ct7)) := X7_v11.out.up hB10
  have T8_v12 : Hid (TnC [1, 1, 2] [19, 31] (.agg #[.slice ps8 ns8 cs8, .slice pt8 nt8 ct8]) w10) := T8_v11.out.up hB10
  have X8_v12 : Hid (Cel w10 g8 (.slice ps8 ns8 cs8) (.slice pt8 nt8 ct8)) := X8_v11.out.up hB10
  clear T1_v11 T2_v11 X1_v11 X2_v11 T3_v11 X3_v11 T4_v11 X4_v11 T7_v11 X7_v11 T8_v11 X8_v11
  have T10_v12 : Hid (TnC [1, 5] [3, 9, 9, 1, 5] (.agg #[.slice ps10 ns10 cs10, .slice pt10 nt10 ct10]) w10) := ⟨_, _, _, _, _, _, rfl, hs10, ht10, hk10⟩
  clear hB10 hs10 ht10 hk10 hK10 hL10 l10 
  have cm := pool_tn 2 T10_v12.out (RI_kern (by decide +kernel)) (RI_kern (by decide +kernel))
  rw [kn7.1, kn7.2.1, kn7.2.2.1, kn7.2.2.2] at cm
  obtain ⟨x10, x11, _, _⟩ := X1_v12.out
  have x1z := cell_lt x10
  obtain ⟨x20, x21, _, _⟩ := X2_v12.out
  have x2z := cell_lt x20
  go_wp2_with fail
  refine (cm).mono ?_
  rintro e w11 ⟨v11, u11, rfl, ⟨s11, t11, rfl, hs11, ht11⟩, ho11, hB11⟩
  obtain ⟨ps11, ns11, cs11, rfl, _⟩ := hs11.nums.lst
  obtain ⟨pt11, nt11, ct11, rfl, _⟩ := ht11.nums.lst
  obtain ⟨pu11, nu11, cu11, rfl, _⟩ := ho11.nums.lst
  have HB_w11 : Hid (Below w.heap.size w w11) := bstep HB_w10.out hB11
  have T1_v13 : Hid (TnC [1, 3] [1, 2, 3] (.agg #[.slice ps1 ns1 cs1, .slice pt1 nt1 ct1]) w11) := T1_v12.out.up hB11
  have T2_v13 : Hid (TnC [1, 1, 2] [4294967296, 4294967296] (.agg #[.slice ps2 ns2 cs2, .slice pt2 nt2 ct2]) w11) := T2_v12.out.up hB11
  have X1_v13 : Hid (Cel w11 w2.heap.size (.slice ps1 ns1 cs1) (.slice pt1 nt1 ct1)) := X1_v12.out.up hB11
  have X2_v13 : Hid (Cel w11 (w2.heap.size + 1) (.slice ps2 ns2 cs2) (.slice pt2 nt2 ct2)) := X2_v12.out.up hB11
  have T3_v13 : Hid (TnC [] [] (.agg #[.slice ps3 ns3 cs3, .slice pt3 nt3 ct3]) w11) := T3_v12.out.up hB11
  have X3_v13 : Hid (Cel w11 w3.heap.size (.slice ps3 ns3 cs3) (.slice pt3 nt3 ct3)) := X3_v12.out.up hB11
  have T4_v13 : Hid (TnC [] [] (.agg #[.slice ps4 ns4 cs4, .slice pt4 nt4 ct4]) w11) := T4_v12.out.up hB11
  have X4_v13 : Hid (Cel w11 w4.heap.size (.slice ps4 ns4 cs4) (.slice pt4 nt4 ct4)) := X4_v12.out.up hB11
  have T7_v13 : Hid (TnC [1, 3] [5, 12, 7] (.agg #[.slice ps7 ns7 cs7, .slice pt7 nt7 ct7]) w11) := T7_v12.out.up hB11
  have X7_v13 : Hid (Cel w11 g7 (.slice ps7 ns7 cs7) (.slice pt7 nt7 ct7)) := X7_v12.out.up hB11
  have T8_v13 : Hid (TnC [1, 1, 2] [19, 31] (.agg #[.slice ps8 ns8 cs8, .slice pt8 nt8 ct8]) w11) := T8_v12.out.up hB11
  have X8_v13 : Hid (Cel w11 g8 (.slice ps8 ns8 cs8) (.slice pt8 nt8 ct8)) := X8_v12.out.up hB11
  have T10_v13 : Hid (TnC [1, 5] [3, 9, 9, 1, 5] (.agg #[.slice ps10 ns10 cs10, .slice pt10 nt10 ct10]) w11) := T10_v12.out.up hB11
  clear T1_v12 T2_v12 X1_v12 X2_v12 T3_v12 X3_v12 T4_v12 X4_v12 T7_v12 X7_v12 T8_v12 X8_v12 T10_v12
  have T11_v13 : Hid (TnC [1, 2] [9, 9] (.agg #[.slice ps11 ns11 cs11, .slice pt11 nt11 ct11]) w11) := ⟨_, _, _, _, _, _, rfl, hs11.nums, ht11.nums, ht11.cap⟩
  have U11_v13 : Hid (Nums .i64 w11 (.slice pu11 nu11 cu11) [1, 2]) := ho11.nums
  clear hB11 hs11 ht11 ho11 x10 x11 x1z x20 x21 x2z
  obtain ⟨x10, x11, _, _⟩ := X1_v13.out
  have x1z := cell_lt x10
  obtain ⟨x20, x21, _, _⟩ := X2_v13.out
  have x2z := cell_lt x20
  go_wp2_with fail
  generalize hW11 : World.alloc _ _ = W11
  have hC11 : Below w11.heap.size w11 W11 := by rw [← hW11]; exact up_alloc w11 _
  have HB_W11 : Hid (Below w.heap.size w W11) := bstep HB_w11.out hC11
  have T1_v14 : Hid (TnC [1, 3] [1, 2, 3] (.agg #[.slice ps1 ns1 cs1, .slice pt1 nt1 ct1]) W11) := T1_v13.out.up hC11
  have T2_v14 : Hid (TnC [1, 1, 2] [4294967296, 4294967296] (.agg #[.slice ps2 ns2 cs2, .slice pt2 nt2 ct2]) W11) := T2_v13.out.up hC11
  have X1_v14 : Hid (Cel W11 w2.heap.size (.slice ps1 ns1 cs1) (.slice pt1 nt1 ct1)) := X1_v13.out.up hC11
  have X2_v14 : Hid (Cel W11 (w2.heap.size + 1) (.slice ps2 ns2 cs2) (.slice pt2 nt2 ct2)) := X2_v13.out.up hC11
  have T3_v14 : Hid (TnC [] [] (.agg #[.slice ps3 ns3 cs3, .slice pt3 nt3 ct3]) W11) := T3_v13.out.up hC11
  have X3_v14 : Hid (Cel W11 w3.heap.size (.slice ps3 ns3 cs3) (.slice pt3 nt3 ct3)) := X3_v13.out.up hC11
  have T4_v14 : Hid (TnC [] [] (.agg #[.slice ps4 ns4 cs4, .slice pt4 nt4 ct4]) W11) := T4_v13.out.up hC11
  have X4_v14 : Hid (Cel W11 w4.heap.size (.slice ps4 ns4 cs4) (.slice pt4 nt4 ct4)) := X4_v13.out.up hC11
  have T7_v14 : Hid (TnC [1, 3] [5, 12, 7] (.agg #[.slice ps7 ns7 cs7, .slice pt7 nt7 ct7]) W11) := T7_v13.out.up hC11
  have X7_v14 : Hid (Cel W11 g7 (.slice ps7 ns7 cs7) (.slice pt7 nt7 ct7)) := X7_v13.out.up hC11
  have T8_v14 : Hid (TnC [1, 1, 2] [19, 31] (.agg #[.slice ps8 ns8 cs8, .slice pt8 nt8 ct8]) W11) := T8_v13.out.up hC11
  have X8_v14 : Hid (Cel W11 g8 (.slice ps8 ns8 cs8) (.slice pt8 nt8 ct8)) := X8_v13.out.up hC11
  have T10_v14 : Hid (TnC [1, 5] [3, 9, 9, 1, 5] (.agg #[.slice ps10 ns10 cs10, .slice pt10 nt10 ct10]) W11) := T10_v13.out.up hC11
  have T11_v14 : Hid (TnC [1, 2] [9, 9] (.agg #[.slice ps11 ns11 cs11, .slice pt11 nt11 ct11]) W11) := T11_v13.out.up hC11
  have U11_v14 : Hid (Nums .i64 W11 (.slice pu11 nu11 cu11) [1, 2]) := U11_v13.out.up hC11
  clear T1_v13 T2_v13 X1_v13 X2_v13 T3_v13 X3_v13 T4_v13 X4_v13 T7_v13 X7_v13 T8_v13 X8_v13 T10_v13 T11_v13 U11_v13
  have X11_v14 : Hid (Cel W11 w11.heap.size (.slice ps11 ns11 cs11) (.slice pt11 nt11 ct11)) := by show Cel _ _ _ _; unfold Cel; rw [← hW11]; simp [go_sem]
  clear hW11 hC11 x10 x11 x1z x20 x21 x2z
  clear cm
  have cm := pool_tn 4 T1_v14.out HR.out.1 HR.out.2.1
  rw [kn8.1, kn8.2.1, kn8.2.2.1, kn8.2.2.2] at cm
  obtain ⟨x10, x11, _, _⟩ := X1_v14.out
  have x1z := cell_lt x10
  obtain ⟨x20, x21, _, _⟩ := X2_v14.out
  have x2z := cell_lt x20
  go_wp2_with fail
  refine (cm).mono ?_
  rintro e w12 ⟨v12, u12, rfl, ⟨s12, t12, rfl, hs12, ht12⟩, ho12, hB12⟩
  obtain ⟨ps12, ns12, cs12, rfl, _⟩ := hs12.nums.lst
  obtain ⟨pt12, nt12, ct12, rfl, _⟩ := ht12.nums.lst
  obtain ⟨pu12, nu12, cu12, rfl, _⟩ := ho12.nums.lst
  have HB_w12 : Hid (Below w.heap.size w w12) := bstep HB_W11.out hB12
  have T1_v15 : Hid (TnC [1, 3] [1, 2, 3] (.agg #[.slice ps1 ns1 cs1, .slice pt1 nt1 ct1]) w12) := T1_v14.out.up hB12
  have T2_v15 : Hid (TnC [1, 1, 2] [4294967296, 4294967296] (.agg #[.slice ps2 ns2 cs2, .slice pt2 nt2 ct2]) w12) := T2_v14.out.up hB12
  have X1_v15 : Hid (Cel w12 w2.heap.size (.slice ps1 ns1 cs1) (.slice pt1 nt1 ct1)) := X1_v14.out.up hB12
  have X2_v15 : Hid (Cel w12 (w2.heap.size + 1) (.slice ps2 ns2 cs2) (.slice pt2 nt2 ct2)) := X2_v14.out.up hB12
  have T3_v15 : Hid (TnC [] [] (.agg #[.slice ps3 ns3 cs3, .slice pt3 nt3 ct3]) w12) := T3_v14.out.up hB12
  have X3_v15 : Hid (Cel w12 w3.heap.size (.slice ps3 ns3 cs3) (.slice pt3 nt3 ct3)) := X3_v14.out.up hB12
  have T4_v15 : Hid (TnC [] [] (.agg #[.slice ps4 ns4 cs4, .slice pt4 nt4 ct4]) w12) := T4_v14.out.up hB12
  have X4_v15 : Hid (Cel w12 w4.heap.size (.slice ps4 ns4 cs4) (.slice pt4 nt4 ct4)) := X4_v14.out.up hB12
  have T7_v15 : Hid (TnC [1, 3] [5, 12, 7] (.agg #[.slice ps7 ns7 cs7, .slice pt7 nt7 ct7]) w12) := T7_v14.out.up hB12
  have X7_v15 : Hid (Cel w12 g7 (.slice ps7 ns7 cs7) (.slice pt7 nt7 ct7)) := X7_v14.out.up hB12
  have T8_v15 : Hid (TnC [1, 1, 2] [19, 31] (.agg #[.slice ps8 ns8 cs8, .slice pt8 nt8 ct8]) w12) := T8_v14.out.up hB12
  have X8_v15 : Hid (Cel w12 g8 (.slice ps8 ns8 cs8) (.slice pt8 nt8 ct8)) := X8_v14.out.up hB12
  have T10_v15 : Hid (TnC [1, 5] [3, 9, 9, 1, 5] (.agg #[.slice ps10 ns10 cs10, .slice pt10 nt10 ct10]) w12) := T10_v14.out.up hB12
  have T11_v15 : Hid (TnC [1, 2] [9, 9] (.agg #[.slice ps11 ns11 cs11, .slice pt11 nt11 ct11]) w12) := T11_v14.out.up hB12
  have U11_v15 : Hid (Nums .i64 w12 (.slice pu11 nu11 cu11) [1, 2]) := U11_v14.out.up hB12
  have X11_v15 : Hid (Cel w12 w11.heap.size (.slice ps11 ns11 cs11) (.slice pt11 nt11 ct11)) := X11_v14.out.up hB12
  clear T1_v14 T2_v14 X1_v14 X2_v14 T3_v14 X3_v14 T4_v14 X4_v14 T7_v14 X7_v14 T8_v14 X8_v14 T10_v14 T11_v14 U11_v14 X11_v14
  have T12_v15 : Hid (TnC [] [] (.agg #[.slice ps12 ns12 cs12, .slice pt12 nt12 ct12]) w12) := ⟨_, _, _, _, _, _, rfl, hs12.nums, ht12.nums, ht12.cap⟩
  have U12_v15 : Hid (Nums .i64 w12 (.slice pu12 nu12 cu12) []) := ho12.nums
  clear hB12 hs12 ht12 ho12 x10 x11 x1z x20 x21 x2z
  obtain ⟨x10, x11, _, _⟩ := X1_v15.out
  have x1z := cell_lt x10
  obtain ⟨x20, x21, _, _⟩ := X2_v15.out
  have x2z := cell_lt x20
  go_wp2_with fail
  generalize hW12 : World.alloc _ _ = W12
  have hC12 : Below w12.heap.size w12 W12 := by rw [← hW12]; exact up_alloc w12 _
  have HB_W12 : Hid (Below w.heap.size w W12) := bstep HB_w12.out hC12
  have T1_v16 : Hid (TnC [1, 3] [1, 2, 3] (.agg #[.slice ps1 ns1 cs1, .slice pt1 nt1 ct1]) W12) := T1_v15.out.up hC12
  have T2_v16 : Hid (TnC [1, 1, 2] [4294967296, 4294967296] (.agg #[.slice ps2 ns2 cs2, .slice pt2 nt2 ct2]) W12) := T2_v15.out.up hC12
  have X1_v16 : Hid (Cel W12 w2.heap.size (.slice ps1 ns1 cs1) (.slice pt1 nt1 ct1)) := X1_v15.out.up hC12
  have X2_v16 : Hid (Cel W12 (w2.heap.size + 1) (.slice ps2 ns2 cs2) (.slice pt2 nt2 ct2)) := X2_v15.out.up hC12
  have T3_v16 : Hid (TnC [] [] (.agg #[.slice ps3 ns3 cs3, .slice pt3 nt3 ct3]) W12) := T3_v15.out.up hC12
  have X3_v16 : Hid (Cel W12 w3.heap.size (.slice ps3 ns3 cs3) (.slice pt3 nt3 ct3)) := X3_v15.out.up hC12
  have T4_v16 : Hid (TnC [] [] (.agg #[.slice ps4 ns4 cs4, .slice pt4 nt4 ct4]) W12) := T4_v15.out.up hC12
  have X4_v16 : Hid (Cel W12 w4.heap.size (.slice ps4 ns4 cs4) (.slice pt4 nt4 ct4)) := X4_v15.out.up hC12
  have T7_v16 : Hid (TnC [1, 3] [5, 12, 7] (.agg #[.slice ps7 ns7 cs7, .slice pt7 nt7 ct7]) W12) := T7_v15.out.up hC12
  have X7_v16 : Hid (Cel W12 g7 (.slice ps7 ns7 cs7) (.slice pt7 nt7 ct7)) := X7_v15.out.up hC12
  have T8_v16 : Hid (TnC [1, 1, 2] [19, 31] (.agg #[.slice ps8 ns8 cs8, .slice pt8 nt8 ct8]) W12) := T8_v15.out.up hC12
  have X8_v16 : Hid (Cel W12 g8 (.slice ps8 ns8 cs8) (.slice pt8 nt8 ct8)) := X8_v15.out.up hC12
  have T10_v16 : Hid (TnC [1, 5] [3, 9, 9, 1, 5] (.agg #[.slice ps10 ns10 cs10, .slice pt10 nt10 ct10]) W12) := T10_v15.out.up hC12
  have T11_v16 : Hid (TnC [1, 2] [9, 9] (.agg #[.slice ps11 ns11 cs11, .slice pt11 nt11 ct11]) W12) := T11_v15.out.up hC12
  have U11_v16 : Hid (Nums .i64 W12 (.slice pu11 nu11 cu11) [1, 2]) := U11_v15.out.up hC12
  have X11_v16 : Hid (Cel W12 w11.heap.size (.slice ps11 ns11 cs11) (.slice pt11 nt11 ct11)) := X11_v15.out.up hC12
  have T12_v16 : Hid (TnC [] [] (.agg #[.slice ps12 ns12 cs12, .slice pt12 nt12 ct12]) W12) := T12_v15.out.up hC12
  have U12_v16 : Hid (Nums .i64 W12 (.slice pu12 nu12 cu12) []) := U12_v15.out.up hC12
  clear T1_v15 T2_v15 X1_v15 X2_v15 T3_v15 X3_v15 T4_v15 X4_v15 T7_v15 X7_v15 T8_v15 X8_v15 T10_v15 T11_v15 U11_v15 X11_v15 T12_v15 U12_v15
  have X12_v16 : Hid (Cel W12 w12.heap.size (.slice ps12 ns12 cs12) (.slice pt12 nt12 ct12)) := by show Cel _ _ _ _; unfold Cel; rw [← hW12]; simp [go_sem]
  clear hW12 hC12 x10 x11 x1z x20 x21 x2z
  clear cm
  have cm := pool_tn 1 T2_v16.out HR.out.2.2.1 HR.out.2.2.2
  rw [kn9.1, kn9.2.1, kn9.2.2.1, kn9.2.2.2] at cm
  obtain ⟨x10, x11, _, _⟩ := X1_v16.out
  have x1z := cell_lt x10
  obtain ⟨x20, x21, _, _⟩ := X2_v16.out
  have x2z := cell_lt x20
  go_wp2_with fail
  refine (cm).mono ?_
  rintro e w13 ⟨v13, u13, rfl, ⟨s13, t13, rfl, hs13, ht13⟩, ho13, hB13⟩
  obtain ⟨ps13, ns13, cs13, rfl, _⟩ := hs13.nums.lst
  obtain ⟨pt13, nt13, ct13, rfl, _⟩ := ht13.nums.lst
  obtain ⟨pu13, nu13, cu13, rfl, _⟩ := ho13.nums.lst
  have HB_w13 : Hid (Below w.heap.size w w13) := bstep HB_W12.out hB13
  have T1_v17 : Hid (TnC [1, 3] [1, 2, 3] (.agg #[.slice ps1 ns1 cs1, .slice pt1 nt1 ct1]) w13) := T1_v16.out.up hB13
  have T2_v17 : Hid (TnC [1, 1, 2] [4294967296, 4294967296] (.agg #[.slice ps2 ns2 cs2, .slice pt2 nt2 ct2]) w13) := T2_v16.out.up hB13
  have X1_v17 : Hid (Cel w13 w2.heap.size (.slice ps1 ns1 cs1) (.slice pt1 nt1 ct1)) := X1_v16.out.up hB13
  have X2_v17 : Hid (Cel w13 (w2.heap.size + 1) (.slice ps2 ns2 cs2) (.slice pt2 nt2 ct2)) := X2_v16.out.up hB13
  have T3_v17 : Hid (TnC [] [] (.agg #[.slice ps3 ns3 cs3, .slice pt3 nt3 ct3]) w13) := T3_v16.out.up hB13
  have X3_v17 : Hid (Cel w13 w3.heap.size (.slice ps3 ns3 cs3) (.slice pt3 nt3 ct3)) := X3_v16.out.up hB13
  have T4_v17 : Hid (TnC [] [] (.agg #[.slice ps4 ns4 cs4, .slice pt4 nt4 ct4]) w13) := T4_v16.out.up hB13
  have X4_v17 : Hid (Cel w13 w4.heap.size (.slice ps4 ns4 cs4) (.slice pt4 nt4 ct4)) := X4_v16.out.up hB13
  have T7_v17 : Hid (TnC [1, 3] [5, 12, 7] (.agg #[.slice ps7 ns7 cs7, .slice pt7 nt7 ct7]) w13) := T7_v16.out.up hB13
  have X7_v17 : Hid (Cel w13 g7 (.slice ps7 ns7 cs7) (.slice pt7 nt7 ct7)) := X7_v16.out.up hB13
  have T8_v17 : Hid (TnC [1, 1, 2] [19, 31] (.agg #[.slice ps8 ns8 cs8, .slice pt8 nt8 ct8]) w13) := T8_v16.out.up hB13
  have X8_v17 : Hid (Cel w13 g8 (.slice ps8 ns8 cs8) (.slice pt8 nt8 ct8)) := X8_v16.out.up hB13
  have T10_v17 : Hid (TnC [1, 5] [3, 9, 9, 1, 5] (.agg #[.slice ps10 ns10 cs10, .slice pt10 nt10 ct10]) w13) := T10_v16.out.up hB13
  have T11_v17 : Hid (TnC [1, 2] [9, 9] (.agg #[.slice ps11 ns11 cs11, .slice pt11 nt11 ct11]) w13) := T11_v16.out.up hB13
  have U11_v17 : Hid (Nums .i64 w13 (.slice pu11 nu11 cu11) [1, 2]) := U11_v16.out.up hB13
  have X11_v17 : Hid (Cel w13 w11.heap.size (.slice ps11 ns11 cs11) (.slice pt11 nt11 ct11)) := X11_v16.out.up hB13
  have T12_v17 : Hid (TnC [] [] (.agg #[.slice ps12 ns12 cs12, .slice pt12 nt12 ct12]) w13) := T12_v16.out.up hB13
  have U12_v17 : Hid (Nums .i64 w13 (.slice pu12 nu12 cu12) []) := U12_v16.out.up hB13
  have X12_v17 : Hid (Cel w13 w12.heap.size (.slice ps12 ns12 cs12) (.slice pt12 nt12 ct12)) := X12_v16.out.up hB13
  clear T1_v16 T2_v16 X1_v16 X2_v16 T3_v16 X3_v16 T4_v16 X4_v16 T7_v16 X7_v16 T8_v16 X8_v16 T10_v16 T11_v16 U11_v16 X11_v16 T12_v16 U12_v16 X12_v16
  have T13_v17 : Hid (TnC [] [] (.agg #[.slice ps13 ns13 cs13, .slice pt13 nt13 ct13]) w13) := ⟨_, _, _, _, _, _, rfl, hs13.nums, ht13.nums, ht13.cap⟩
  have U13_v17 : Hid (Nums .i64 w13 (.slice pu13 nu13 cu13) []) := ho13.nums
  clear hB13 hs13 ht13 ho13 x10 x11 x1z x20 x21 x2z
  obtain ⟨x10, x11, _, _⟩ := X1_v17.out
  have x1z := cell_lt x10
  obtain ⟨x20, x21, _, _⟩ := X2_v17.out
  have x2z := cell_lt x20
  go_wp2_with fail
  generalize hW13 : World.alloc _ _ = W13
  have hC13 : Below w13.heap.size w13 W13 := by rw [← hW13]; exact up_alloc w13 _
  have HB_W13 : Hid (Below w.heap.size w W13) := bstep HB_w13.out hC13
  have T1_v18 : Hid (TnC [1, 3] [1, 2, 3] (.agg #[.slice ps1 ns1 cs1, .slice pt1 nt1 ct1]) W13) := T1_v17.out.up hC13
  have T2_v18 : Hid (TnC [1, 1, 2] [4294967296, 4294967296] (.agg #[.slice ps2 ns2 cs2, .slice pt2 nt2 ct2]) W13) := T2_v17.out.up hC13
  have X1_v18 : Hid (Cel W13 w2.heap.size (.slice ps1 ns1 cs1) (.slice pt1 nt1 ct1)) := X1_v17.out.up hC13
  have X2_v18 : Hid (Cel W13 (w2.heap.size + 1) (.slice ps2 ns2 cs2) (.slice pt2 nt2 ct2)) := X2_v17.out.up hC13
  have T3_v18 : Hid (TnC [] [] (.agg #[.slice ps3 ns3 cs3, .slice pt3 nt3 ct3]) W13) := T3_v17.out.up hC13
  have X3_v18 : Hid (Cel W13 w3.heap.size (.slice ps3 ns3 cs3) (.slice pt3 nt3 ct3)) := X3_v17.out.up hC13
  have T4_v18 : Hid (TnC [] [] (.agg #[.slice ps4 ns4 cs4, .slice pt4 nt4 ct4]) W13) := T4_v17.out.up hC13
  have X4_v18 : Hid (Cel W13 w4.heap.size (.slice ps4 ns4 cs4) (.slice pt4 nt4 ct4)) := X4_v17.out.up hC13
  have T7_v18 : Hid (TnC [1, 3] [5, 12, 7] (.agg #[.slice ps7 ns7 cs7, .slice pt7 nt7 ct7]) W13) := T7_v17.out.up hC13
  have X7_v18 : Hid (Cel W13 g7 (.slice ps7 ns7 cs7) (.slice pt7 nt7 ct7)) := X7_v17.out.up hC13
  have T8_v18 : Hid (TnC [1, 1, 2] [19, 31] (.agg #[.slice ps8 ns8 cs8, .slice pt8 nt8 ct8]) W13) := T8_v17.out.up hC13
  have X8_v18 : Hid (Cel W13 g8 (.slice ps8 ns8 cs8) (.slice pt8 nt8 ct8)) := X8_v17.out.up hC13
  have T10_v18 : Hid (TnC [1, 5] [3, 9, 9, 1, 5] (.agg #[.slice ps10 ns10 cs10, .slice pt10 nt10 ct10]) W13) := T10_v17.out.up hC13
  have T11_v18 : Hid (TnC [1, 2] [9, 9] (.agg #[.slice ps11 ns11 cs11, .slice pt11 nt11 ct11]) W13) := T11_v17.out.up hC13
  have U11_v18 : Hid (Nums .i64 W13 (.slice pu11 nu11 cu11) [1, 2]) := U11_v17.out.up hC13
  have X11_v18 : Hid (Cel W13 w11.heap.size (.slice ps11 ns11 cs11) (.slice pt11 nt11 ct11)) := X11_v17.out.up hC13
  have T12_v18 : Hid (TnC [] [] (.agg #[.slice ps12 ns12 cs12, .slice pt12 nt12 ct12]) W13) := T12_v17.out.up hC13
  have U12_v18 : Hid (Nums .i64 W13 (.slice pu12 nu12 cu12) []) := U12_v17.out.up hC13
  have X12_v18 : Hid (Cel W13 w12.heap.size (.slice ps12 ns12 cs12) (.slice pt12 nt12 ct12)) := X12_v17.out.up hC13
  have T13_v18 : Hid (TnC [] [] (.agg #[.slice ps13 ns13 cs13, .slice pt13 nt13 ct13]) W13) := T13_v17.out.up hC13
  have U13_v18 : Hid (Nums .i64 W13 (.slice pu13 nu13 cu13) []) := U13_v17.out.up hC13
  clear T1_v17 T2_v17 X1_v17 X2_v17 T3_v17 X3_v17 T4_v17 X4_v17 T7_v17 X7_v17 T8_v17 X8_v17 T10_v17 T11_v17 U11_v17 X11_v17 T12_v17 U12_v17 X12_v17 T13_v17 U13_v17
  have X13_v18 : Hid (Cel W13 w13.heap.size (.slice ps13 ns13 cs13) (.slice pt13 nt13 ct13)) := by show Cel _ _ _ _; unfold Cel; rw [← hW13]; simp [go_sem]
  clear hW13 hC13 x10 x11 x1z x20 x21 x2z
  clear cm
  have HS1 : Hid (∀ W v, Below W13.heap.size W13 W → TnC [1, 3] [5, 12, 7] v W → Calls Tryd.prog 16 #[.agg #[.slice ps7 ns7 cs7, .slice pt7 nt7 ct7], v] W fun e w' => e = .returned (.bool true) ∧ Below W.heap.size W w') := fun W v hW hv => by
    have := alike_tn (T7_v18.out.tn.up hW) hv.tn (by unfold Few; simp) (by unfold Few; simp)
    rw [decide_eq_true ⟨rfl, rfl⟩] at this
    exact this
  have HS2 : Hid (∀ W v, Below W13.heap.size W13 W → TnC [1, 1, 2] [19, 31] v W → Calls Tryd.prog 16 #[.agg #[.slice ps8 ns8 cs8, .slice pt8 nt8 ct8], v] W fun e w' => e = .returned (.bool true) ∧ Below W.heap.size W w') := fun W v hW hv => by
    have := alike_tn (T8_v18.out.tn.up hW) hv.tn (by unfold Few; simp) (by unfold Few; simp)
    rw [decide_eq_true ⟨rfl, rfl⟩] at this
    exact this
  have HS3 : Hid (∀ W v, Below W13.heap.size W13 W → TnC [1, 2] [9, 9] v W → Calls Tryd.prog 16 #[.agg #[.slice ps11 ns11 cs11, .slice pt11 nt11 ct11], v] W fun e w' => e = .returned (.bool true) ∧ Below W.heap.size W w') := fun W v hW hv => by
    have := alike_tn (T11_v18.out.tn.up hW) hv.tn (by unfold Few; simp) (by unfold Few; simp)
    rw [decide_eq_true ⟨rfl, rfl⟩] at this
    exact this
  obtain ⟨_, _, _, e8, HUl⟩ := U11_v18.out.lst
  cases e8
  have hnu : nu11 = 2 := HUl.out.1.symm
  subst hnu
  obtain ⟨qu, ou, eu, hu0⟩ := HUl.out.2 0 (by omega)
  obtain ⟨qu', ou', eu', hu1⟩ := HUl.out.2 1 (by omega)
  subst eu
  cases eu'
  simp at hu0 hu1
  have ltu := cell_lt hu0
  clear HUl
  obtain ⟨x70, x71, _, _⟩ := X7_v18.out
  have x7z := cell_lt x70
  obtain ⟨x80, x81, _, _⟩ := X8_v18.out
  have x8z := cell_lt x80
  obtain ⟨x110, x111, _, _⟩ := X11_v18.out
  have x11z := cell_lt x110
  clear T1_v18 T2_v18 X1_v18 X2_v18 T3_v18 X3_v18 T4_v18 X4_v18 T7_v18 X7_v18 T8_v18 X8_v18 T10_v18 T11_v18 U11_v18 X11_v18 T12_v18 U12_v18 X12_v18 T13_v18 U13_v18 X13_v18
  refine rel [⟨16, 105, LitN [5, 12, 7]⟩, ⟨17, 106, TnC [1, 3] [5, 12, 7]⟩, ⟨26, 115, LitN [19, 31]⟩, ⟨27, 116, TnC [1, 1, 2] [19, 31]⟩, ⟨40, 129, LitN [9, 9]⟩, ⟨41, 130, TnC [1, 2] [9, 9]⟩] 69 158 (by kernel_rfl) rfl rfl (by kernel_rfl) (by rfl) ?_ ?_
  · intro e he v W W' h hb
    simp only [List.mem_cons, List.not_mem_nil, or_false] at he
    rcases he with rfl | rfl | rfl | rfl | rfl | rfl
    · exact LitN.up h hb
    · exact TnC.up h hb
    · exact LitN.up h hb
    · exact TnC.up h hb
    · exact LitN.up h hb
    · exact TnC.up h hb
  apply Exists.intro
  refine ⟨fun x => ?_, ?_, ?_⟩
  · simp only [List.take_succ_cons, List.take_zero]
    refine relQuiet rfl rfl ?_
    apply Exists.intro
    refine ⟨fun F hF hf K hK => ?_, ?_⟩
    · have hFc := hF.cell
      have hFf := hF.frozen
      go_big_quiet_op
      first | exact hK | (apply Exists.intro; refine ⟨fun _ => ?_, ?_⟩; (· fail); exact hK)
    (try simp only [Act.put, List.setIfInBounds_toArray, List.set_cons_zero, List.set_cons_succ])
    refine relQuiet rfl rfl ?_
    apply Exists.intro
    refine ⟨fun F hF hf K hK => ?_, ?_⟩
    · have hFc := hF.cell
      have hFf := hF.frozen
      go_big_quiet_op
      first | exact hK | (apply Exists.intro; refine ⟨fun _ => ?_, ?_⟩; (· fail); exact hK)
    (try simp only [Act.put, List.setIfInBounds_toArray, List.set_cons_zero, List.set_cons_succ])
    refine relQuiet rfl rfl ?_
    apply Exists.intro
    refine ⟨fun F hF hf K hK => ?_, ?_⟩
    · have hFc := hF.cell
      have hFf := hF.frozen
      go_big_quiet_op
      first | exact hK | (apply Exists.intro; refine ⟨fun _ => ?_, ?_⟩; (· fail); exact hK)
    (try simp only [Act.put, List.setIfInBounds_toArray, List.set_cons_zero, List.set_cons_succ])
    refine relQuiet rfl rfl ?_
    apply Exists.intro
    refine ⟨fun F hF hf K hK => ?_, ?_⟩
    · have hFc := hF.cell
      have hFf := hF.frozen
      go_big_quiet_op
      first | exact hK | (apply Exists.intro; refine ⟨fun _ => ?_, ?_⟩; (· fail); exact hK)
    (try simp only [Act.put, List.setIfInBounds_toArray, List.set_cons_zero, List.set_cons_succ])
    refine relQuiet rfl rfl ?_
    apply Exists.intro
    refine ⟨fun F hF hf K hK => ?_, ?_⟩
    · have hFc := hF.cell
      have hFf := hF.frozen
      go_big_quiet_op
      first | exact hK | (apply Exists.intro; refine ⟨fun _ => ?_, ?_⟩; (· fail); exact hK)
    (try simp only [Act.put, List.setIfInBounds_toArray, List.set_cons_zero, List.set_cons_succ])
    refine relQuiet rfl rfl ?_
    apply Exists.intro
    refine ⟨fun F hF hf K hK => ?_, ?_⟩
    · have hFc := hF.cell
      have hFf := hF.frozen
      go_big_quiet_op
      first | exact hK | (apply Exists.intro; refine ⟨fun _ => ?_, ?_⟩; (· fail); exact hK)
    (try simp only [Act.put, List.setIfInBounds_toArray, List.set_cons_zero, List.set_cons_succ])
    refine relQuiet rfl rfl ?_
    apply Exists.intro
    refine ⟨fun F hF hf K hK => ?_, ?_⟩
    · have hFc := hF.cell
      have hFf := hF.frozen
      go_big_quiet_op
      first | exact hK | (apply Exists.intro; refine ⟨fun _ => ?_, ?_⟩; (· fail); exact hK)
    (try simp only [Act.put, List.setIfInBounds_toArray, List.set_cons_zero, List.set_cons_succ])
    refine relQuiet rfl rfl ?_
    apply Exists.intro
    refine ⟨fun F hF hf K hK => ?_, ?_⟩
    · have hFc := hF.cell
      have hFf := hF.frozen
      go_big_quiet_op
      first | exact hK | (apply Exists.intro; refine ⟨fun _ => ?_, ?_⟩; (· fail); exact hK)
    (try simp only [Act.put, List.setIfInBounds_toArray, List.set_cons_zero, List.set_cons_succ])
    refine relQuiet rfl rfl ?_
    apply Exists.intro
    refine ⟨fun F hF hf K hK => ?_, ?_⟩
    · have hFc := hF.cell
      have hFf := hF.frozen
      go_big_quiet_op
      first | exact hK | (apply Exists.intro; refine ⟨fun _ => ?_, ?_⟩; (· fail); exact hK)
    (try simp only [Act.put, List.setIfInBounds_toArray, List.set_cons_zero, List.set_cons_succ])
    refine relQuiet rfl rfl ?_
    apply Exists.intro
    refine ⟨fun F hF hf K hK => ?_, ?_⟩
    · have hFc := hF.cell
      have hFf := hF.frozen
      go_big_quiet_op
      first | exact hK | (apply Exists.intro; refine ⟨fun _ => ?_, ?_⟩; (· fail); exact hK)
    (try simp only [Act.put, List.setIfInBounds_toArray, List.set_cons_zero, List.set_cons_succ])
    refine relQuiet rfl rfl ?_
    apply Exists.intro
    refine ⟨fun F hF hf K hK => ?_, ?_⟩
    · have hFc := hF.cell
      have hFf := hF.frozen
      go_big_quiet_op
      first | exact hK | (apply Exists.intro; refine ⟨fun _ => ?_, ?_⟩; (· fail); exact hK)
    (try simp only [Act.put, List.setIfInBounds_toArray, List.set_cons_zero, List.set_cons_succ])
    refine relQuiet rfl rfl ?_
    apply Exists.intro
    refine ⟨fun F hF hf K hK => ?_, ?_⟩
    · have hFc := hF.cell
      have hFf := hF.frozen
      go_big_quiet_op
      first | exact hK | (apply Exists.intro; refine ⟨fun _ => ?_, ?_⟩; (· fail); exact hK)
    (try simp only [Act.put, List.setIfInBounds_toArray, List.set_cons_zero, List.set_cons_succ])
    refine relQuiet rfl rfl ?_
    apply Exists.intro
    refine ⟨fun F hF hf K hK => ?_, ?_⟩
    · have hFc := hF.cell
      have hFf := hF.frozen
      go_big_quiet_op
      first | exact hK | (apply Exists.intro; refine ⟨fun _ => ?_, ?_⟩; (· fail); exact hK)
    (try simp only [Act.put, List.setIfInBounds_toArray, List.set_cons_zero, List.set_cons_succ])
    refine relQuiet rfl rfl ?_
    apply Exists.intro
    refine ⟨fun F hF hf K hK => ?_, ?_⟩
    · have hFc := hF.cell
      have hFf := hF.frozen
      go_big_quiet_op
      first | exact hK | (apply Exists.intro; refine ⟨fun _ => ?_, ?_⟩; (· fail); exact hK)
    (try simp only [Act.put, List.setIfInBounds_toArray, List.set_cons_zero, List.set_cons_succ])
    refine relQuiet rfl rfl ?_
    apply Exists.intro
    refine ⟨fun F hF hf K hK => ?_, ?_⟩
    · have hFc := hF.cell
      have hFf := hF.frozen
      go_big_quiet_op
      first | exact hK | (apply Exists.intro; refine ⟨fun _ => ?_, ?_⟩; (· fail); exact hK)
    (try simp only [Act.put, List.setIfInBounds_toArray, List.set_cons_zero, List.set_cons_succ])
    refine relQuiet rfl rfl ?_
    apply Exists.intro
    refine ⟨fun F hF hf K hK => ?_, ?_⟩
    · have hFc := hF.cell
      have hFf := hF.frozen
      go_big_quiet_op
      first | exact hK | (apply Exists.intro; refine ⟨fun _ => ?_, ?_⟩; (· fail); exact hK)
    (try simp only [Act.put, List.setIfInBounds_toArray, List.set_cons_zero, List.set_cons_succ])
    refine relTold rfl rfl ?_ ?_
    · intro F hF hf d
      have hFc := hF.cell
      have hFf := hF.frozen
      simp [yieldsR, yieldsUpon, go_sem]
      exact ⟨⟨(F d).heap.size, rfl, nums_lit (k := .i64) (F d) [5, 12, 7] 3 (0, 0) rfl⟩, up_alloc _ _⟩
    (try simp only [Act.put, List.setIfInBounds_toArray, List.set_cons_zero, List.set_cons_succ])
    refine relTold rfl rfl ?_ ?_
    · intro F hF hf d
      have hFc := hF.cell
      have hFf := hF.frozen
      have h9 := hf _ List.mem_cons_self (by rfl) d
      simp [yieldsR, yieldsUpon, go_sem]
      refine (rows_lit 1 3 _ _ (by omega) (by simp) rfl (F d) h9).mono ?_
      rintro e' w8 ⟨v8, rfl, h8, hb8⟩
      exact ⟨_, rfl, h8, hb8⟩
    (try simp only [Act.put, List.setIfInBounds_toArray, List.set_cons_zero, List.set_cons_succ])
    refine relQuiet rfl rfl ?_
    apply Exists.intro
    refine ⟨fun F hF hf K hK => ?_, ?_⟩
    · have hFc := hF.cell
      have hFf := hF.frozen
      go_big_quiet_op
      first | exact hK | (apply Exists.intro; refine ⟨fun _ => ?_, ?_⟩; (· exact hF.call (HS1.out _ _ (hF.below _) (hf _ (List.mem_cons_of_mem _ List.mem_cons_self) (by rfl) _))); exact hK)
    (try simp only [Act.put, List.setIfInBounds_toArray, List.set_cons_zero, List.set_cons_succ])
    refine relQuiet rfl rfl ?_
    apply Exists.intro
    refine ⟨fun F hF hf K hK => ?_, ?_⟩
    · have hFc := hF.cell
      have hFf := hF.frozen
      go_big_quiet_op
      first | exact hK | (apply Exists.intro; refine ⟨fun _ => ?_, ?_⟩; (· fail); exact hK)
    (try simp only [Act.put, List.setIfInBounds_toArray, List.set_cons_zero, List.set_cons_succ])
    refine relQuiet rfl rfl ?_
    apply Exists.intro
    refine ⟨fun F hF hf K hK => ?_, ?_⟩
    · have hFc := hF.cell
      have hFf := hF.frozen
      go_big_quiet_op
      first | exact hK | (apply Exists.intro; refine ⟨fun _ => ?_, ?_⟩; (· fail); exact hK)
    (try simp only [Act.put, List.setIfInBounds_toArray, List.set_cons_zero, List.set_cons_succ])
    refine relQuiet rfl rfl ?_
    apply Exists.intro
    refine ⟨fun F hF hf K hK => ?_, ?_⟩
    · have hFc := hF.cell
      have hFf := hF.frozen
      go_big_quiet_op
      first | exact hK | (apply Exists.intro; refine ⟨fun _ => ?_, ?_⟩; (· fail); exact hK)
    (try simp only [Act.put, List.setIfInBounds_toArray, List.set_cons_zero, List.set_cons_succ])
    refine relQuiet rfl rfl ?_
    apply Exists.intro
    refine ⟨fun F hF hf K hK => ?_, ?_⟩
    · have hFc := hF.cell
      have hFf := hF.frozen
      go_big_quiet_op
      first | exact hK | (apply Exists.intro; refine ⟨fun _ => ?_, ?_⟩; (· fail); exact hK)
    (try simp only [Act.put, List.setIfInBounds_toArray, List.set_cons_zero, List.set_cons_succ])
    refine relQuiet rfl rfl ?_
    apply Exists.intro
    refine ⟨fun F hF hf K hK => ?_, ?_⟩
    · have hFc := hF.cell
      have hFf := hF.frozen
      go_big_quiet_op
      first | exact hK | (apply Exists.intro; refine ⟨fun _ => ?_, ?_⟩; (· fail); exact hK)
    (try simp only [Act.put, List.setIfInBounds_toArray, List.set_cons_zero, List.set_cons_succ])
    refine relQuiet rfl rfl ?_
    apply Exists.intro
    refine ⟨fun F hF hf K hK => ?_, ?_⟩
    · have hFc := hF.cell
      have hFf := hF.frozen
      go_big_quiet_op
      first | exact hK | (apply Exists.intro; refine ⟨fun _ => ?_, ?_⟩; (· fail); exact hK)
    (try simp only [Act.put, List.setIfInBounds_toArray, List.set_cons_zero, List.set_cons_succ])
    refine relQuiet rfl rfl ?_
    apply Exists.intro
    refine ⟨fun F hF hf K hK => ?_, ?_⟩
    · have hFc := hF.cell
      have hFf := hF.frozen
      go_big_quiet_op
      first | exact hK | (apply Exists.intro; refine ⟨fun _ => ?_, ?_⟩; (· fail); exact hK)
    (try simp only [Act.put, List.setIfInBounds_toArray, List.set_cons_zero, List.set_cons_succ])
    refine relTold rfl rfl ?_ ?_
    · intro F hF hf d
      have hFc := hF.cell
      have hFf := hF.frozen
      simp [yieldsR, yieldsUpon, go_sem]
      exact ⟨⟨(F d).heap.size, rfl, nums_lit (k := .i64) (F d) [19, 31] 2 (0, 0) rfl⟩, up_alloc _ _⟩
    (try simp only [Act.put, List.setIfInBounds_toArray, List.set_cons_zero, List.set_cons_succ])
    refine relTold rfl rfl ?_ ?_
    · intro F hF hf d
      have hFc := hF.cell
      have hFf := hF.frozen
      have h9 := hf _ (List.mem_cons_of_mem _ (List.mem_cons_of_mem _ List.mem_cons_self)) (by rfl) d
      simp [yieldsR, yieldsUpon, go_sem]
      refine (windows_lit 1 1 2 _ _ (by omega) (by omega) (by simp) rfl (F d) h9).mono ?_
      rintro e' w8 ⟨v8, rfl, h8, hb8⟩
      exact ⟨_, rfl, h8, hb8⟩
    (try simp only [Act.put, List.setIfInBounds_toArray, List.set_cons_zero, List.set_cons_succ])
    refine relQuiet rfl rfl ?_
    apply Exists.intro
    refine ⟨fun F hF hf K hK => ?_, ?_⟩
    · have hFc := hF.cell
      have hFf := hF.frozen
      go_big_quiet_op
      first | exact hK | (apply Exists.intro; refine ⟨fun _ => ?_, ?_⟩; (· exact hF.call (HS2.out _ _ (hF.below _) (hf _ (List.mem_cons_of_mem _ (List.mem_cons_of_mem _ (List.mem_cons_of_mem _ List.mem_cons_self))) (by rfl) _))); exact hK)
    (try simp only [Act.put, List.setIfInBounds_toArray, List.set_cons_zero, List.set_cons_succ])
    refine relQuiet rfl rfl ?_
    apply Exists.intro
    refine ⟨fun F hF hf K hK => ?_, ?_⟩
    · have hFc := hF.cell
      have hFf := hF.frozen
      go_big_quiet_op
      first | exact hK | (apply Exists.intro; refine ⟨fun _ => ?_, ?_⟩; (· fail); exact hK)
    (try simp only [Act.put, List.setIfInBounds_toArray, List.set_cons_zero, List.set_cons_succ])
    refine relQuiet rfl rfl ?_
    apply Exists.intro
    refine ⟨fun F hF hf K hK => ?_, ?_⟩
    · have hFc := hF.cell
      have hFf := hF.frozen
      go_big_quiet_op
      first | exact hK | (apply Exists.intro; refine ⟨fun _ => ?_, ?_⟩; (· fail); exact hK)
    (try simp only [Act.put, List.setIfInBounds_toArray, List.set_cons_zero, List.set_cons_succ])
    refine relQuiet rfl rfl ?_
    apply Exists.intro
    refine ⟨fun F hF hf K hK => ?_, ?_⟩
    · have hFc := hF.cell
      have hFf := hF.frozen
      go_big_quiet_op
      first | exact hK | (apply Exists.intro; refine ⟨fun _ => ?_, ?_⟩; (· fail); exact hK)
    (try simp only [Act.put, List.setIfInBounds_toArray, List.set_cons_zero, List.set_cons_succ])
    refine relQuiet rfl rfl ?_
    apply Exists.intro
    refine ⟨fun F hF hf K hK => ?_, ?_⟩
    · have hFc := hF.cell
      have hFf := hF.frozen
      go_big_quiet_op
      first | exact hK | (apply Exists.intro; refine ⟨fun _ => ?_, ?_⟩; (· fail); exact hK)
    (try simp only [Act.put, List.setIfInBounds_toArray, List.set_cons_zero, List.set_cons_succ])
    refine relQuiet rfl rfl ?_
    apply Exists.intro
    refine ⟨fun F hF hf K hK => ?_, ?_⟩
    · have hFc := hF.cell
      have hFf := hF.frozen
      go_big_quiet_op
      first | exact hK | (apply Exists.intro; refine ⟨fun _ => ?_, ?_⟩; (· fail); exact hK)
    (try simp only [Act.put, List.setIfInBounds_toArray, List.set_cons_zero, List.set_cons_succ])
    refine relQuiet rfl rfl ?_
    apply Exists.intro
    refine ⟨fun F hF hf K hK => ?_, ?_⟩
    · have hFc := hF.cell
      have hFf := hF.frozen
      go_big_quiet_op
      first | exact hK | (apply Exists.intro; refine ⟨fun _ => ?_, ?_⟩; (· fail); exact hK)
    (try simp only [Act.put, List.setIfInBounds_toArray, List.set_cons_zero, List.set_cons_succ])
    refine relQuiet rfl rfl ?_
    apply Exists.intro
    refine ⟨fun F hF hf K hK => ?_, ?_⟩
    · have hFc := hF.cell
      have hFf := hF.frozen
      go_big_quiet_op
      first | exact hK | (apply Exists.intro; refine ⟨fun _ => ?_, ?_⟩; (· fail); exact hK)
    (try simp only [Act.put, List.setIfInBounds_toArray, List.set_cons_zero, List.set_cons_succ])
    refine relQuiet rfl rfl ?_
    apply Exists.intro
    refine ⟨fun F hF hf K hK => ?_, ?_⟩
    · have hFc := hF.cell
      have hFf := hF.frozen
      go_big_quiet_op
      first | exact hK | (apply Exists.intro; refine ⟨fun _ => ?_, ?_⟩; (· fail); exact hK)
    (try simp only [Act.put, List.setIfInBounds_toArray, List.set_cons_zero, List.set_cons_succ])
    refine relQuiet rfl rfl ?_
    apply Exists.intro
    refine ⟨fun F hF hf K hK => ?_, ?_⟩
    · have hFc := hF.cell
      have hFf := hF.frozen
      go_big_quiet_op
      first | exact hK | (apply Exists.intro; refine ⟨fun _ => ?_, ?_⟩; (· fail); exact hK)
    (try simp only [Act.put, List.setIfInBounds_toArray, List.set_cons_zero, List.set_cons_succ])
    refine relQuiet rfl rfl ?_
    apply Exists.intro
    refine ⟨fun F hF hf K hK => ?_, ?_⟩
    · have hFc := hF.cell
      have hFf := hF.frozen
      go_big_quiet_op
      first | exact hK | (apply Exists.intro; refine ⟨fun _ => ?_, ?_⟩; (· fail); exact hK)
    (try simp only [Act.put, List.setIfInBounds_toArray, List.set_cons_zero, List.set_cons_succ])
    refine relQuiet rfl rfl ?_
    apply Exists.intro
    refine ⟨fun F hF hf K hK => ?_, ?_⟩
    · have hFc := hF.cell
      have hFf := hF.frozen
      go_big_quiet_op
      first | exact hK | (apply Exists.intro; refine ⟨fun _ => ?_, ?_⟩; (· fail); exact hK)
    (try simp only [Act.put, List.setIfInBounds_toArray, List.set_cons_zero, List.set_cons_succ])
    refine relTold rfl rfl ?_ ?_
    · intro F hF hf d
      have hFc := hF.cell
      have hFf := hF.frozen
      simp [yieldsR, yieldsUpon, go_sem]
      exact ⟨⟨(F d).heap.size, rfl, nums_lit (k := .i64) (F d) [9, 9] 2 (0, 0) rfl⟩, up_alloc _ _⟩
    (try simp only [Act.put, List.setIfInBounds_toArray, List.set_cons_zero, List.set_cons_succ])
    refine relTold rfl rfl ?_ ?_
    · intro F hF hf d
      have hFc := hF.cell
      have hFf := hF.frozen
      have h9 := hf _ (List.mem_cons_of_mem _ (List.mem_cons_of_mem _ (List.mem_cons_of_mem _ (List.mem_cons_of_mem _ List.mem_cons_self)))) (by rfl) d
      simp [yieldsR, yieldsUpon, go_sem]
      refine (rows_lit 1 2 _ _ (by omega) (by simp) rfl (F d) h9).mono ?_
      rintro e' w8 ⟨v8, rfl, h8, hb8⟩
      exact ⟨_, rfl, h8, hb8⟩
    (try simp only [Act.put, List.setIfInBounds_toArray, List.set_cons_zero, List.set_cons_succ])
    refine relQuiet rfl rfl ?_
    apply Exists.intro
    refine ⟨fun F hF hf K hK => ?_, ?_⟩
    · have hFc := hF.cell
      have hFf := hF.frozen
      go_big_quiet_op
      first | exact hK | (apply Exists.intro; refine ⟨fun _ => ?_, ?_⟩; (· exact hF.call (HS3.out _ _ (hF.below _) (hf _ (List.mem_cons_of_mem _ (List.mem_cons_of_mem _ (List.mem_cons_of_mem _ (List.mem_cons_of_mem _ (List.mem_cons_of_mem _ List.mem_cons_self))))) (by rfl) _))); exact hK)
    (try simp only [Act.put, List.setIfInBounds_toArray, List.set_cons_zero, List.set_cons_succ])
    refine relQuiet rfl rfl ?_
    apply Exists.intro
    refine ⟨fun F hF hf K hK => ?_, ?_⟩
    · have hFc := hF.cell
      have hFf := hF.frozen
      go_big_quiet_op
      first | exact hK | (apply Exists.intro; refine ⟨fun _ => ?_, ?_⟩; (· fail); exact hK)
    (try simp only [Act.put, List.setIfInBounds_toArray, List.set_cons_zero, List.set_cons_succ])
    refine relQuiet rfl rfl ?_
    apply Exists.intro
    refine ⟨fun F hF hf K hK => ?_, ?_⟩
    · have hFc := hF.cell
      have hFf := hF.frozen
      go_big_quiet_op
      first | exact hK | (apply Exists.intro; refine ⟨fun _ => ?_, ?_⟩; (· fail); exact hK)
    (try simp only [Act.put, List.setIfInBounds_toArray, List.set_cons_zero, List.set_cons_succ])
    refine relQuiet rfl rfl ?_
    apply Exists.intro
    refine ⟨fun F hF hf K hK => ?_, ?_⟩
    · have hFc := hF.cell
      have hFf := hF.frozen
      go_big_quiet_op
      first | exact hK | (apply Exists.intro; refine ⟨fun _ => ?_, ?_⟩; (· fail); exact hK)
    (try simp only [Act.put, List.setIfInBounds_toArray, List.set_cons_zero, List.set_cons_succ])
    refine relQuiet rfl rfl ?_
    apply Exists.intro
    refine ⟨fun F hF hf K hK => ?_, ?_⟩
    · have hFc := hF.cell
      have hFf := hF.frozen
      go_big_quiet_op
      first | exact hK | (apply Exists.intro; refine ⟨fun _ => ?_, ?_⟩; (· fail); exact hK)
    (try simp only [Act.put, List.setIfInBounds_toArray, List.set_cons_zero, List.set_cons_succ])
    refine relQuiet rfl rfl ?_
    apply Exists.intro
    refine ⟨fun F hF hf K hK => ?_, ?_⟩
    · have hFc := hF.cell
      have hFf := hF.frozen
      go_big_quiet_op
      first | exact hK | (apply Exists.intro; refine ⟨fun _ => ?_, ?_⟩; (· fail); exact hK)
    (try simp only [Act.put, List.setIfInBounds_toArray, List.set_cons_zero, List.set_cons_succ])
    refine relQuiet rfl rfl ?_
    apply Exists.intro
    refine ⟨fun F hF hf K hK => ?_, ?_⟩
    · have hFc := hF.cell
      have hFf := hF.frozen
      go_big_quiet_op
      first | exact hK | (apply Exists.intro; refine ⟨fun _ => ?_, ?_⟩; (· fail); exact hK)
    (try simp only [Act.put, List.setIfInBounds_toArray, List.set_cons_zero, List.set_cons_succ])
    refine relQuiet rfl rfl ?_
    apply Exists.intro
    refine ⟨fun F hF hf K hK => ?_, ?_⟩
    · have hFc := hF.cell
      have hFf := hF.frozen
      go_big_quiet_op
      first | exact hK | (apply Exists.intro; refine ⟨fun _ => ?_, ?_⟩; (· fail); exact hK)
    (try simp only [Act.put, List.setIfInBounds_toArray, List.set_cons_zero, List.set_cons_succ])
    refine relQuiet rfl rfl ?_
    apply Exists.intro
    refine ⟨fun F hF hf K hK => ?_, ?_⟩
    · have hFc := hF.cell
      have hFf := hF.frozen
      go_big_quiet_op
      first | exact hK | (apply Exists.intro; refine ⟨fun _ => ?_, ?_⟩; (· fail); exact hK)
    (try simp only [Act.put, List.setIfInBounds_toArray, List.set_cons_zero, List.set_cons_succ])
    refine relQuiet rfl rfl ?_
    apply Exists.intro
    refine ⟨fun F hF hf K hK => ?_, ?_⟩
    · have hFc := hF.cell
      have hFf := hF.frozen
      go_big_quiet_op
      first | exact hK | (apply Exists.intro; refine ⟨fun _ => ?_, ?_⟩; (· fail); exact hK)
    (try simp only [Act.put, List.setIfInBounds_toArray, List.set_cons_zero, List.set_cons_succ])
    refine relQuiet rfl rfl ?_
    apply Exists.intro
    refine ⟨fun F hF hf K hK => ?_, ?_⟩
    · have hFc := hF.cell
      have hFf := hF.frozen
      go_big_quiet_op
      first | exact hK | (apply Exists.intro; refine ⟨fun _ => ?_, ?_⟩; (· fail); exact hK)
    (try simp only [Act.put, List.setIfInBounds_toArray, List.set_cons_zero, List.set_cons_succ])
    refine relQuiet rfl rfl ?_
    apply Exists.intro
    refine ⟨fun F hF hf K hK => ?_, ?_⟩
    · have hFc := hF.cell
      have hFf := hF.frozen
      go_big_quiet_op
      first | exact hK | (apply Exists.intro; refine ⟨fun _ => ?_, ?_⟩; (· fail); exact hK)
    (try simp only [Act.put, List.setIfInBounds_toArray, List.set_cons_zero, List.set_cons_succ])
    refine relQuiet rfl rfl ?_
    apply Exists.intro
    refine ⟨fun F hF hf K hK => ?_, ?_⟩
    · have hFc := hF.cell
      have hFf := hF.frozen
      go_big_quiet_op
      first | exact hK | (apply Exists.intro; refine ⟨fun _ => ?_, ?_⟩; (· fail); exact hK)
    (try simp only [Act.put, List.setIfInBounds_toArray, List.set_cons_zero, List.set_cons_succ])
    refine relQuiet rfl rfl ?_
    apply Exists.intro
    refine ⟨fun F hF hf K hK => ?_, ?_⟩
    · have hFc := hF.cell
      have hFf := hF.frozen
      go_big_quiet_op
      first | exact hK | (apply Exists.intro; refine ⟨fun _ => ?_, ?_⟩; (· fail); exact hK)
    (try simp only [Act.put, List.setIfInBounds_toArray, List.set_cons_zero, List.set_cons_succ])
    refine relQuiet rfl rfl ?_
    apply Exists.intro
    refine ⟨fun F hF hf K hK => ?_, ?_⟩
    · have hFc := hF.cell
      have hFf := hF.frozen
      go_big_quiet_op
      first | exact hK | (apply Exists.intro; refine ⟨fun _ => ?_, ?_⟩; (· fail); exact hK)
    (try simp only [Act.put, List.setIfInBounds_toArray, List.set_cons_zero, List.set_cons_succ])
    refine relQuiet rfl rfl ?_
    apply Exists.intro
    refine ⟨fun F hF hf K hK => ?_, ?_⟩
    · have hFc := hF.cell
      have hFf := hF.frozen
      go_big_quiet_op
      first | exact hK | (apply Exists.intro; refine ⟨fun _ => ?_, ?_⟩; (· fail); exact hK)
    (try simp only [Act.put, List.setIfInBounds_toArray, List.set_cons_zero, List.set_cons_succ])
    refine relQuiet rfl rfl ?_
    apply Exists.intro
    refine ⟨fun F hF hf K hK => ?_, ?_⟩
    · have hFc := hF.cell
      have hFf := hF.frozen
      go_big_quiet_op
      first | exact hK | (apply Exists.intro; refine ⟨fun _ => ?_, ?_⟩; (· fail); exact hK)
    (try simp only [Act.put, List.setIfInBounds_toArray, List.set_cons_zero, List.set_cons_succ])
    refine relQuiet rfl rfl ?_
    apply Exists.intro
    refine ⟨fun F hF hf K hK => ?_, ?_⟩
    · have hFc := hF.cell
      have hFf := hF.frozen
      go_big_quiet_op
      first | exact hK | (apply Exists.intro; refine ⟨fun _ => ?_, ?_⟩; (· fail); exact hK)
    (try simp only [Act.put, List.setIfInBounds_toArray, List.set_cons_zero, List.set_cons_succ])
    refine relQuiet rfl rfl ?_
    apply Exists.intro
    refine ⟨fun F hF hf K hK => ?_, ?_⟩
    · have hFc := hF.cell
      have hFf := hF.frozen
      go_big_quiet_op
      first | exact hK | (apply Exists.intro; refine ⟨fun _ => ?_, ?_⟩; (· fail); exact hK)
    (try simp only [Act.put, List.setIfInBounds_toArray, List.set_cons_zero, List.set_cons_succ])
    refine relQuiet rfl rfl ?_
    apply Exists.intro
    refine ⟨fun F hF hf K hK => ?_, ?_⟩
    · have hFc := hF.cell
      have hFf := hF.frozen
      go_big_quiet_op
      first | exact hK | (apply Exists.intro; refine ⟨fun _ => ?_, ?_⟩; (· fail); exact hK)
    (try simp only [Act.put, List.setIfInBounds_toArray, List.set_cons_zero, List.set_cons_succ])
    refine relQuiet rfl rfl ?_
    apply Exists.intro
    refine ⟨fun F hF hf K hK => ?_, ?_⟩
    · have hFc := hF.cell
      have hFf := hF.frozen
      go_big_quiet_op
      first | exact hK | (apply Exists.intro; refine ⟨fun _ => ?_, ?_⟩; (· fail); exact hK)
    (try simp only [Act.put, List.setIfInBounds_toArray, List.set_cons_zero, List.set_cons_succ])
    refine relQuiet rfl rfl ?_
    apply Exists.intro
    refine ⟨fun F hF hf K hK => ?_, ?_⟩
    · have hFc := hF.cell
      have hFf := hF.frozen
      go_big_quiet_op
      first | exact hK | (apply Exists.intro; refine ⟨fun _ => ?_, ?_⟩; (· fail); exact hK)
    (try simp only [Act.put, List.setIfInBounds_toArray, List.set_cons_zero, List.set_cons_succ])
    refine relQuiet rfl rfl ?_
    apply Exists.intro
    refine ⟨fun F hF hf K hK => ?_, ?_⟩
    · have hFc := hF.cell
      have hFf := hF.frozen
      go_big_quiet_op
      first | exact hK | (apply Exists.intro; refine ⟨fun _ => ?_, ?_⟩; (· fail); exact hK)
    (try simp only [Act.put, List.setIfInBounds_toArray, List.set_cons_zero, List.set_cons_succ])
    refine relQuiet rfl rfl ?_
    apply Exists.intro
    refine ⟨fun F hF hf K hK => ?_, ?_⟩
    · have hFc := hF.cell
      have hFf := hF.frozen
      go_big_quiet_op
      first | exact hK | (apply Exists.intro; refine ⟨fun _ => ?_, ?_⟩; (· fail); exact hK)
    (try simp only [Act.put, List.setIfInBounds_toArray, List.set_cons_zero, List.set_cons_succ])
    refine relQuiet rfl rfl ?_
    apply Exists.intro
    refine ⟨fun F hF hf K hK => ?_, ?_⟩
    · have hFc := hF.cell
      have hFf := hF.frozen
      go_big_quiet_op
      first | exact hK | (apply Exists.intro; refine ⟨fun _ => ?_, ?_⟩; (· fail); exact hK)
    (try simp only [Act.put, List.setIfInBounds_toArray, List.set_cons_zero, List.set_cons_succ])
    refine relQuiet rfl rfl ?_
    apply Exists.intro
    refine ⟨fun F hF hf K hK => ?_, ?_⟩
    · have hFc := hF.cell
      have hFf := hF.frozen
      go_big_quiet_op
      first | exact hK | (apply Exists.intro; refine ⟨fun _ => ?_, ?_⟩; (· fail); exact hK)
    (try simp only [Act.put, List.setIfInBounds_toArray, List.set_cons_zero, List.set_cons_succ])
    refine relQuiet rfl rfl ?_
    apply Exists.intro
    refine ⟨fun F hF hf K hK => ?_, ?_⟩
    · have hFc := hF.cell
      have hFf := hF.frozen
      go_big_quiet_op
      first | exact hK | (apply Exists.intro; refine ⟨fun _ => ?_, ?_⟩; (· fail); exact hK)
    (try simp only [Act.put, List.setIfInBounds_toArray, List.set_cons_zero, List.set_cons_succ])
    refine relEnd ?_
    exact rfl
  · intro x
    simp only [putsK, List.foldl_cons, List.foldl_nil, Act.put, List.setIfInBounds_toArray, List.set_cons_zero, List.set_cons_succ]
  · intro w9 xs hB9 hf
    simp only [List.drop_succ_cons, List.drop_zero]
    have HB9 : Hid (Below w.heap.size w w9) := bstep HB_W13.out hB9
    clear hf hB9
    go_wp2
    go_ret
    exact ⟨rfl, HB9.out⟩
end Go.Proofs.YtnicknnhboanoaaDoor.Wd
