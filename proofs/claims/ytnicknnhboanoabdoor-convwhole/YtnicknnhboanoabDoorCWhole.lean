/- ConvWhole: a window as wide as the row gives one number: their Dot. -/
import Derived.Test.YtnicknnhboanoabDoorCvL
import Derived.Test.YtnicknnhboanoabDoorMtB
namespace Go.Proofs.YtnicknnhboanoabDoor.Wd
open Go.RowKit Fx
set_option linter.unusedVariables false
set_option linter.unusedSimpArgs false
theorem isP_row {x : List Int} {n : Nat} (h : x.length = n) (h1 : 1 ≤ n) (h2 : n ≤ 4096) : isP [1, (n : Int)] x := by
  have e : prodN [1, n] = n := by simp [prodN]
  have en : ntl [1, (n : Int)] = [1, n] := ntl_itl [1, n]
  unfold isP
  rw [en, e]
  exact ⟨⟨by simp, fun y hy => by simp at hy; omega, by rw [e]; exact h2⟩, h⟩
theorem isP_win {x : List Int} {n : Nat} (h : x.length = n) (h1 : 1 ≤ n) (h2 : n ≤ 4096) : isP [1, 1, (n : Int)] x := by
  have e : prodN [1, 1, n] = n := by simp [prodN]
  have en : ntl [1, 1, (n : Int)] = [1, 1, n] := ntl_itl [1, 1, n]
  unfold isP
  rw [en, e]
  exact ⟨⟨by simp, fun y hy => by simp at hy; omega, by rw [e]; exact h2⟩, h⟩
theorem good_row {n : Nat} (h1 : 1 ≤ n) (h2 : n ≤ 4096) : goodN (ntl [1, (n : Int)]) := (good_two (D0 := 1) (D1 := n)).2 ⟨by omega, h1, by omega⟩
theorem whole_row {x y : List Int} {n : Nat} (hx : x.length = n) (hy : y.length = n) (h1 : 1 ≤ n) (h2 : n ≤ 100) : rwE [1, (n : Int)] x [1, 1, (n : Int)] y 1 = 0 ∧ rwD [1, (n : Int)] x [1, 1, (n : Int)] y 1 = [1, 1] ∧ rwV [1, (n : Int)] x [1, 1, (n : Int)] y 1 = [dotI x y] := by
  have hg : goodN (ntl [((1 : Nat) : Int), ((1 : Nat) : Int)]) := good_two.2 ⟨by omega, by omega, by omega⟩
  have hS : stopsN n n 1 = 1 := by unfold stopsN; rw [Nat.sub_self, Nat.div_one]
  obtain ⟨e1, e2, e3⟩ := rw_fine (R := 1) (L := n) (O := 1) (wd := n) (st := 1) (x := x) (y := y) ⟨isP_row hx h1 (by omega), isP_win hy h1 (by omega), by omega, by omega⟩ (Nat.le_refl _) hS
  refine ⟨e1.trans (if_pos hg), e2.trans (if_pos hg), (e3.trans (if_pos hg)).trans ?_⟩
  subst hx
  show [convN 1 x.length x.length 1 1 x y 0] = _
  rw [conv_whole x y hy]
set_option maxRecDepth 8000 in
set_option maxHeartbeats 8000000 in
theorem cwhole_walk (w : World) (hT : Hid (Tz w)) (za : Nat → Int) (n c : Nat) (p : Option Addr) (zb : Nat → Int) (n2 c2 : Nat) (p2 : Option Addr) (r1 : RowN .i64 w p n c za) (r2 : RowN .i64 w p2 n2 c2 zb) :
    Calls Tryd.prog 3 #[.slice p n c, .slice p2 n2 c2] w fun e w' => e = .returned (.bool true) ∧ Below w.heap.size w w' := by
  have HA : Hid (Nums .i64 w (.slice p n c) (nlst n za) ∧ Nums .i64 w (.slice p2 n2 c2) (nlst n2 zb)) := ⟨r1.nums, r2.nums⟩
  have HI : Hid (RI (nlst n za) ∧ (nlst n za).length = n ∧ n ≤ c ∧ RI (nlst n2 zb) ∧ (nlst n2 zb).length = n2 ∧ n2 ≤ c2) := ⟨r1.riI, nlst_len _ _, r1.1.1, r2.riI, nlst_len _ _, r2.1.1⟩
  have hfew : (n : Int) ≤ 9223372036854775807 := by have := r1.few; unfold Few at this; rw [nlst_len] at this; omega
  have hfew2 : (n2 : Int) ≤ 9223372036854775807 := by have := r2.few; unfold Few at this; rw [nlst_len] at this; omega
  obtain ⟨x, ex⟩ : ∃ x, nlst n za = x := ⟨_, rfl⟩
  obtain ⟨y, ey⟩ : ∃ x, nlst n2 zb = x := ⟨_, rfl⟩
  rw [ex, ey] at HA HI
  clear ex ey r1 r2
  haveI : Nonempty World := ⟨w⟩
  go_enter Tryd.func3, Tryd.ntmps3
  go_wp2_with fail
  have HB_w : Hid (Below w.heap.size w w) := Below.refl _ _
  refine (awake8_any w (hT)).mono ?_
  rintro e wa ⟨rfl, hBa⟩
  have HB_wa : Hid (Below w.heap.size w wa) := bstep HB_w.out hBa
  clear hBa
  by_cases hn1 : n < 1
  · obtain rfl : n = 0 := by omega
    go_wp2
    go_ret
    exact ⟨rfl, HB_wa.out⟩
  have hd1 : decide ((n : Int) < 1) = false := decide_eq_false (by omega)
  by_cases hn2 : 100 < n
  · have hd2 : decide ((100 : Int) < (n : Int)) = true := decide_eq_true (by omega)
    have hd2n : decide (100 < n) = true := decide_eq_true (by omega)
    go_wp2
    go_ret
    exact ⟨rfl, HB_wa.out⟩
  have hd2 : decide ((100 : Int) < (n : Int)) = false := decide_eq_false (by omega)
  have hd2n : decide (100 < n) = false := decide_eq_false (by omega)
  by_cases hn3 : n2 = n
  · subst hn3
    have hne : ((n2 : Int) != (n2 : Int)) = false := by simp
    have hb1 : 1 ≤ (n2 : Int) ∧ (n2 : Int) ≤ 100 := by omega
    go_wp2_with fail
    refine (rows_any 1 n2 x p n2 c (by omega) (by rw [HI.out.2.1]; omega) HI.out.2.2.1 (by rw [HI.out.2.1, Nat.div_one]) wa (HA.out.1.up HB_wa.out)).mono ?_
    rintro e w1 ⟨v1, rfl, ⟨ps1, ns1, cs1, pt1, nt1, ct1, rfl, hs1, ht1, hk1⟩, hB1⟩
    have HB_w1 : Hid (Below w.heap.size w w1) := bstep HB_wa.out hB1
    have T1_v0 : Hid (TnC [1, (n2 : Int)] x (.agg #[.slice ps1 ns1 cs1, .slice pt1 nt1 ct1]) w1) := ⟨_, _, _, _, _, _, rfl, hs1, ht1, hk1⟩
    clear hs1 ht1 hk1 hB1
    go_wp2_with fail
    refine (windows_any 1 1 n2 y p2 n2 c2 (by omega) (by omega) (by rw [HI.out.2.2.2.2.1]; omega) HI.out.2.2.2.2.2 (by rw [HI.out.2.2.2.2.1, Nat.div_one, Nat.div_one]) w1 (HA.out.2.up HB_w1.out)).mono ?_
    rintro e w3 ⟨v3, rfl, ⟨ps3, ns3, cs3, pt3, nt3, ct3, rfl, hs3, ht3, hk3⟩, hB3⟩
    have HB_w3 : Hid (Below w.heap.size w w3) := bstep HB_w1.out hB3
    have T1_v1 : Hid (TnC [1, (n2 : Int)] x (.agg #[.slice ps1 ns1 cs1, .slice pt1 nt1 ct1]) w3) := T1_v0.out.up hB3
    clear T1_v0
    have T3_v1 : Hid (TnC [1, 1, (n2 : Int)] y (.agg #[.slice ps3 ns3 cs3, .slice pt3 nt3 ct3]) w3) := ⟨_, _, _, _, _, _, rfl, hs3, ht3, hk3⟩
    clear hs3 ht3 hk3 hB3
    obtain ⟨o1, o2, o3⟩ := whole_row HI.out.2.1 HI.out.2.2.2.2.1 (by omega) (by omega)
    have HR : Hid (RI [1, (n2 : Int)] ∧ RI [1, 1, (n2 : Int)]) := ⟨fun q hq => by simp at hq; omega, fun q hq => by simp at hq; omega⟩
    have cm := row_tn 1 T1_v1.out.tn T3_v1.out.tn HR.out.1 HI.out.1 HR.out.2 HI.out.2.2.2.1 (Hid.up_tz hT HB_w3.out)
    rw [o1, o2, o3] at cm
    have hDr : InR (dotI x y) := rnd_rng _
    obtain ⟨D, eD⟩ : ∃ D, dotI x y = D := ⟨_, rfl⟩
    rw [eD] at cm hDr
    have HED : Hid (dotI x y = D) := eD
    go_wp2_with fail
    clear eD
    refine (cm).mono ?_
    rintro e w5 ⟨v5, rfl, ⟨s5, t5, rfl, hs5, ht5⟩, hB5⟩
    obtain ⟨ps5, ns5, cs5, rfl, _⟩ := hs5.nums.lst
    obtain ⟨pt5, nt5, ct5, rfl, _⟩ := ht5.nums.lst
    have HB_w5 : Hid (Below w.heap.size w w5) := bstep HB_w3.out hB5
    have T1_v2 : Hid (TnC [1, (n2 : Int)] x (.agg #[.slice ps1 ns1 cs1, .slice pt1 nt1 ct1]) w5) := T1_v1.out.up hB5
    have T3_v2 : Hid (TnC [1, 1, (n2 : Int)] y (.agg #[.slice ps3 ns3 cs3, .slice pt3 nt3 ct3]) w5) := T3_v1.out.up hB5
    clear T1_v1 T3_v1
    have T5_v2 : Hid (TnC [1, 1] [D] (.agg #[.slice ps5 ns5 cs5, .slice pt5 nt5 ct5]) w5) := ⟨_, _, _, _, _, _, rfl, hs5.nums, ht5.nums, ht5.cap⟩
    clear hB5 hs5 ht5 
    go_wp2_with fail
    generalize hW5 : World.alloc _ _ = W5
    have hC5 : Below w5.heap.size w5 W5 := by rw [← hW5]; exact up_alloc w5 _
    have HB_W5 : Hid (Below w.heap.size w W5) := bstep HB_w5.out hC5
    have T1_v3 : Hid (TnC [1, (n2 : Int)] x (.agg #[.slice ps1 ns1 cs1, .slice pt1 nt1 ct1]) W5) := T1_v2.out.up hC5
    have T3_v3 : Hid (TnC [1, 1, (n2 : Int)] y (.agg #[.slice ps3 ns3 cs3, .slice pt3 nt3 ct3]) W5) := T3_v2.out.up hC5
    have T5_v3 : Hid (TnC [1, 1] [D] (.agg #[.slice ps5 ns5 cs5, .slice pt5 nt5 ct5]) W5) := T5_v2.out.up hC5
    clear T1_v2 T3_v2 T5_v2
    have X5_v3 : Hid (Cel W5 w5.heap.size (.slice ps5 ns5 cs5) (.slice pt5 nt5 ct5)) := by show Cel _ _ _ _; unfold Cel; rw [← hW5]; simp [go_sem]
    clear hW5 hC5 
    clear cm
    have HS : Hid (∀ W v, Below W5.heap.size W5 W → TnC [1, 1] [D] v W → Calls Tryd.prog 9 #[.agg #[.slice ps5 ns5 cs5, .slice pt5 nt5 ct5], v] W fun e w' => e = .returned (.bool true) ∧ Below W.heap.size W w') := fun W v hW hv => by
      have := alike_tn (T5_v3.out.tn.up hW) hv.tn (by unfold Few; simp) (by unfold Few; simp)
      rw [decide_eq_true ⟨rfl, rfl⟩] at this
      exact this
    have HDt : Hid (∀ W, Below W5.heap.size W5 W → Calls Tryd.prog 10 #[.slice p n2 c, .slice p2 n2 c2] W fun e w' => e = .returned (.int .i64 D) ∧ Below W.heap.size W w') := fun W hW => by
      have := dot_any p p2 n2 c n2 c2 x y HI.out.1 HI.out.2.2.2.1 n2 (Nat.min_self n2) (by omega) W (Hid.up_tz hT (bstep HB_W5.out hW)) (HA.out.1.up (bstep HB_W5.out hW)) (HA.out.2.up (bstep HB_W5.out hW))
      rw [HED.out] at this
      exact this
    obtain ⟨x50, x51, _, _⟩ := X5_v3.out
    have x5z := cell_lt x50
    clear T1_v3 T3_v3 T5_v3 X5_v3
    refine rel [⟨7, 39, LitN [D]⟩, ⟨8, 40, TnC [1, 1] [D]⟩] 11 43 (by kernel_rfl) rfl rfl (by kernel_rfl) (by rfl) ?_ ?_
    · intro e he v W W' h hb
      simp only [List.mem_cons, List.not_mem_nil, or_false] at he
      rcases he with rfl | rfl
      · exact LitN.up h hb
      · exact TnC.up h hb
    apply Exists.intro
    refine ⟨fun x => ?_, ?_, ?_⟩
    · simp only [List.take_succ_cons, List.take_zero]
      refine relQuiet rfl rfl ?_
      apply Exists.intro
      refine ⟨fun F hF hf K hK => ?_, ?_⟩
      · have hFc := hF.cell
        have hFf := hF.frozen
        go_big_quiet_op
        first | exact hK | (apply Exists.intro; refine ⟨fun _ => ?_, ?_⟩; (· fail); exact hK)
      (try simp only [Act.put, List.setIfInBounds_toArray, List.set_cons_zero, List.set_cons_succ])
      refine relQuiet rfl rfl ?_
      apply Exists.intro
      refine ⟨fun F hF hf K hK => ?_, ?_⟩
      · have hFc := hF.cell
        have hFf := hF.frozen
        go_big_quiet_op
        first | exact hK | (apply Exists.intro; refine ⟨fun _ => ?_, ?_⟩; (· fail); exact hK)
      (try simp only [Act.put, List.setIfInBounds_toArray, List.set_cons_zero, List.set_cons_succ])
      refine relQuiet rfl rfl ?_
      apply Exists.intro
      refine ⟨fun F hF hf K hK => ?_, ?_⟩
      · have hFc := hF.cell
        have hFf := hF.frozen
        go_big_quiet_op
        first | exact hK | (apply Exists.intro; refine ⟨fun _ => ?_, ?_⟩; (· fail); exact hK)
      (try simp only [Act.put, List.setIfInBounds_toArray, List.set_cons_zero, List.set_cons_succ])
      refine relQuiet rfl rfl ?_
      apply Exists.intro
      refine ⟨fun F hF hf K hK => ?_, ?_⟩
      · have hFc := hF.cell
        have hFf := hF.frozen
        go_big_quiet_op
        first | exact hK | (apply Exists.intro; refine ⟨fun _ => ?_, ?_⟩; (· fail); exact hK)
      (try simp only [Act.put, List.setIfInBounds_toArray, List.set_cons_zero, List.set_cons_succ])
      refine relQuiet rfl rfl ?_
      apply Exists.intro
      refine ⟨fun F hF hf K hK => ?_, ?_⟩
      · have hFc := hF.cell
        have hFf := hF.frozen
        go_big_quiet_op
        first | exact hK | (apply Exists.intro; refine ⟨fun _ => ?_, ?_⟩; (· fail); exact hK)
      (try simp only [Act.put, List.setIfInBounds_toArray, List.set_cons_zero, List.set_cons_succ])
      refine relQuiet rfl rfl ?_
      apply Exists.intro
      refine ⟨fun F hF hf K hK => ?_, ?_⟩
      · have hFc := hF.cell
        have hFf := hF.frozen
        go_big_quiet_op
        first | exact hK | (apply Exists.intro; refine ⟨fun _ => ?_, ?_⟩; (· fail); exact hK)
      (try simp only [Act.put, List.setIfInBounds_toArray, List.set_cons_zero, List.set_cons_succ])
      refine relQuiet rfl rfl ?_
      apply Exists.intro
      refine ⟨fun F hF hf K hK => ?_, ?_⟩
      · have hFc := hF.cell
        have hFf := hF.frozen
        go_big_quiet_op
        first | exact hK | (apply Exists.intro; refine ⟨fun _ => ?_, ?_⟩; (· exact hF.call (HDt.out _ (hF.below _))); exact hK)
      (try simp only [Act.put, List.setIfInBounds_toArray, List.set_cons_zero, List.set_cons_succ])
      refine relTold rfl rfl ?_ ?_
      · intro F hF hf d
        have hFc := hF.cell
        have hFf := hF.frozen
        simp [yieldsR, yieldsUpon, go_sem]
        exact ⟨⟨(F d).heap.size, rfl, nums_lit (k := .i64) (F d) [D] 1 (0, 0) rfl⟩, up_alloc _ _⟩
      (try simp only [Act.put, List.setIfInBounds_toArray, List.set_cons_zero, List.set_cons_succ])
      refine relTold rfl rfl ?_ ?_
      · intro F hF hf d
        have hFc := hF.cell
        have hFf := hF.frozen
        have h9 := hf _ List.mem_cons_self (by rfl) d
        simp [yieldsR, yieldsUpon, go_sem]
        refine (rows_lit 1 1 _ _ (by omega) (by simp) (by simp) (F d) h9).mono ?_
        rintro e' w8 ⟨v8, rfl, h8, hb8⟩
        exact ⟨_, rfl, h8, hb8⟩
      (try simp only [Act.put, List.setIfInBounds_toArray, List.set_cons_zero, List.set_cons_succ])
      refine relQuiet rfl rfl ?_
      apply Exists.intro
      refine ⟨fun F hF hf K hK => ?_, ?_⟩
      · have hFc := hF.cell
        have hFf := hF.frozen
        go_big_quiet_op
        first | exact hK | (apply Exists.intro; refine ⟨fun _ => ?_, ?_⟩; (· exact hF.call (HS.out _ _ (hF.below _) (hf _ (List.mem_cons_of_mem _ List.mem_cons_self) (by rfl) _))); exact hK)
      (try simp only [Act.put, List.setIfInBounds_toArray, List.set_cons_zero, List.set_cons_succ])
      refine relQuiet rfl rfl ?_
      apply Exists.intro
      refine ⟨fun F hF hf K hK => ?_, ?_⟩
      · have hFc := hF.cell
        have hFf := hF.frozen
        go_big_quiet_op
        first | exact hK | (apply Exists.intro; refine ⟨fun _ => ?_, ?_⟩; (· fail); exact hK)
      (try simp only [Act.put, List.setIfInBounds_toArray, List.set_cons_zero, List.set_cons_succ])
      refine relEnd ?_
      exact rfl
    · exact fun x => rfl
    · intro w9 xs hB9 hf
      simp only [List.drop_succ_cons, List.drop_zero]
      have HB9 : Hid (Below w.heap.size w w9) := bstep HB_W5.out hB9
      clear hf hB9
      go_wp2
      go_ret
      exact ⟨rfl, HB9.out⟩
  have hne : ((n2 : Int) != (n : Int)) = true := by simp; omega
  have hne' : ¬ ((n2 : Int) = (n : Int)) := by omega
  go_wp2
  go_ret
  exact ⟨rfl, HB_wa.out⟩
end Go.Proofs.YtnicknnhboanoabDoor.Wd
