/- MatmAlike: of numbers that are all alike the mean is that; a sum of one number is it. -/
import Derived.Test.YthcfeiddbffcfabDoorMtN
import Derived.Test.YthcfeiddbffcfabDoorMtG
namespace Go.Proofs.YthcfeiddbffcfabDoor.Wd
open Go.RowKit Fx
set_option linter.unusedVariables false
set_option linter.unusedSimpArgs false
theorem is_one {m : Nat} {x : List Int} (h1 : 1 ≤ m) (h2 : m ≤ 4096) (hx : x.length = m) : isP [(m : Int)] x := by
  have en : ntl [(m : Int)] = [m] := ntl_itl [m]
  unfold isP
  rw [en]
  refine ⟨⟨by simp, fun y hy => by simp at hy; omega, by simpa [prodN] using h2⟩, by simpa [prodN] using hx⟩
theorem RI_rep {v : Int} (h : InR v) (m : Nat) : RI (List.replicate m v) := fun y hy => by
  rw [(List.mem_replicate.1 hy).2]
  exact h
theorem RI_one1 {m : Nat} (h : m ≤ 4096) : RI [(m : Int)] := fun q hq => by
  simp at hq
  omega
theorem al_mean {v : Int} {m : Nat} (hv : InR v) (h1 : 1 ≤ m) (h2 : m ≤ 4096) : meanV [(m : Int)] (List.replicate m v) = v ∧ matE [(m : Int)] (List.replicate m v) = 0 := by
  have hp := is_one h1 h2 (List.length_replicate (n := m) (a := v))
  unfold meanV matE
  rw [if_pos hp, if_pos hp, mean_alike hv h1]
  exact ⟨rfl, rfl⟩
theorem al_all {v : Int} (hv : InR v) : allV [1] (List.replicate 1 v) = v ∧ matE [1] (List.replicate 1 v) = 0 := by
  have hp := is_one (m := 1) (by omega) (by omega) (List.length_replicate (n := 1) (a := v))
  have hp : isP [1] (List.replicate 1 v) := hp
  unfold allV matE
  rw [if_pos hp, if_pos hp, total_alike]
  refine ⟨?_, rfl⟩
  rw [show ((1 : Nat) : Int) * v = v by simp]
  exact hold_in hv.1 hv.2
theorem al_sum {v : Int} {m : Nat} (hv : InR v) (h1 : 1 ≤ m) (h2 : m ≤ 4096) : smE [1, (m : Int)] (List.replicate m v) 0 = 0 ∧ smD [1, (m : Int)] (List.replicate m v) 0 = [(m : Int)] ∧ smV [1, (m : Int)] (List.replicate m v) 0 = List.replicate m v := by
  have hp : isP [((1 : Nat) : Int), (m : Int)] (List.replicate m v) := is_two (by rw [List.length_replicate, Nat.one_mul]) (by omega) h1 (by omega)
  have hs : smP [1, (m : Int)] (List.replicate m v) 0 := ⟨hp, by omega, by simp⟩
  have en : ntl [1, (m : Int)] = [1, m] := ntl_itl [1, m]
  unfold smE smD smV
  rw [if_pos hs, if_pos hs, if_pos hs, en]
  exact ⟨rfl, rfl, sum_alike hv⟩
theorem sum_tn {D X : List Int} {v : Value} {W : World} (side : Int) (h : Tn D X v W) (hr : InR side) (hD : RI D) (hX : RI X) (hl : D.length ≤ 10) :
    Calls Tryd.prog 9 #[v, .int .i64 side] W fun e w' => ∃ u, e = .returned (.tuple #[u, .int .i64 (smE D X side)]) ∧ Tn (smD D X side) (smV D X side) u w' ∧ Below W.heap.size W w' := by
  obtain ⟨p, n, c, p2, n2, c2, rfl, h1, h2⟩ := h
  obtain ⟨_, _, _, e4, HD⟩ := h1.lst
  cases e4
  exact sum_any _ _ _ _ _ _ D X side hr hD hX (by rw [← HD.out.1]; exact hl) W h1 h2
theorem new_tn {d : List Int} {v : Int} {u : Value} {W : World} {N : Nat} (hu : LitN d u W) (hd : RI d) (hg : goodN (ntl d)) (hN : prodN (ntl d) = N) :
    Calls Tryd.prog 6 #[u, .int .i64 v] W fun e w' => ∃ u, e = .returned u ∧ TRes w' W.heap.size u d (List.replicate N v) ∧ Below W.heap.size W w' := by
  obtain ⟨g, rfl, h⟩ := hu
  refine (rnew_any _ d hd hg v W h).mono ?_
  rintro e w' ⟨u, rfl, hu, hb⟩
  rw [hN] at hu
  exact ⟨_, rfl, hu.res, hb⟩
set_option maxRecDepth 8000 in
set_option maxHeartbeats 8000000 in
theorem malike_walk (w : World) (hT : Hid (Tz w)) (v N : Int) (hv : -9223372036854775808 ≤ v ∧ v ≤ 9223372036854775807) (hN : -9223372036854775808 ≤ N ∧ N ≤ 9223372036854775807) :
    Calls Tryd.prog 3 #[.int .i64 v, .int .i64 N] w fun e w' => e = .returned (.bool true) ∧ Below w.heap.size w w' := by
  haveI : Nonempty World := ⟨w⟩
  go_enter Tryd.func3, Tryd.ntmps3
  go_wp2_with fail
  have HB_w : Hid (Below w.heap.size w w) := Below.refl _ _
  refine (awake7_any w (hT)).mono ?_
  rintro e wa ⟨rfl, hBa⟩
  have HB_wa : Hid (Below w.heap.size w wa) := bstep HB_w.out hBa
  clear hBa
  rcases (Decidable.em (1 ≤ N)).symm with h1 | h1
  · have h1' : N < 1 := by omega
    go_wp2
    go_ret
    exact ⟨rfl, HB_wa.out⟩
  rcases (Decidable.em (N ≤ 200)).symm with h2 | h2
  · have h2' : 200 < N := by omega
    go_wp2
    go_ret
    exact ⟨rfl, HB_wa.out⟩
  obtain ⟨m, rfl⟩ := Int.eq_ofNat_of_zero_le (show 0 ≤ N by omega)
  have HV : Hid (InR v ∧ 1 ≤ m ∧ m ≤ 200) := ⟨hv, by omega, by omega⟩
  have A1 := al_mean (m := m) HV.out.1 HV.out.2.1 (by omega)
  have A2 := al_all HV.out.1
  have A3 := al_sum (m := m) HV.out.1 HV.out.2.1 (by omega)
  obtain ⟨X, eX⟩ : ∃ X, List.replicate m v = X := ⟨_, rfl⟩
  obtain ⟨X1, eX1⟩ : ∃ X, List.replicate 1 v = X := ⟨_, rfl⟩
  rw [eX] at A1 A3
  rw [eX1] at A2
  have HX : Hid (List.replicate m v = X ∧ RI X ∧ Few X ∧ List.replicate 1 v = X1 ∧ RI X1) := ⟨eX, by rw [← eX]; exact RI_rep HV.out.1 m, by rw [← eX]; show _ ≤ _; rw [List.length_replicate]; omega, eX1, by rw [← eX1]; exact RI_rep HV.out.1 1⟩
  clear eX eX1
  go_wp2_with fail
  generalize hK1 : World.alloc _ _ = K1
  have hL1 : Below wa.heap.size wa K1 := by rw [← hK1]; exact up_alloc wa _
  have l1 : LitN [(m : Int)] (.slice (some ⟨wa.heap.size, 0, none⟩) 1 1) K1 := ⟨_, rfl, by rw [← hK1]; exact nums_lit (k := .i64) wa [(m : Int)] 1 (0, 0) rfl⟩
  have HB_K1 : Hid (Below w.heap.size w K1) := bstep HB_wa.out hL1
  have cn := new_tn (v := v) (N := m) l1 (RI_one1 (by omega)) (by rw [show ntl [(m : Int)] = [m] from ntl_itl [m]]; exact ⟨by simp, fun y hy => by simp at hy; omega, by simp [prodN]; omega⟩) (by rw [show ntl [(m : Int)] = [m] from ntl_itl [m]]; simp [prodN])
  rw [HX.out.1] at cn
  clear hK1 hL1 l1
  refine (cn).mono ?_
  rintro e w1 ⟨v1, rfl, ⟨s1, t1, rfl, hs1, ht1⟩, hB1⟩
  obtain ⟨ps1, ns1, cs1, rfl, _⟩ := hs1.nums.lst
  obtain ⟨pt1, nt1, ct1, rfl, _⟩ := ht1.nums.lst
  have HB_w1 : Hid (Below w.heap.size w w1) := bstep HB_K1.out hB1
  have T1_v0 : Hid (TnC [(m : Int)] X (.agg #[.slice ps1 ns1 cs1, .slice pt1 nt1 ct1]) w1) := ⟨_, _, _, _, _, _, rfl, hs1.nums, ht1.nums, ht1.cap⟩
  clear hB1 hs1 ht1
  go_wp2_with fail
  generalize hW1 : World.alloc _ _ = W1
  have hC1 : Below w1.heap.size w1 W1 := by rw [← hW1]; exact up_alloc w1 _
  have HB_W1 : Hid (Below w.heap.size w W1) := bstep HB_w1.out hC1
  have T1_v1 : Hid (TnC [(m : Int)] X (.agg #[.slice ps1 ns1 cs1, .slice pt1 nt1 ct1]) W1) := T1_v0.out.up hC1
  clear T1_v0
  have X1_v1 : Hid (Cel W1 w1.heap.size (.slice ps1 ns1 cs1) (.slice pt1 nt1 ct1)) := by show Cel _ _ _ _; unfold Cel; rw [← hW1]; simp [go_sem]
  clear hW1 hC1 
  clear cn
  have cm := mean_tn T1_v1.out.tn (RI_one1 (by omega)) HX.out.2.1
  rw [A1.1, A1.2] at cm
  obtain ⟨x10, x11, _, _⟩ := X1_v1.out
  have x1z := cell_lt x10
  go_wp2_with fail
  refine (cm).mono ?_
  rintro e wm ⟨rfl, hBwm⟩
  have HB_wm : Hid (Below w.heap.size w wm) := bstep HB_W1.out hBwm
  have T1_v2 : Hid (TnC [(m : Int)] X (.agg #[.slice ps1 ns1 cs1, .slice pt1 nt1 ct1]) wm) := T1_v1.out.up hBwm
  have X1_v2 : Hid (Cel wm w1.heap.size (.slice ps1 ns1 cs1) (.slice pt1 nt1 ct1)) := X1_v1.out.up hBwm
  clear T1_v1 X1_v1
  clear hBwm x10 x11 x1z
  clear cm
  obtain ⟨x10, x11, _, _⟩ := X1_v2.out
  have x1z := cell_lt x10
  go_wp2_with fail
  generalize hK2 : World.alloc _ _ = K2
  have hL2 : Below wm.heap.size wm K2 := by rw [← hK2]; exact up_alloc wm _
  have l2 : LitN [(1 : Int)] (.slice (some ⟨wm.heap.size, 0, none⟩) 1 1) K2 := ⟨_, rfl, by rw [← hK2]; exact nums_lit (k := .i64) wm [(1 : Int)] 1 (0, 0) rfl⟩
  have HB_K2 : Hid (Below w.heap.size w K2) := bstep HB_wm.out hL2
  have T1_v3 : Hid (TnC [(m : Int)] X (.agg #[.slice ps1 ns1 cs1, .slice pt1 nt1 ct1]) K2) := T1_v2.out.up hL2
  have X1_v3 : Hid (Cel K2 w1.heap.size (.slice ps1 ns1 cs1) (.slice pt1 nt1 ct1)) := X1_v2.out.up hL2
  clear T1_v2 X1_v2
  have cn := new_tn (v := v) (N := 1) l2 (RI_kern (by decide +kernel)) (by decide) (by decide)
  rw [HX.out.2.2.2.1] at cn
  clear hK2 hL2 l2 x10 x11 x1z
  refine (cn).mono ?_
  rintro e w2 ⟨v2, rfl, ⟨s2, t2, rfl, hs2, ht2⟩, hB2⟩
  obtain ⟨ps2, ns2, cs2, rfl, _⟩ := hs2.nums.lst
  obtain ⟨pt2, nt2, ct2, rfl, _⟩ := ht2.nums.lst
  have HB_w2 : Hid (Below w.heap.size w w2) := bstep HB_K2.out hB2
  have T1_v4 : Hid (TnC [(m : Int)] X (.agg #[.slice ps1 ns1 cs1, .slice pt1 nt1 ct1]) w2) := T1_v3.out.up hB2
  have X1_v4 : Hid (Cel w2 w1.heap.size (.slice ps1 ns1 cs1) (.slice pt1 nt1 ct1)) := X1_v3.out.up hB2
  clear T1_v3 X1_v3
  have T2_v4 : Hid (TnC [1] X1 (.agg #[.slice ps2 ns2 cs2, .slice pt2 nt2 ct2]) w2) := ⟨_, _, _, _, _, _, rfl, hs2.nums, ht2.nums, ht2.cap⟩
  clear hB2 hs2 ht2
  clear cn
  have cm := all_tn T2_v4.out.tn (RI_kern (by decide +kernel)) HX.out.2.2.2.2
  rw [A2.1, A2.2] at cm
  obtain ⟨x10, x11, _, _⟩ := X1_v4.out
  have x1z := cell_lt x10
  go_wp2_with fail
  refine (cm).mono ?_
  rintro e wn ⟨rfl, hBwn⟩
  have HB_wn : Hid (Below w.heap.size w wn) := bstep HB_w2.out hBwn
  have T1_v5 : Hid (TnC [(m : Int)] X (.agg #[.slice ps1 ns1 cs1, .slice pt1 nt1 ct1]) wn) := T1_v4.out.up hBwn
  have X1_v5 : Hid (Cel wn w1.heap.size (.slice ps1 ns1 cs1) (.slice pt1 nt1 ct1)) := X1_v4.out.up hBwn
  have T2_v5 : Hid (TnC [1] X1 (.agg #[.slice ps2 ns2 cs2, .slice pt2 nt2 ct2]) wn) := T2_v4.out.up hBwn
  clear T1_v4 X1_v4 T2_v4
  clear hBwn x10 x11 x1z
  clear cm
  obtain ⟨x10, x11, _, _⟩ := X1_v5.out
  have x1z := cell_lt x10
  go_wp2_with fail
  generalize hK3 : World.alloc _ _ = K3
  have hL3 : Below wn.heap.size wn K3 := by rw [← hK3]; exact up_alloc wn _
  have l3 : LitN [1, (m : Int)] (.slice (some ⟨wn.heap.size, 0, none⟩) 2 2) K3 := ⟨_, rfl, by rw [← hK3]; exact nums_lit (k := .i64) wn [1, (m : Int)] 2 (0, 0) rfl⟩
  have HB_K3 : Hid (Below w.heap.size w K3) := bstep HB_wn.out hL3
  have T1_v6 : Hid (TnC [(m : Int)] X (.agg #[.slice ps1 ns1 cs1, .slice pt1 nt1 ct1]) K3) := T1_v5.out.up hL3
  have X1_v6 : Hid (Cel K3 w1.heap.size (.slice ps1 ns1 cs1) (.slice pt1 nt1 ct1)) := X1_v5.out.up hL3
  have T2_v6 : Hid (TnC [1] X1 (.agg #[.slice ps2 ns2 cs2, .slice pt2 nt2 ct2]) K3) := T2_v5.out.up hL3
  clear T1_v5 X1_v5 T2_v5
  have cn := new_tn (v := v) (N := m) l3 (RI_two (a := 1) (by omega) (by omega)) (good_two (D0 := 1).2 ⟨by omega, by omega, by omega⟩) (by rw [show ntl [1, (m : Int)] = [1, m] from ntl_itl [1, m]]; simp [prodN])
  rw [HX.out.1] at cn
  clear hK3 hL3 l3 x10 x11 x1z
  refine (cn).mono ?_
  rintro e w3 ⟨v3, rfl, ⟨s3, t3, rfl, hs3, ht3⟩, hB3⟩
  obtain ⟨ps3, ns3, cs3, rfl, _⟩ := hs3.nums.lst
  obtain ⟨pt3, nt3, ct3, rfl, _⟩ := ht3.nums.lst
  have HB_w3 : Hid (Below w.heap.size w w3) := bstep HB_K3.out hB3
  have T1_v7 : Hid (TnC [(m : Int)] X (.agg #[.slice ps1 ns1 cs1, .slice pt1 nt1 ct1]) w3) := T1_v6.out.up hB3
  have X1_v7 : Hid (Cel w3 w1.heap.size (.slice ps1 ns1 cs1) (.slice pt1 nt1 ct1)) := X1_v6.out.up hB3
  have T2_v7 : Hid (TnC [1] X1 (.agg #[.slice ps2 ns2 cs2, .slice pt2 nt2 ct2]) w3) := T2_v6.out.up hB3
  clear T1_v6 X1_v6 T2_v6
  have T3_v7 : Hid (TnC [1, (m : Int)] X (.agg #[.slice ps3 ns3 cs3, .slice pt3 nt3 ct3]) w3) := ⟨_, _, _, _, _, _, rfl, hs3.nums, ht3.nums, ht3.cap⟩
  clear hB3 hs3 ht3
  clear cn
  have cm := sum_tn 0 T3_v7.out.tn (by unfold InR; omega) (RI_two (a := 1) (by omega) (by omega)) HX.out.2.1 (by simp)
  rw [A3.1, A3.2.1, A3.2.2] at cm
  obtain ⟨x10, x11, _, _⟩ := X1_v7.out
  have x1z := cell_lt x10
  go_wp2_with fail
  refine (cm).mono ?_
  rintro e w4 ⟨v4, rfl, ⟨ps4, ns4, cs4, pt4, nt4, ct4, rfl, hs4, ht4⟩, hB4⟩
  have HB_w4 : Hid (Below w.heap.size w w4) := bstep HB_w3.out hB4
  have T1_v8 : Hid (TnC [(m : Int)] X (.agg #[.slice ps1 ns1 cs1, .slice pt1 nt1 ct1]) w4) := T1_v7.out.up hB4
  have X1_v8 : Hid (Cel w4 w1.heap.size (.slice ps1 ns1 cs1) (.slice pt1 nt1 ct1)) := X1_v7.out.up hB4
  have T2_v8 : Hid (TnC [1] X1 (.agg #[.slice ps2 ns2 cs2, .slice pt2 nt2 ct2]) w4) := T2_v7.out.up hB4
  have T3_v8 : Hid (TnC [1, (m : Int)] X (.agg #[.slice ps3 ns3 cs3, .slice pt3 nt3 ct3]) w4) := T3_v7.out.up hB4
  clear T1_v7 X1_v7 T2_v7 T3_v7
  have T4_v8 : Hid (Tn [(m : Int)] X (.agg #[.slice ps4 ns4 cs4, .slice pt4 nt4 ct4]) w4) := ⟨_, _, _, _, _, _, rfl, hs4, ht4⟩
  clear hB4 hs4 ht4 x10 x11 x1z
  clear cm
  obtain ⟨x10, x11, _, _⟩ := X1_v8.out
  have x1z := cell_lt x10
  go_wp2_with fail
  generalize hW4 : World.alloc _ _ = W4
  have hC4 : Below w4.heap.size w4 W4 := by rw [← hW4]; exact up_alloc w4 _
  have HB_W4 : Hid (Below w.heap.size w W4) := bstep HB_w4.out hC4
  have T1_v9 : Hid (TnC [(m : Int)] X (.agg #[.slice ps1 ns1 cs1, .slice pt1 nt1 ct1]) W4) := T1_v8.out.up hC4
  have X1_v9 : Hid (Cel W4 w1.heap.size (.slice ps1 ns1 cs1) (.slice pt1 nt1 ct1)) := X1_v8.out.up hC4
  have T2_v9 : Hid (TnC [1] X1 (.agg #[.slice ps2 ns2 cs2, .slice pt2 nt2 ct2]) W4) := T2_v8.out.up hC4
  have T3_v9 : Hid (TnC [1, (m : Int)] X (.agg #[.slice ps3 ns3 cs3, .slice pt3 nt3 ct3]) W4) := T3_v8.out.up hC4
  have T4_v9 : Hid (Tn [(m : Int)] X (.agg #[.slice ps4 ns4 cs4, .slice pt4 nt4 ct4]) W4) := T4_v8.out.up hC4
  clear T1_v8 X1_v8 T2_v8 T3_v8 T4_v8
  have X4_v9 : Hid (Cel W4 w4.heap.size (.slice ps4 ns4 cs4) (.slice pt4 nt4 ct4)) := by show Cel _ _ _ _; unfold Cel; rw [← hW4]; simp [go_sem]
  clear hW4 hC4 x10 x11 x1z
  have ca := alike_tn T4_v9.out T1_v9.out.tn (by unfold Few; simp) HX.out.2.2.1
  rw [decide_eq_true ⟨rfl, rfl⟩] at ca
  obtain ⟨x10, x11, _, _⟩ := X1_v9.out
  have x1z := cell_lt x10
  obtain ⟨x40, x41, _, _⟩ := X4_v9.out
  have x4z := cell_lt x40
  go_wp2_with fail
  refine (ca).mono ?_
  rintro e wz ⟨rfl, hBwz⟩
  have HB_wz : Hid (Below w.heap.size w wz) := bstep HB_W4.out hBwz
  have T1_v10 : Hid (TnC [(m : Int)] X (.agg #[.slice ps1 ns1 cs1, .slice pt1 nt1 ct1]) wz) := T1_v9.out.up hBwz
  have X1_v10 : Hid (Cel wz w1.heap.size (.slice ps1 ns1 cs1) (.slice pt1 nt1 ct1)) := X1_v9.out.up hBwz
  have T2_v10 : Hid (TnC [1] X1 (.agg #[.slice ps2 ns2 cs2, .slice pt2 nt2 ct2]) wz) := T2_v9.out.up hBwz
  have T3_v10 : Hid (TnC [1, (m : Int)] X (.agg #[.slice ps3 ns3 cs3, .slice pt3 nt3 ct3]) wz) := T3_v9.out.up hBwz
  have T4_v10 : Hid (Tn [(m : Int)] X (.agg #[.slice ps4 ns4 cs4, .slice pt4 nt4 ct4]) wz) := T4_v9.out.up hBwz
  have X4_v10 : Hid (Cel wz w4.heap.size (.slice ps4 ns4 cs4) (.slice pt4 nt4 ct4)) := X4_v9.out.up hBwz
  clear T1_v9 X1_v9 T2_v9 T3_v9 T4_v9 X4_v9
  clear hBwz x10 x11 x1z x40 x41 x4z
  go_wp2
  go_ret
  exact ⟨rfl, HB_wz.out⟩
end Go.Proofs.YthcfeiddbffcfabDoor.Wd
