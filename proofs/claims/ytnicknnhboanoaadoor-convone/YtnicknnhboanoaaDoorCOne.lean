/- ConvOne: a window of one number, One, at a step of 1, changes nothing; a gradient comes back through it as it is. -/
import Derived.Test.YtnicknnhboanoaaDoorCvL
namespace Go.Proofs.YtnicknnhboanoaaDoor.Wd
open Go.RowKit Fx
set_option linter.unusedVariables false
set_option linter.unusedSimpArgs false
theorem isP_row {x : List Int} {n : Nat} (h : x.length = n) (h1 : 1 ≤ n) (h2 : n ≤ 4096) : isP [1, (n : Int)] x := by
  have e : prodN [1, n] = n := by simp [prodN]
  have en : ntl [1, (n : Int)] = [1, n] := ntl_itl [1, n]
  unfold isP
  rw [en, e]
  exact ⟨⟨by simp, fun y hy => by simp at hy; omega, by rw [e]; exact h2⟩, h⟩
theorem isP_win {x : List Int} {n : Nat} (h : x.length = n) (h1 : 1 ≤ n) (h2 : n ≤ 4096) : isP [1, 1, (n : Int)] x := by
  have e : prodN [1, 1, n] = n := by simp [prodN]
  have en : ntl [1, 1, (n : Int)] = [1, 1, n] := ntl_itl [1, 1, n]
  unfold isP
  rw [en, e]
  exact ⟨⟨by simp, fun y hy => by simp at hy; omega, by rw [e]; exact h2⟩, h⟩
theorem good_row {n : Nat} (h1 : 1 ≤ n) (h2 : n ≤ 4096) : goodN (ntl [1, (n : Int)]) := (good_two (D0 := 1) (D1 := n)).2 ⟨by omega, h1, by omega⟩
theorem one_row {x : List Int} {n : Nat} (hx : RI x) (h : x.length = n) (h1 : 1 ≤ n) (h2 : n ≤ 100) : rwE [1, (n : Int)] x [1, 1, 1] [4294967296] 1 = 0 ∧ rwD [1, (n : Int)] x [1, 1, 1] [4294967296] 1 = [1, (n : Int)] ∧ rwV [1, (n : Int)] x [1, 1, 1] [4294967296] 1 = x ∧ biE [1, (n : Int)] x [1, 1, 1] [4294967296] 1 (n : Int) = 0 ∧ biD [1, (n : Int)] x [1, 1, 1] [4294967296] 1 (n : Int) = [1, (n : Int)] ∧ biV [1, (n : Int)] x [1, 1, 1] [4294967296] 1 (n : Int) = x := by
  have hg := good_row h1 (by omega : n ≤ 4096)
  have hS : stopsN n 1 1 = n := by unfold stopsN; rw [Nat.div_one]; omega
  have hk : isP [1, 1, 1] [4294967296] := isP_win (n := 1) rfl (by omega) (by omega)
  obtain ⟨e1, e2, e3⟩ := rw_fine (R := 1) (L := n) (O := 1) (wd := 1) (st := 1) (x := x) (y := [4294967296]) ⟨isP_row h h1 (by omega), hk, by omega, by omega⟩ h1 hS
  obtain ⟨e4, e5, e6⟩ := bi_fine (R := 1) (L := n) (O := 1) (wd := 1) (st := 1) (x := x) (y := [4294967296]) ⟨isP_row h h1 (by omega), hk, ⟨by omega, by omega⟩, by omega, by omega⟩ h1 hS
  rw [show gatE [((1 : Nat) : Int), (n : Int)] = 0 from if_pos hg] at e1 e4
  rw [show newD [((1 : Nat) : Int), (n : Int)] = [1, (n : Int)] from if_pos hg] at e2 e5
  rw [show (if goodN (ntl [((1 : Nat) : Int), (n : Int)]) then convV 1 n 1 1 n 1 x [4294967296] else []) = x from (if_pos hg).trans (conv_one h hx)] at e3
  rw [show (if goodN (ntl [((1 : Nat) : Int), (n : Int)]) then gradV 1 1 n 1 1 n x [4294967296] else []) = x from (if_pos hg).trans (back_one h hx)] at e6
  exact ⟨e1, e2, e3, e4, e5, e6⟩
set_option maxRecDepth 8000 in
set_option maxHeartbeats 8000000 in
theorem cone_walk (w : World) (hT : Hid (Tz w)) (za : Nat → Int) (n c : Nat) (p : Option Addr) (r1 : RowN .i64 w p n c za) :
    Calls Tryd.prog 7 #[.slice p n c] w fun e w' => e = .returned (.bool true) ∧ Below w.heap.size w w' := by
  have HA : Hid (Nums .i64 w (.slice p n c) (nlst n za)) := r1.nums
  have HI : Hid (RI (nlst n za) ∧ (nlst n za).length = n ∧ n ≤ c) := ⟨r1.riI, nlst_len _ _, r1.1.1⟩
  have hfew : (n : Int) ≤ 9223372036854775807 := by have := r1.few; unfold Few at this; rw [nlst_len] at this; omega
  obtain ⟨x, ex⟩ : ∃ x, nlst n za = x := ⟨_, rfl⟩
  rw [ex] at HA HI
  clear ex r1
  haveI : Nonempty World := ⟨w⟩
  go_enter Tryd.func7, Tryd.ntmps7
  go_wp2_with fail
  have HB_w : Hid (Below w.heap.size w w) := Below.refl _ _
  refine (awake8_any w (hT)).mono ?_
  rintro e wa ⟨rfl, hBa⟩
  have HB_wa : Hid (Below w.heap.size w wa) := bstep HB_w.out hBa
  clear hBa
  by_cases hn1 : n < 1
  · obtain rfl : n = 0 := by omega
    go_wp2
    go_ret
    exact ⟨rfl, HB_wa.out⟩
  by_cases hn2 : 100 < n
  · have hn2' : (100 : Int) < (n : Int) := by omega
    have hn1' : ¬ ((n : Int) < 1) := by omega
    go_wp2
    go_ret
    exact ⟨rfl, HB_wa.out⟩
  have hb1 : 1 ≤ (n : Int) ∧ (n : Int) ≤ 100 := by omega
  have hb2 : ¬ ((n : Int) < 1) := by omega
  have hb3 : ¬ (100 : Int) < (n : Int) := by omega
  go_wp2_with fail
  refine (rows_any 1 n x p n c (by omega) (by rw [HI.out.2.1]; omega) HI.out.2.2 (by rw [HI.out.2.1, Nat.div_one]) wa (HA.out.up HB_wa.out)).mono ?_
  rintro e w1 ⟨v1, rfl, ⟨ps1, ns1, cs1, pt1, nt1, ct1, rfl, hs1, ht1, hk1⟩, hB1⟩
  have HB_w1 : Hid (Below w.heap.size w w1) := bstep HB_wa.out hB1
  have T1_v0 : Hid (TnC [1, (n : Int)] x (.agg #[.slice ps1 ns1 cs1, .slice pt1 nt1 ct1]) w1) := ⟨_, _, _, _, _, _, rfl, hs1, ht1, hk1⟩
  clear hs1 ht1 hk1 hB1
  go_wp2_with fail
  generalize hK2 : World.alloc _ _ = K2
  have hL2 : Below w1.heap.size w1 K2 := by rw [← hK2]; exact up_alloc w1 _
  have l2 : LitN [4294967296] (.slice (some ⟨w1.heap.size, 0, none⟩) 1 1) K2 := ⟨_, rfl, by rw [← hK2]; exact nums_lit (k := .i64) w1 [4294967296] 1 (0, 0) rfl⟩
  have HB_K2 : Hid (Below w.heap.size w K2) := bstep HB_w1.out hL2
  have T1_v1 : Hid (TnC [1, (n : Int)] x (.agg #[.slice ps1 ns1 cs1, .slice pt1 nt1 ct1]) K2) := T1_v0.out.up hL2
  clear T1_v0
  refine (windows_lit 1 1 1 _ _ (by omega) (by omega) (by simp) rfl K2 l2).mono ?_
  rintro e w3 ⟨v3, rfl, ⟨ps3, ns3, cs3, pt3, nt3, ct3, rfl, hs3, ht3, hk3⟩, hB3⟩
  have HB_w3 : Hid (Below w.heap.size w w3) := bstep HB_K2.out hB3
  have T1_v2 : Hid (TnC [1, (n : Int)] x (.agg #[.slice ps1 ns1 cs1, .slice pt1 nt1 ct1]) w3) := T1_v1.out.up hB3
  clear T1_v1
  have T3_v2 : Hid (TnC [1, 1, 1] [4294967296] (.agg #[.slice ps3 ns3 cs3, .slice pt3 nt3 ct3]) w3) := ⟨_, _, _, _, _, _, rfl, hs3, ht3, hk3⟩
  clear hs3 ht3 hk3 hB3 hK2 hL2 l2
  go_wp2_with fail
  generalize hW4 : World.alloc _ _ = W4
  have hL4 : Below w3.heap.size w3 W4 := by rw [← hW4]; exact bstep (up_alloc w3 _) (up_alloc _ _)
  have HB_W4 : Hid (Below w.heap.size w W4) := bstep HB_w3.out hL4
  have T1_v3 : Hid (TnC [1, (n : Int)] x (.agg #[.slice ps1 ns1 cs1, .slice pt1 nt1 ct1]) W4) := T1_v2.out.up hL4
  have T3_v3 : Hid (TnC [1, 1, 1] [4294967296] (.agg #[.slice ps3 ns3 cs3, .slice pt3 nt3 ct3]) W4) := T3_v2.out.up hL4
  clear T1_v2 T3_v2
  have X1_v3 : Hid (Cel W4 w3.heap.size (.slice ps1 ns1 cs1) (.slice pt1 nt1 ct1)) := by show Cel _ _ _ _; unfold Cel; rw [← hW4]; simp [go_sem]
  have X3_v3 : Hid (Cel W4 (w3.heap.size + 1) (.slice ps3 ns3 cs3) (.slice pt3 nt3 ct3)) := by show Cel _ _ _ _; unfold Cel; rw [← hW4]; simp [go_sem]
  clear hW4 hL4
  obtain ⟨o1, o2, o3, o4, o5, o6⟩ := one_row HI.out.1 HI.out.2.1 (by omega) (by omega)
  have HR : Hid (RI [1, (n : Int)] ∧ RI [1, 1, 1] ∧ RI [4294967296]) := ⟨fun q hq => by simp at hq; omega, RI_kern (by decide +kernel), RI_kern (by decide +kernel)⟩
  have HF : Hid (Few [1, (n : Int)] ∧ Few x) := ⟨by unfold Few; simp, by unfold Few; rw [HI.out.2.1]; omega⟩
  have cm := row_tn 1 T1_v3.out.tn T3_v3.out.tn HR.out.1 HI.out.1 HR.out.2.1 HR.out.2.2 (Hid.up_tz hT HB_W4.out)
  rw [o1, o2, o3] at cm
  refine (cm).mono ?_
  rintro e w5 ⟨v5, rfl, ⟨s5, t5, rfl, hs5, ht5⟩, hB5⟩
  obtain ⟨ps5, ns5, cs5, rfl, _⟩ := hs5.nums.lst
  obtain ⟨pt5, nt5, ct5, rfl, _⟩ := ht5.nums.lst
  have HB_w5 : Hid (Below w.heap.size w w5) := bstep HB_W4.out hB5
  have T1_v4 : Hid (TnC [1, (n : Int)] x (.agg #[.slice ps1 ns1 cs1, .slice pt1 nt1 ct1]) w5) := T1_v3.out.up hB5
  have T3_v4 : Hid (TnC [1, 1, 1] [4294967296] (.agg #[.slice ps3 ns3 cs3, .slice pt3 nt3 ct3]) w5) := T3_v3.out.up hB5
  have X1_v4 : Hid (Cel w5 w3.heap.size (.slice ps1 ns1 cs1) (.slice pt1 nt1 ct1)) := X1_v3.out.up hB5
  have X3_v4 : Hid (Cel w5 (w3.heap.size + 1) (.slice ps3 ns3 cs3) (.slice pt3 nt3 ct3)) := X3_v3.out.up hB5
  clear T1_v3 T3_v3 X1_v3 X3_v3
  have T5_v4 : Hid (TnC [1, (n : Int)] x (.agg #[.slice ps5 ns5 cs5, .slice pt5 nt5 ct5]) w5) := ⟨_, _, _, _, _, _, rfl, hs5.nums, ht5.nums, ht5.cap⟩
  clear hB5 hs5 ht5 
  obtain ⟨x10, x11, _, _⟩ := X1_v4.out
  have x1z := cell_lt x10
  obtain ⟨x30, x31, _, _⟩ := X3_v4.out
  have x3z := cell_lt x30
  go_wp2_with fail
  generalize hW5 : World.alloc _ _ = W5
  have hC5 : Below w5.heap.size w5 W5 := by rw [← hW5]; exact up_alloc w5 _
  have HB_W5 : Hid (Below w.heap.size w W5) := bstep HB_w5.out hC5
  have T1_v5 : Hid (TnC [1, (n : Int)] x (.agg #[.slice ps1 ns1 cs1, .slice pt1 nt1 ct1]) W5) := T1_v4.out.up hC5
  have T3_v5 : Hid (TnC [1, 1, 1] [4294967296] (.agg #[.slice ps3 ns3 cs3, .slice pt3 nt3 ct3]) W5) := T3_v4.out.up hC5
  have X1_v5 : Hid (Cel W5 w3.heap.size (.slice ps1 ns1 cs1) (.slice pt1 nt1 ct1)) := X1_v4.out.up hC5
  have X3_v5 : Hid (Cel W5 (w3.heap.size + 1) (.slice ps3 ns3 cs3) (.slice pt3 nt3 ct3)) := X3_v4.out.up hC5
  have T5_v5 : Hid (TnC [1, (n : Int)] x (.agg #[.slice ps5 ns5 cs5, .slice pt5 nt5 ct5]) W5) := T5_v4.out.up hC5
  clear T1_v4 T3_v4 X1_v4 X3_v4 T5_v4
  have X5_v5 : Hid (Cel W5 w5.heap.size (.slice ps5 ns5 cs5) (.slice pt5 nt5 ct5)) := by show Cel _ _ _ _; unfold Cel; rw [← hW5]; simp [go_sem]
  clear hW5 hC5 x10 x11 x1z x30 x31 x3z
  clear cm
  have cm := in_tn 1 (n : Int) T1_v5.out.tn T3_v5.out.tn HR.out.1 HI.out.1 HR.out.2.1 HR.out.2.2 (Hid.up_tz hT HB_W5.out)
  rw [o4, o5, o6] at cm
  obtain ⟨x10, x11, _, _⟩ := X1_v5.out
  have x1z := cell_lt x10
  obtain ⟨x30, x31, _, _⟩ := X3_v5.out
  have x3z := cell_lt x30
  obtain ⟨x50, x51, _, _⟩ := X5_v5.out
  have x5z := cell_lt x50
  go_wp2_with fail
  refine (cm).mono ?_
  rintro e w6 ⟨v6, rfl, ⟨s6, t6, rfl, hs6, ht6⟩, hB6⟩
  obtain ⟨ps6, ns6, cs6, rfl, _⟩ := hs6.nums.lst
  obtain ⟨pt6, nt6, ct6, rfl, _⟩ := ht6.nums.lst
  have HB_w6 : Hid (Below w.heap.size w w6) := bstep HB_W5.out hB6
  have T1_v6 : Hid (TnC [1, (n : Int)] x (.agg #[.slice ps1 ns1 cs1, .slice pt1 nt1 ct1]) w6) := T1_v5.out.up hB6
  have T3_v6 : Hid (TnC [1, 1, 1] [4294967296] (.agg #[.slice ps3 ns3 cs3, .slice pt3 nt3 ct3]) w6) := T3_v5.out.up hB6
  have X1_v6 : Hid (Cel w6 w3.heap.size (.slice ps1 ns1 cs1) (.slice pt1 nt1 ct1)) := X1_v5.out.up hB6
  have X3_v6 : Hid (Cel w6 (w3.heap.size + 1) (.slice ps3 ns3 cs3) (.slice pt3 nt3 ct3)) := X3_v5.out.up hB6
  have T5_v6 : Hid (TnC [1, (n : Int)] x (.agg #[.slice ps5 ns5 cs5, .slice pt5 nt5 ct5]) w6) := T5_v5.out.up hB6
  have X5_v6 : Hid (Cel w6 w5.heap.size (.slice ps5 ns5 cs5) (.slice pt5 nt5 ct5)) := X5_v5.out.up hB6
  clear T1_v5 T3_v5 X1_v5 X3_v5 T5_v5 X5_v5
  have T6_v6 : Hid (TnC [1, (n : Int)] x (.agg #[.slice ps6 ns6 cs6, .slice pt6 nt6 ct6]) w6) := ⟨_, _, _, _, _, _, rfl, hs6.nums, ht6.nums, ht6.cap⟩
  clear hB6 hs6 ht6 x10 x11 x1z x30 x31 x3z x50 x51 x5z
  obtain ⟨x10, x11, _, _⟩ := X1_v6.out
  have x1z := cell_lt x10
  obtain ⟨x30, x31, _, _⟩ := X3_v6.out
  have x3z := cell_lt x30
  obtain ⟨x50, x51, _, _⟩ := X5_v6.out
  have x5z := cell_lt x50
  go_wp2_with fail
  generalize hW6 : World.alloc _ _ = W6
  have hC6 : Below w6.heap.size w6 W6 := by rw [← hW6]; exact up_alloc w6 _
  have HB_W6 : Hid (Below w.heap.size w W6) := bstep HB_w6.out hC6
  have T1_v7 : Hid (TnC [1, (n : Int)] x (.agg #[.slice ps1 ns1 cs1, .slice pt1 nt1 ct1]) W6) := T1_v6.out.up hC6
  have T3_v7 : Hid (TnC [1, 1, 1] [4294967296] (.agg #[.slice ps3 ns3 cs3, .slice pt3 nt3 ct3]) W6) := T3_v6.out.up hC6
  have X1_v7 : Hid (Cel W6 w3.heap.size (.slice ps1 ns1 cs1) (.slice pt1 nt1 ct1)) := X1_v6.out.up hC6
  have X3_v7 : Hid (Cel W6 (w3.heap.size + 1) (.slice ps3 ns3 cs3) (.slice pt3 nt3 ct3)) := X3_v6.out.up hC6
  have T5_v7 : Hid (TnC [1, (n : Int)] x (.agg #[.slice ps5 ns5 cs5, .slice pt5 nt5 ct5]) W6) := T5_v6.out.up hC6
  have X5_v7 : Hid (Cel W6 w5.heap.size (.slice ps5 ns5 cs5) (.slice pt5 nt5 ct5)) := X5_v6.out.up hC6
  have T6_v7 : Hid (TnC [1, (n : Int)] x (.agg #[.slice ps6 ns6 cs6, .slice pt6 nt6 ct6]) W6) := T6_v6.out.up hC6
  clear T1_v6 T3_v6 X1_v6 X3_v6 T5_v6 X5_v6 T6_v6
  have X6_v7 : Hid (Cel W6 w6.heap.size (.slice ps6 ns6 cs6) (.slice pt6 nt6 ct6)) := by show Cel _ _ _ _; unfold Cel; rw [← hW6]; simp [go_sem]
  clear hW6 hC6 x10 x11 x1z x30 x31 x3z x50 x51 x5z
  clear cm
  have ca := alike_tn T5_v7.out.tn T1_v7.out.tn HF.out.1 HF.out.2
  rw [decide_eq_true ⟨rfl, rfl⟩] at ca
  obtain ⟨x10, x11, _, _⟩ := X1_v7.out
  have x1z := cell_lt x10
  obtain ⟨x30, x31, _, _⟩ := X3_v7.out
  have x3z := cell_lt x30
  obtain ⟨x50, x51, _, _⟩ := X5_v7.out
  have x5z := cell_lt x50
  obtain ⟨x60, x61, _, _⟩ := X6_v7.out
  have x6z := cell_lt x60
  go_wp2_with fail
  refine (ca).mono ?_
  rintro e wy ⟨rfl, hBwy⟩
  have HB_wy : Hid (Below w.heap.size w wy) := bstep HB_W6.out hBwy
  have T1_v8 : Hid (TnC [1, (n : Int)] x (.agg #[.slice ps1 ns1 cs1, .slice pt1 nt1 ct1]) wy) := T1_v7.out.up hBwy
  have T3_v8 : Hid (TnC [1, 1, 1] [4294967296] (.agg #[.slice ps3 ns3 cs3, .slice pt3 nt3 ct3]) wy) := T3_v7.out.up hBwy
  have X1_v8 : Hid (Cel wy w3.heap.size (.slice ps1 ns1 cs1) (.slice pt1 nt1 ct1)) := X1_v7.out.up hBwy
  have X3_v8 : Hid (Cel wy (w3.heap.size + 1) (.slice ps3 ns3 cs3) (.slice pt3 nt3 ct3)) := X3_v7.out.up hBwy
  have T5_v8 : Hid (TnC [1, (n : Int)] x (.agg #[.slice ps5 ns5 cs5, .slice pt5 nt5 ct5]) wy) := T5_v7.out.up hBwy
  have X5_v8 : Hid (Cel wy w5.heap.size (.slice ps5 ns5 cs5) (.slice pt5 nt5 ct5)) := X5_v7.out.up hBwy
  have T6_v8 : Hid (TnC [1, (n : Int)] x (.agg #[.slice ps6 ns6 cs6, .slice pt6 nt6 ct6]) wy) := T6_v7.out.up hBwy
  have X6_v8 : Hid (Cel wy w6.heap.size (.slice ps6 ns6 cs6) (.slice pt6 nt6 ct6)) := X6_v7.out.up hBwy
  clear T1_v7 T3_v7 X1_v7 X3_v7 T5_v7 X5_v7 T6_v7 X6_v7
  clear hBwy x10 x11 x1z x30 x31 x3z x50 x51 x5z x60 x61 x6z
  clear ca
  have ca := alike_tn T6_v8.out.tn T1_v8.out.tn HF.out.1 HF.out.2
  rw [decide_eq_true ⟨rfl, rfl⟩] at ca
  obtain ⟨x10, x11, _, _⟩ := X1_v8.out
  have x1z := cell_lt x10
  obtain ⟨x30, x31, _, _⟩ := X3_v8.out
  have x3z := cell_lt x30
  obtain ⟨x50, x51, _, _⟩ := X5_v8.out
  have x5z := cell_lt x50
  obtain ⟨x60, x61, _, _⟩ := X6_v8.out
  have x6z := cell_lt x60
  go_wp2_with fail
  refine (ca).mono ?_
  rintro e wz ⟨rfl, hBwz⟩
  have HB_wz : Hid (Below w.heap.size w wz) := bstep HB_wy.out hBwz
  have T1_v9 : Hid (TnC [1, (n : Int)] x (.agg #[.slice ps1 ns1 cs1, .slice pt1 nt1 ct1]) wz) := T1_v8.out.up hBwz
  have T3_v9 : Hid (TnC [1, 1, 1] [4294967296] (.agg #[.slice ps3 ns3 cs3, .slice pt3 nt3 ct3]) wz) := T3_v8.out.up hBwz
  have X1_v9 : Hid (Cel wz w3.heap.size (.slice ps1 ns1 cs1) (.slice pt1 nt1 ct1)) := X1_v8.out.up hBwz
  have X3_v9 : Hid (Cel wz (w3.heap.size + 1) (.slice ps3 ns3 cs3) (.slice pt3 nt3 ct3)) := X3_v8.out.up hBwz
  have T5_v9 : Hid (TnC [1, (n : Int)] x (.agg #[.slice ps5 ns5 cs5, .slice pt5 nt5 ct5]) wz) := T5_v8.out.up hBwz
  have X5_v9 : Hid (Cel wz w5.heap.size (.slice ps5 ns5 cs5) (.slice pt5 nt5 ct5)) := X5_v8.out.up hBwz
  have T6_v9 : Hid (TnC [1, (n : Int)] x (.agg #[.slice ps6 ns6 cs6, .slice pt6 nt6 ct6]) wz) := T6_v8.out.up hBwz
  have X6_v9 : Hid (Cel wz w6.heap.size (.slice ps6 ns6 cs6) (.slice pt6 nt6 ct6)) := X6_v8.out.up hBwz
  clear T1_v8 T3_v8 X1_v8 X3_v8 T5_v8 X5_v8 T6_v8 X6_v8
  clear hBwz x10 x11 x1z x30 x31 x3z x50 x51 x5z x60 x61 x6z
  go_wp2
  go_ret
  exact ⟨rfl, HB_wz.out⟩
end Go.Proofs.YtnicknnhboanoaaDoor.Wd
