/- TensOrder: sums and products are the same the other way round. -/
import Derived.Test.YtbndiadgnglkhabTenM
namespace Go.Proofs.Ytbndiadgnglkhab.Wd
open Go.RowKit
set_option linter.unusedVariables false
set_option linter.unusedSimpArgs false
theorem fitsB_swap (a b : List Nat) : fitsB a b = fitsB b a := by
  have h := (fitsB_iff a b).trans ((fitsN_comm a b).trans (fitsB_iff b a).symm)
  cases h1 : fitsB a b <;> cases h2 : fitsB b a <;> simp [h1, h2] at h ⊢
theorem joinL_swap (a b : List Int) : joinL a b = joinL b a := by
  unfold joinL
  rw [joinN_comm (ntl b), fitsB_swap (ntl b)]
  by_cases h : goodN (ntl a) ∧ goodN (ntl b) ∧ fitsB (ntl a) (ntl b) = true ∧ goodN (joinN (ntl a) (ntl b))
  · rw [if_pos h, if_pos ⟨h.2.1, h.1, h.2.2⟩]
  · rw [if_neg h, if_neg (fun h' => h ⟨h'.2.1, h'.1, h'.2.2⟩)]
theorem joinE_swap (a b : List Int) : joinE a b = joinE b a := by
  unfold joinE
  rw [joinN_comm (ntl b), fitsB_swap (ntl b)]
  by_cases h : goodN (ntl a) ∧ goodN (ntl b)
  · rw [if_pos h, if_pos h.symm]
  · rw [if_neg h, if_neg fun h' => h h'.symm]
theorem each_swap (op : Int → Int → Int) (hc : ∀ a b, op a b = op b a) (d x d' y : List Int) : eachE d' y d x = eachE d x d' y ∧ eachD d' y d x = eachD d x d' y ∧ eachV op d' y d x = eachV op d x d' y := by
  unfold eachE eachD eachV
  rw [joinE_swap d' d, joinL_swap d' d]
  by_cases h : isP d x ∧ isP d' y
  · have h2 : isP d' y ∧ isP d x := ⟨h.2, h.1⟩
    rw [if_pos h, if_pos h2, if_pos h, if_pos h2]
    refine ⟨rfl, rfl, ?_⟩
    by_cases hE : joinE d d' = 0
    · have h3 : (isP d x ∧ isP d' y) ∧ joinE d d' = 0 := ⟨h, hE⟩
      have h4 : (isP d' y ∧ isP d x) ∧ joinE d d' = 0 := ⟨h2, hE⟩
      rw [if_pos h3, if_pos h4]
      refine List.map_congr_left fun i _ => ?_
      exact hc _ _
    · have h3 : ¬ ((isP d x ∧ isP d' y) ∧ joinE d d' = 0) := fun h' => hE h'.2
      have h4 : ¬ ((isP d' y ∧ isP d x) ∧ joinE d d' = 0) := fun h' => hE h'.2
      rw [if_neg h3, if_neg h4]
  · have h2 : ¬ (isP d' y ∧ isP d x) := fun h' => h ⟨h'.2, h'.1⟩
    have h3 : ¬ ((isP d x ∧ isP d' y) ∧ joinE d d' = 0) := fun h' => h h'.1
    have h4 : ¬ ((isP d' y ∧ isP d x) ∧ joinE d d' = 0) := fun h' => h2 h'.1
    rw [if_neg h, if_neg h2, if_neg h, if_neg h2, if_neg h3, if_neg h4]
    exact ⟨rfl, rfl, rfl⟩
theorem each_fewO (op : Int → Int → Int) (d x d' y : List Int) : Few (eachD d x d' y) ∧ Few (eachV op d x d' y) := by
  unfold Few eachD eachV
  constructor
  · split
    · have := joinL_len d d'; omega
    · simp
  · split
    · rename_i h
      have h0 := joinE_zero h.2
      have h1 := (join_fine h0.1 h0.2.1 h0.2.2.1 h0.2.2.2).1
      rw [itl_ntl h0.1.2.1, itl_ntl h0.2.1.2.1] at h1
      rw [List.length_map, List.length_range, h1, ntl_itl]
      have := h0.2.2.2.2.2
      omega
    · simp
set_option maxRecDepth 8000 in
set_option maxHeartbeats 8000000 in
theorem torder_walk (w : World) (za : Nat → Int) (n c : Nat) (p : Option Addr) (zb : Nat → Int) (n2 c2 : Nat) (p2 : Option Addr) (zc : Nat → Int) (n3 c3 : Nat) (p3 : Option Addr) (zd : Nat → Int) (n4 c4 : Nat) (p4 : Option Addr)
    (r1 : RowN .i64 w p n c za) (r2 : RowN .i64 w p2 n2 c2 zb) (r3 : RowN .i64 w p3 n3 c3 zc) (r4 : RowN .i64 w p4 n4 c4 zd) :
    Calls Try.prog 4 #[.agg #[.slice p n c, .slice p2 n2 c2], .agg #[.slice p3 n3 c3, .slice p4 n4 c4]] w fun e w' => e = .returned (.bool true) ∧ Below w.heap.size w w' := by
  have HA : Hid (Nums .i64 w (.slice p n c) (nlst n za) ∧ Nums .i64 w (.slice p2 n2 c2) (nlst n2 zb) ∧ Nums .i64 w (.slice p3 n3 c3) (nlst n3 zc) ∧ Nums .i64 w (.slice p4 n4 c4) (nlst n4 zd)) := ⟨r1.nums, r2.nums, r3.nums, r4.nums⟩
  have HI : Hid (RI (nlst n za) ∧ RI (nlst n2 zb) ∧ RI (nlst n3 zc) ∧ RI (nlst n4 zd)) := ⟨r1.riI, r2.riI, r3.riI, r4.riI⟩
  obtain ⟨d, ed⟩ : ∃ d, nlst n za = d := ⟨_, rfl⟩
  obtain ⟨x, ex⟩ : ∃ x, nlst n2 zb = x := ⟨_, rfl⟩
  obtain ⟨d', ed'⟩ : ∃ d, nlst n3 zc = d := ⟨_, rfl⟩
  obtain ⟨y, ey⟩ : ∃ y, nlst n4 zd = y := ⟨_, rfl⟩
  rw [ed, ex, ed', ey] at HA HI
  clear ed ex ed' ey r1 r2 r3 r4
  obtain ⟨E, eE⟩ : ∃ E, eachE d x d' y = E := ⟨_, rfl⟩
  obtain ⟨D, eD⟩ : ∃ D, eachD d x d' y = D := ⟨_, rfl⟩
  obtain ⟨Va, eVa⟩ : ∃ V, eachV (fun a b => Fx.hold (a + b)) d x d' y = V := ⟨_, rfl⟩
  obtain ⟨Vc, eVc⟩ : ∃ V, eachV Fx.mulI d x d' y = V := ⟨_, rfl⟩
  have sa := each_swap (fun a b => Fx.hold (a + b)) (fun a b => by rw [Int.add_comm]) d x d' y
  have sc := each_swap Fx.mulI Fx.mulI_comm d x d' y
  have HFw : Hid (Few D ∧ Few Va ∧ Few Vc) := ⟨by rw [← eD]; exact (each_fewO Fx.mulI d x d' y).1, by rw [← eVa]; exact (each_fewO _ d x d' y).2, by rw [← eVc]; exact (each_fewO _ d x d' y).2⟩
  have k1 : Hid (∀ W, Below w.heap.size w W → Calls Try.prog 9 #[.agg #[.slice p n c, .slice p2 n2 c2], .agg #[.slice p3 n3 c3, .slice p4 n4 c4]] W fun e w' => ∃ v', e = .returned (.tuple #[v', .int .i64 E]) ∧ TRes w' W.heap.size v' D Va ∧ Below W.heap.size W w') := fun W hW => by
    rw [← eE, ← eD, ← eVa]
    exact tadd_any p p2 p3 p4 n c n2 c2 n3 c3 n4 c4 d x d' y HI.out.1 HI.out.2.1 HI.out.2.2.1 HI.out.2.2.2 W (HA.out.1.up hW) (HA.out.2.1.up hW) (HA.out.2.2.1.up hW) (HA.out.2.2.2.up hW)
  have k2 : Hid (∀ W, Below w.heap.size w W → Calls Try.prog 9 #[.agg #[.slice p3 n3 c3, .slice p4 n4 c4], .agg #[.slice p n c, .slice p2 n2 c2]] W fun e w' => ∃ v', e = .returned (.tuple #[v', .int .i64 E]) ∧ TRes w' W.heap.size v' D Va ∧ Below W.heap.size W w') := fun W hW => by
    rw [← eE, ← eD, ← eVa, ← sa.1, ← sa.2.1, ← sa.2.2]
    exact tadd_any p3 p4 p p2 n3 c3 n4 c4 n c n2 c2 d' y d x HI.out.2.2.1 HI.out.2.2.2 HI.out.1 HI.out.2.1 W (HA.out.2.2.1.up hW) (HA.out.2.2.2.up hW) (HA.out.1.up hW) (HA.out.2.1.up hW)
  have k3 : Hid (∀ W, Below w.heap.size w W → Calls Try.prog 10 #[.agg #[.slice p n c, .slice p2 n2 c2], .agg #[.slice p3 n3 c3, .slice p4 n4 c4]] W fun e w' => ∃ v', e = .returned (.tuple #[v', .int .i64 E]) ∧ TRes w' W.heap.size v' D Vc ∧ Below W.heap.size W w') := fun W hW => by
    rw [← eE, ← eD, ← eVc]
    exact tmul_any p p2 p3 p4 n c n2 c2 n3 c3 n4 c4 d x d' y HI.out.1 HI.out.2.1 HI.out.2.2.1 HI.out.2.2.2 W (HA.out.1.up hW) (HA.out.2.1.up hW) (HA.out.2.2.1.up hW) (HA.out.2.2.2.up hW)
  have k4 : Hid (∀ W, Below w.heap.size w W → Calls Try.prog 10 #[.agg #[.slice p3 n3 c3, .slice p4 n4 c4], .agg #[.slice p n c, .slice p2 n2 c2]] W fun e w' => ∃ v', e = .returned (.tuple #[v', .int .i64 E]) ∧ TRes w' W.heap.size v' D Vc ∧ Below W.heap.size W w') := fun W hW => by
    rw [← eE, ← eD, ← eVc, ← sc.1, ← sc.2.1, ← sc.2.2]
    exact tmul_any p3 p4 p p2 n3 c3 n4 c4 n c n2 c2 d' y d x HI.out.2.2.1 HI.out.2.2.2 HI.out.1 HI.out.2.1 W (HA.out.2.2.1.up hW) (HA.out.2.2.2.up hW) (HA.out.1.up hW) (HA.out.2.1.up hW)
  clear eE eD eVa eVc sa sc
  haveI : Nonempty World := ⟨w⟩
  go_enter Try.func4, Try.ntmps4
  go_wp2_with fail
  generalize hW0 : World.alloc _ _ = W0
  have HB_W0 : Hid (Below w.heap.size w W0) := by show Below _ _ _; rw [← hW0]; go_grown
  have XA_v0 : Hid (Cel W0 w.heap.size (.slice p n c) (.slice p2 n2 c2)) := by show Cel _ _ _ _; unfold Cel; rw [← hW0]; simp [go_sem]
  have XB_v0 : Hid (Cel W0 (w.heap.size + 1) (.slice p3 n3 c3) (.slice p4 n4 c4)) := by show Cel _ _ _ _; unfold Cel; rw [← hW0]; simp [go_sem]
  clear hW0
  refine (tawake_any W0).mono ?_
  rintro e wa ⟨rfl, hBa⟩
  have HB_wa : Hid (Below w.heap.size w wa) := bstep HB_W0.out hBa
  have XA_v1 : Hid (Cel wa w.heap.size (.slice p n c) (.slice p2 n2 c2)) := XA_v0.out.up hBa
  have XB_v1 : Hid (Cel wa (w.heap.size + 1) (.slice p3 n3 c3) (.slice p4 n4 c4)) := XB_v0.out.up hBa
  clear XA_v0 XB_v0
  clear hBa
  have cg := great_any p p2 n c n2 c2 200 (by decide) wa
  by_cases hga : 10 < n ∨ 200 < n2
  · rw [decide_eq_true hga] at cg
    obtain ⟨xa0, xa1, _, _⟩ := XA_v1.out
    have xaz := cell_lt xa0
    obtain ⟨xb0, xb1, _, _⟩ := XB_v1.out
    have xbz := cell_lt xb0
    go_wp2_with fail
    refine (cg).mono ?_
    rintro e wb ⟨rfl, hBwb⟩
    have HB_wb : Hid (Below w.heap.size w wb) := bstep HB_wa.out hBwb
    have XA_v2 : Hid (Cel wb w.heap.size (.slice p n c) (.slice p2 n2 c2)) := XA_v1.out.up hBwb
    have XB_v2 : Hid (Cel wb (w.heap.size + 1) (.slice p3 n3 c3) (.slice p4 n4 c4)) := XB_v1.out.up hBwb
    clear XA_v1 XB_v1
    clear hBwb xa0 xa1 xaz xb0 xb1 xbz
    go_wp2
    go_ret
    exact ⟨rfl, HB_wb.out⟩
  rw [decide_eq_false hga] at cg
  obtain ⟨xa0, xa1, _, _⟩ := XA_v1.out
  have xaz := cell_lt xa0
  obtain ⟨xb0, xb1, _, _⟩ := XB_v1.out
  have xbz := cell_lt xb0
  go_wp2_with fail
  refine (cg).mono ?_
  rintro e wb ⟨rfl, hBwb⟩
  have HB_wb : Hid (Below w.heap.size w wb) := bstep HB_wa.out hBwb
  have XA_v2 : Hid (Cel wb w.heap.size (.slice p n c) (.slice p2 n2 c2)) := XA_v1.out.up hBwb
  have XB_v2 : Hid (Cel wb (w.heap.size + 1) (.slice p3 n3 c3) (.slice p4 n4 c4)) := XB_v1.out.up hBwb
  clear XA_v1 XB_v1
  clear hBwb xa0 xa1 xaz xb0 xb1 xbz
  clear cg hga
  have cg := great_any p3 p4 n3 c3 n4 c4 200 (by decide) wb
  by_cases hga : 10 < n3 ∨ 200 < n4
  · rw [decide_eq_true hga] at cg
    obtain ⟨xa0, xa1, _, _⟩ := XA_v2.out
    have xaz := cell_lt xa0
    obtain ⟨xb0, xb1, _, _⟩ := XB_v2.out
    have xbz := cell_lt xb0
    go_wp2_with fail
    refine (cg).mono ?_
    rintro e wc ⟨rfl, hBwc⟩
    have HB_wc : Hid (Below w.heap.size w wc) := bstep HB_wb.out hBwc
    have XA_v3 : Hid (Cel wc w.heap.size (.slice p n c) (.slice p2 n2 c2)) := XA_v2.out.up hBwc
    have XB_v3 : Hid (Cel wc (w.heap.size + 1) (.slice p3 n3 c3) (.slice p4 n4 c4)) := XB_v2.out.up hBwc
    clear XA_v2 XB_v2
    clear hBwc xa0 xa1 xaz xb0 xb1 xbz
    go_wp2
    go_ret
    exact ⟨rfl, HB_wc.out⟩
  rw [decide_eq_false hga] at cg
  obtain ⟨xa0, xa1, _, _⟩ := XA_v2.out
  have xaz := cell_lt xa0
  obtain ⟨xb0, xb1, _, _⟩ := XB_v2.out
  have xbz := cell_lt xb0
  go_wp2_with fail
  refine (cg).mono ?_
  rintro e wc ⟨rfl, hBwc⟩
  have HB_wc : Hid (Below w.heap.size w wc) := bstep HB_wb.out hBwc
  have XA_v3 : Hid (Cel wc w.heap.size (.slice p n c) (.slice p2 n2 c2)) := XA_v2.out.up hBwc
  have XB_v3 : Hid (Cel wc (w.heap.size + 1) (.slice p3 n3 c3) (.slice p4 n4 c4)) := XB_v2.out.up hBwc
  clear XA_v2 XB_v2
  clear hBwc xa0 xa1 xaz xb0 xb1 xbz
  clear cg hga
  obtain ⟨xa0, xa1, _, _⟩ := XA_v3.out
  have xaz := cell_lt xa0
  obtain ⟨xb0, xb1, _, _⟩ := XB_v3.out
  have xbz := cell_lt xb0
  go_wp2_with fail
  refine (k1.out wc HB_wc.out).mono ?_
  rintro e w1 ⟨v1, rfl, ⟨s1, t1, rfl, hs1, ht1⟩, hB1⟩
  obtain ⟨ps1, ns1, cs1, rfl, _⟩ := hs1.nums.lst
  obtain ⟨pt1, nt1, ct1, rfl, _⟩ := ht1.nums.lst
  have HB_w1 : Hid (Below w.heap.size w w1) := bstep HB_wc.out hB1
  have XA_v4 : Hid (Cel w1 w.heap.size (.slice p n c) (.slice p2 n2 c2)) := XA_v3.out.up hB1
  have XB_v4 : Hid (Cel w1 (w.heap.size + 1) (.slice p3 n3 c3) (.slice p4 n4 c4)) := XB_v3.out.up hB1
  clear XA_v3 XB_v3
  have T1_v4 : Hid (Tn D Va (.agg #[.slice ps1 ns1 cs1, .slice pt1 nt1 ct1]) w1) := ⟨_, _, _, _, _, _, rfl, hs1.nums, ht1.nums⟩
  clear hB1 hs1 ht1 xa0 xa1 xaz xb0 xb1 xbz
  obtain ⟨xa0, xa1, _, _⟩ := XA_v4.out
  have xaz := cell_lt xa0
  obtain ⟨xb0, xb1, _, _⟩ := XB_v4.out
  have xbz := cell_lt xb0
  go_wp2_with fail
  generalize hW1 : World.alloc _ _ = W1
  have hC1 : Below w1.heap.size w1 W1 := by rw [← hW1]; exact up_alloc w1 _
  have HB_W1 : Hid (Below w.heap.size w W1) := bstep HB_w1.out hC1
  have XA_v5 : Hid (Cel W1 w.heap.size (.slice p n c) (.slice p2 n2 c2)) := XA_v4.out.up hC1
  have XB_v5 : Hid (Cel W1 (w.heap.size + 1) (.slice p3 n3 c3) (.slice p4 n4 c4)) := XB_v4.out.up hC1
  have T1_v5 : Hid (Tn D Va (.agg #[.slice ps1 ns1 cs1, .slice pt1 nt1 ct1]) W1) := T1_v4.out.up hC1
  clear XA_v4 XB_v4 T1_v4
  have X1_v5 : Hid (Cel W1 w1.heap.size (.slice ps1 ns1 cs1) (.slice pt1 nt1 ct1)) := by show Cel _ _ _ _; unfold Cel; rw [← hW1]; simp [go_sem]
  clear hW1 hC1 xa0 xa1 xaz xb0 xb1 xbz
  refine (k2.out W1 HB_W1.out).mono ?_
  rintro e w2 ⟨v2, rfl, ⟨s2, t2, rfl, hs2, ht2⟩, hB2⟩
  obtain ⟨ps2, ns2, cs2, rfl, _⟩ := hs2.nums.lst
  obtain ⟨pt2, nt2, ct2, rfl, _⟩ := ht2.nums.lst
  have HB_w2 : Hid (Below w.heap.size w w2) := bstep HB_W1.out hB2
  have XA_v6 : Hid (Cel w2 w.heap.size (.slice p n c) (.slice p2 n2 c2)) := XA_v5.out.up hB2
  have XB_v6 : Hid (Cel w2 (w.heap.size + 1) (.slice p3 n3 c3) (.slice p4 n4 c4)) := XB_v5.out.up hB2
  have T1_v6 : Hid (Tn D Va (.agg #[.slice ps1 ns1 cs1, .slice pt1 nt1 ct1]) w2) := T1_v5.out.up hB2
  have X1_v6 : Hid (Cel w2 w1.heap.size (.slice ps1 ns1 cs1) (.slice pt1 nt1 ct1)) := X1_v5.out.up hB2
  clear XA_v5 XB_v5 T1_v5 X1_v5
  have T2_v6 : Hid (Tn D Va (.agg #[.slice ps2 ns2 cs2, .slice pt2 nt2 ct2]) w2) := ⟨_, _, _, _, _, _, rfl, hs2.nums, ht2.nums⟩
  clear hB2 hs2 ht2 
  obtain ⟨xa0, xa1, _, _⟩ := XA_v6.out
  have xaz := cell_lt xa0
  obtain ⟨xb0, xb1, _, _⟩ := XB_v6.out
  have xbz := cell_lt xb0
  go_wp2_with fail
  generalize hW2 : World.alloc _ _ = W2
  have hC2 : Below w2.heap.size w2 W2 := by rw [← hW2]; exact up_alloc w2 _
  have HB_W2 : Hid (Below w.heap.size w W2) := bstep HB_w2.out hC2
  have XA_v7 : Hid (Cel W2 w.heap.size (.slice p n c) (.slice p2 n2 c2)) := XA_v6.out.up hC2
  have XB_v7 : Hid (Cel W2 (w.heap.size + 1) (.slice p3 n3 c3) (.slice p4 n4 c4)) := XB_v6.out.up hC2
  have T1_v7 : Hid (Tn D Va (.agg #[.slice ps1 ns1 cs1, .slice pt1 nt1 ct1]) W2) := T1_v6.out.up hC2
  have X1_v7 : Hid (Cel W2 w1.heap.size (.slice ps1 ns1 cs1) (.slice pt1 nt1 ct1)) := X1_v6.out.up hC2
  have T2_v7 : Hid (Tn D Va (.agg #[.slice ps2 ns2 cs2, .slice pt2 nt2 ct2]) W2) := T2_v6.out.up hC2
  clear XA_v6 XB_v6 T1_v6 X1_v6 T2_v6
  have X2_v7 : Hid (Cel W2 w2.heap.size (.slice ps2 ns2 cs2) (.slice pt2 nt2 ct2)) := by show Cel _ _ _ _; unfold Cel; rw [← hW2]; simp [go_sem]
  clear hW2 hC2 xa0 xa1 xaz xb0 xb1 xbz
  refine (k3.out W2 HB_W2.out).mono ?_
  rintro e w3 ⟨v3, rfl, ⟨s3, t3, rfl, hs3, ht3⟩, hB3⟩
  obtain ⟨ps3, ns3, cs3, rfl, _⟩ := hs3.nums.lst
  obtain ⟨pt3, nt3, ct3, rfl, _⟩ := ht3.nums.lst
  have HB_w3 : Hid (Below w.heap.size w w3) := bstep HB_W2.out hB3
  have XA_v8 : Hid (Cel w3 w.heap.size (.slice p n c) (.slice p2 n2 c2)) := XA_v7.out.up hB3
  have XB_v8 : Hid (Cel w3 (w.heap.size + 1) (.slice p3 n3 c3) (.slice p4 n4 c4)) := XB_v7.out.up hB3
  have T1_v8 : Hid (Tn D Va (.agg #[.slice ps1 ns1 cs1, .slice pt1 nt1 ct1]) w3) := T1_v7.out.up hB3
  have X1_v8 : Hid (Cel w3 w1.heap.size (.slice ps1 ns1 cs1) (.slice pt1 nt1 ct1)) := X1_v7.out.up hB3
  have T2_v8 : Hid (Tn D Va (.agg #[.slice ps2 ns2 cs2, .slice pt2 nt2 ct2]) w3) := T2_v7.out.up hB3
  have X2_v8 : Hid (Cel w3 w2.heap.size (.slice ps2 ns2 cs2) (.slice pt2 nt2 ct2)) := X2_v7.out.up hB3
  clear XA_v7 XB_v7 T1_v7 X1_v7 T2_v7 X2_v7
  have T3_v8 : Hid (Tn D Vc (.agg #[.slice ps3 ns3 cs3, .slice pt3 nt3 ct3]) w3) := ⟨_, _, _, _, _, _, rfl, hs3.nums, ht3.nums⟩
  clear hB3 hs3 ht3 
  obtain ⟨xa0, xa1, _, _⟩ := XA_v8.out
  have xaz := cell_lt xa0
  obtain ⟨xb0, xb1, _, _⟩ := XB_v8.out
  have xbz := cell_lt xb0
  go_wp2_with fail
  generalize hW3 : World.alloc _ _ = W3
  have hC3 : Below w3.heap.size w3 W3 := by rw [← hW3]; exact up_alloc w3 _
  have HB_W3 : Hid (Below w.heap.size w W3) := bstep HB_w3.out hC3
  have XA_v9 : Hid (Cel W3 w.heap.size (.slice p n c) (.slice p2 n2 c2)) := XA_v8.out.up hC3
  have XB_v9 : Hid (Cel W3 (w.heap.size + 1) (.slice p3 n3 c3) (.slice p4 n4 c4)) := XB_v8.out.up hC3
  have T1_v9 : Hid (Tn D Va (.agg #[.slice ps1 ns1 cs1, .slice pt1 nt1 ct1]) W3) := T1_v8.out.up hC3
  have X1_v9 : Hid (Cel W3 w1.heap.size (.slice ps1 ns1 cs1) (.slice pt1 nt1 ct1)) := X1_v8.out.up hC3
  have T2_v9 : Hid (Tn D Va (.agg #[.slice ps2 ns2 cs2, .slice pt2 nt2 ct2]) W3) := T2_v8.out.up hC3
  have X2_v9 : Hid (Cel W3 w2.heap.size (.slice ps2 ns2 cs2) (.slice pt2 nt2 ct2)) := X2_v8.out.up hC3
  have T3_v9 : Hid (Tn D Vc (.agg #[.slice ps3 ns3 cs3, .slice pt3 nt3 ct3]) W3) := T3_v8.out.up hC3
  clear XA_v8 XB_v8 T1_v8 X1_v8 T2_v8 X2_v8 T3_v8
  have X3_v9 : Hid (Cel W3 w3.heap.size (.slice ps3 ns3 cs3) (.slice pt3 nt3 ct3)) := by show Cel _ _ _ _; unfold Cel; rw [← hW3]; simp [go_sem]
  clear hW3 hC3 xa0 xa1 xaz xb0 xb1 xbz
  refine (k4.out W3 HB_W3.out).mono ?_
  rintro e w4 ⟨v4, rfl, ⟨s4, t4, rfl, hs4, ht4⟩, hB4⟩
  obtain ⟨ps4, ns4, cs4, rfl, _⟩ := hs4.nums.lst
  obtain ⟨pt4, nt4, ct4, rfl, _⟩ := ht4.nums.lst
  have HB_w4 : Hid (Below w.heap.size w w4) := bstep HB_W3.out hB4
  have XA_v10 : Hid (Cel w4 w.heap.size (.slice p n c) (.slice p2 n2 c2)) := XA_v9.out.up hB4
  have XB_v10 : Hid (Cel w4 (w.heap.size + 1) (.slice p3 n3 c3) (.slice p4 n4 c4)) := XB_v9.out.up hB4
  have T1_v10 : Hid (Tn D Va (.agg #[.slice ps1 ns1 cs1, .slice pt1 nt1 ct1]) w4) := T1_v9.out.up hB4
  have X1_v10 : Hid (Cel w4 w1.heap.size (.slice ps1 ns1 cs1) (.slice pt1 nt1 ct1)) := X1_v9.out.up hB4
  have T2_v10 : Hid (Tn D Va (.agg #[.slice ps2 ns2 cs2, .slice pt2 nt2 ct2]) w4) := T2_v9.out.up hB4
  have X2_v10 : Hid (Cel w4 w2.heap.size (.slice ps2 ns2 cs2) (.slice pt2 nt2 ct2)) := X2_v9.out.up hB4
  have T3_v10 : Hid (Tn D Vc (.agg #[.slice ps3 ns3 cs3, .slice pt3 nt3 ct3]) w4) := T3_v9.out.up hB4
  have X3_v10 : Hid (Cel w4 w3.heap.size (.slice ps3 ns3 cs3) (.slice pt3 nt3 ct3)) := X3_v9.out.up hB4
  clear XA_v9 XB_v9 T1_v9 X1_v9 T2_v9 X2_v9 T3_v9 X3_v9
  have T4_v10 : Hid (Tn D Vc (.agg #[.slice ps4 ns4 cs4, .slice pt4 nt4 ct4]) w4) := ⟨_, _, _, _, _, _, rfl, hs4.nums, ht4.nums⟩
  clear hB4 hs4 ht4 
  obtain ⟨xa0, xa1, _, _⟩ := XA_v10.out
  have xaz := cell_lt xa0
  obtain ⟨xb0, xb1, _, _⟩ := XB_v10.out
  have xbz := cell_lt xb0
  obtain ⟨x10, x11, _, _⟩ := X1_v10.out
  have x1z := cell_lt x10
  obtain ⟨x20, x21, _, _⟩ := X2_v10.out
  have x2z := cell_lt x20
  obtain ⟨x30, x31, _, _⟩ := X3_v10.out
  have x3z := cell_lt x30
  go_wp2_with fail
  generalize hW4 : World.alloc _ _ = W4
  have hC4 : Below w4.heap.size w4 W4 := by rw [← hW4]; exact up_alloc w4 _
  have HB_W4 : Hid (Below w.heap.size w W4) := bstep HB_w4.out hC4
  have XA_v11 : Hid (Cel W4 w.heap.size (.slice p n c) (.slice p2 n2 c2)) := XA_v10.out.up hC4
  have XB_v11 : Hid (Cel W4 (w.heap.size + 1) (.slice p3 n3 c3) (.slice p4 n4 c4)) := XB_v10.out.up hC4
  have T1_v11 : Hid (Tn D Va (.agg #[.slice ps1 ns1 cs1, .slice pt1 nt1 ct1]) W4) := T1_v10.out.up hC4
  have X1_v11 : Hid (Cel W4 w1.heap.size (.slice ps1 ns1 cs1) (.slice pt1 nt1 ct1)) := X1_v10.out.up hC4
  have T2_v11 : Hid (Tn D Va (.agg #[.slice ps2 ns2 cs2, .slice pt2 nt2 ct2]) W4) := T2_v10.out.up hC4
  have X2_v11 : Hid (Cel W4 w2.heap.size (.slice ps2 ns2 cs2) (.slice pt2 nt2 ct2)) := X2_v10.out.up hC4
  have T3_v11 : Hid (Tn D Vc (.agg #[.slice ps3 ns3 cs3, .slice pt3 nt3 ct3]) W4) := T3_v10.out.up hC4
  have X3_v11 : Hid (Cel W4 w3.heap.size (.slice ps3 ns3 cs3) (.slice pt3 nt3 ct3)) := X3_v10.out.up hC4
  have T4_v11 : Hid (Tn D Vc (.agg #[.slice ps4 ns4 cs4, .slice pt4 nt4 ct4]) W4) := T4_v10.out.up hC4
  clear XA_v10 XB_v10 T1_v10 X1_v10 T2_v10 X2_v10 T3_v10 X3_v10 T4_v10
  have X4_v11 : Hid (Cel W4 w4.heap.size (.slice ps4 ns4 cs4) (.slice pt4 nt4 ct4)) := by show Cel _ _ _ _; unfold Cel; rw [← hW4]; simp [go_sem]
  clear hW4 hC4 xa0 xa1 xaz xb0 xb1 xbz x10 x11 x1z x20 x21 x2z x30 x31 x3z
  have l0 := same_tn T1_v11.out T2_v11.out HFw.out.1 HFw.out.2.1
  rw [decide_eq_true ⟨rfl, rfl⟩] at l0
  refine l0.mono ?_
  rintro e y0 ⟨rfl, hY0⟩
  have HB_y0 : Hid (Below w.heap.size w y0) := bstep HB_W4.out hY0
  have XA_v12 : Hid (Cel y0 w.heap.size (.slice p n c) (.slice p2 n2 c2)) := XA_v11.out.up hY0
  have XB_v12 : Hid (Cel y0 (w.heap.size + 1) (.slice p3 n3 c3) (.slice p4 n4 c4)) := XB_v11.out.up hY0
  have T1_v12 : Hid (Tn D Va (.agg #[.slice ps1 ns1 cs1, .slice pt1 nt1 ct1]) y0) := T1_v11.out.up hY0
  have X1_v12 : Hid (Cel y0 w1.heap.size (.slice ps1 ns1 cs1) (.slice pt1 nt1 ct1)) := X1_v11.out.up hY0
  have T2_v12 : Hid (Tn D Va (.agg #[.slice ps2 ns2 cs2, .slice pt2 nt2 ct2]) y0) := T2_v11.out.up hY0
  have X2_v12 : Hid (Cel y0 w2.heap.size (.slice ps2 ns2 cs2) (.slice pt2 nt2 ct2)) := X2_v11.out.up hY0
  have T3_v12 : Hid (Tn D Vc (.agg #[.slice ps3 ns3 cs3, .slice pt3 nt3 ct3]) y0) := T3_v11.out.up hY0
  have X3_v12 : Hid (Cel y0 w3.heap.size (.slice ps3 ns3 cs3) (.slice pt3 nt3 ct3)) := X3_v11.out.up hY0
  have T4_v12 : Hid (Tn D Vc (.agg #[.slice ps4 ns4 cs4, .slice pt4 nt4 ct4]) y0) := T4_v11.out.up hY0
  have X4_v12 : Hid (Cel y0 w4.heap.size (.slice ps4 ns4 cs4) (.slice pt4 nt4 ct4)) := X4_v11.out.up hY0
  clear XA_v11 XB_v11 T1_v11 X1_v11 T2_v11 X2_v11 T3_v11 X3_v11 T4_v11 X4_v11
  clear l0 hY0 
  have l1 := same_tn T3_v12.out T4_v12.out HFw.out.1 HFw.out.2.2
  rw [decide_eq_true ⟨rfl, rfl⟩] at l1
  obtain ⟨x30, x31, _, _⟩ := X3_v12.out
  have x3z := cell_lt x30
  obtain ⟨x40, x41, _, _⟩ := X4_v12.out
  have x4z := cell_lt x40
  go_wp2_with fail
  refine l1.mono ?_
  rintro e y1 ⟨rfl, hY1⟩
  have HB_y1 : Hid (Below w.heap.size w y1) := bstep HB_y0.out hY1
  have XA_v13 : Hid (Cel y1 w.heap.size (.slice p n c) (.slice p2 n2 c2)) := XA_v12.out.up hY1
  have XB_v13 : Hid (Cel y1 (w.heap.size + 1) (.slice p3 n3 c3) (.slice p4 n4 c4)) := XB_v12.out.up hY1
  have T1_v13 : Hid (Tn D Va (.agg #[.slice ps1 ns1 cs1, .slice pt1 nt1 ct1]) y1) := T1_v12.out.up hY1
  have X1_v13 : Hid (Cel y1 w1.heap.size (.slice ps1 ns1 cs1) (.slice pt1 nt1 ct1)) := X1_v12.out.up hY1
  have T2_v13 : Hid (Tn D Va (.agg #[.slice ps2 ns2 cs2, .slice pt2 nt2 ct2]) y1) := T2_v12.out.up hY1
  have X2_v13 : Hid (Cel y1 w2.heap.size (.slice ps2 ns2 cs2) (.slice pt2 nt2 ct2)) := X2_v12.out.up hY1
  have T3_v13 : Hid (Tn D Vc (.agg #[.slice ps3 ns3 cs3, .slice pt3 nt3 ct3]) y1) := T3_v12.out.up hY1
  have X3_v13 : Hid (Cel y1 w3.heap.size (.slice ps3 ns3 cs3) (.slice pt3 nt3 ct3)) := X3_v12.out.up hY1
  have T4_v13 : Hid (Tn D Vc (.agg #[.slice ps4 ns4 cs4, .slice pt4 nt4 ct4]) y1) := T4_v12.out.up hY1
  have X4_v13 : Hid (Cel y1 w4.heap.size (.slice ps4 ns4 cs4) (.slice pt4 nt4 ct4)) := X4_v12.out.up hY1
  clear XA_v12 XB_v12 T1_v12 X1_v12 T2_v12 X2_v12 T3_v12 X3_v12 T4_v12 X4_v12
  clear l1 hY1 x30 x31 x3z x40 x41 x4z
  go_wp2
  go_ret
  exact ⟨by first | rfl | simp, HB_y1.out⟩
end Go.Proofs.Ytbndiadgnglkhab.Wd
