/- TensEach: any two tensors' sum, difference, product are as the document says, number by number. -/
import Derived.Test.YtbndiadgnglkhaaTenM
import Derived.Test.YtbndiadgnglkhaaTenJ
namespace Go.Proofs.Ytbndiadgnglkhaa.Wd
open Go.RowKit
set_option linter.unusedVariables false
set_option linter.unusedSimpArgs false
theorem each_few (op : Int → Int → Int) (d x d' y : List Int) : Few (eachD d x d' y) ∧ Few (eachV op d x d' y) := by
  unfold Few eachD eachV
  constructor
  · split
    · have := joinL_len d d'; omega
    · simp
  · split
    · rename_i h
      have h0 := joinE_zero h.2
      have h1 := (join_fine h0.1 h0.2.1 h0.2.2.1 h0.2.2.2).1
      rw [itl_ntl h0.1.2.1, itl_ntl h0.2.1.2.1] at h1
      rw [List.length_map, List.length_range, h1, ntl_itl]
      have := h0.2.2.2.2.2
      omega
    · simp
set_option maxRecDepth 8000 in
set_option maxHeartbeats 8000000 in
theorem teach_walk (w : World) (za : Nat → Int) (n c : Nat) (p : Option Addr) (zb : Nat → Int) (n2 c2 : Nat) (p2 : Option Addr) (zc : Nat → Int) (n3 c3 : Nat) (p3 : Option Addr) (zd : Nat → Int) (n4 c4 : Nat) (p4 : Option Addr)
    (r1 : RowN .i64 w p n c za) (r2 : RowN .i64 w p2 n2 c2 zb) (r3 : RowN .i64 w p3 n3 c3 zc) (r4 : RowN .i64 w p4 n4 c4 zd) :
    Calls Try.prog 4 #[.agg #[.slice p n c, .slice p2 n2 c2], .agg #[.slice p3 n3 c3, .slice p4 n4 c4]] w fun e w' => e = .returned (.bool true) ∧ Below w.heap.size w w' := by
  have HA : Hid (Nums .i64 w (.slice p n c) (nlst n za) ∧ Nums .i64 w (.slice p2 n2 c2) (nlst n2 zb) ∧ Nums .i64 w (.slice p3 n3 c3) (nlst n3 zc) ∧ Nums .i64 w (.slice p4 n4 c4) (nlst n4 zd)) := ⟨r1.nums, r2.nums, r3.nums, r4.nums⟩
  have HI : Hid (RI (nlst n za) ∧ RI (nlst n2 zb) ∧ RI (nlst n3 zc) ∧ RI (nlst n4 zd)) := ⟨r1.riI, r2.riI, r3.riI, r4.riI⟩
  have HF : Hid (Few (nlst n za) ∧ Few (nlst n2 zb)) := ⟨r1.few, r2.few⟩
  obtain ⟨d, ed⟩ : ∃ d, nlst n za = d := ⟨_, rfl⟩
  obtain ⟨x, ex⟩ : ∃ x, nlst n2 zb = x := ⟨_, rfl⟩
  obtain ⟨d', ed'⟩ : ∃ d, nlst n3 zc = d := ⟨_, rfl⟩
  obtain ⟨y, ey⟩ : ∃ y, nlst n4 zd = y := ⟨_, rfl⟩
  rw [ed, ex, ed', ey] at HA HI
  rw [ed, ex] at HF
  clear ed ex ed' ey r1 r2 r3 r4
  have HTa : Hid (∀ W, Below w.heap.size w W → Tn d x (.agg #[.slice p n c, .slice p2 n2 c2]) W ∧ Tn d' y (.agg #[.slice p3 n3 c3, .slice p4 n4 c4]) W) := fun W hW => ⟨⟨_, _, _, _, _, _, rfl, HA.out.1.up hW, HA.out.2.1.up hW⟩, _, _, _, _, _, _, rfl, HA.out.2.2.1.up hW, HA.out.2.2.2.up hW⟩
  obtain ⟨E, eE⟩ : ∃ E, eachE d x d' y = E := ⟨_, rfl⟩
  obtain ⟨D, eD⟩ : ∃ D, eachD d x d' y = D := ⟨_, rfl⟩
  obtain ⟨Va, eVa⟩ : ∃ V, eachV (fun a b => Fx.hold (a + b)) d x d' y = V := ⟨_, rfl⟩
  obtain ⟨Vb, eVb⟩ : ∃ V, eachV (fun a b => Fx.hold (a - b)) d x d' y = V := ⟨_, rfl⟩
  obtain ⟨Vc, eVc⟩ : ∃ V, eachV Fx.mulI d x d' y = V := ⟨_, rfl⟩
  have HFw : Hid (Few D ∧ Few Va ∧ Few Vb ∧ Few Vc) := ⟨by rw [← eD]; exact (each_few Fx.mulI d x d' y).1, by rw [← eVa]; exact (each_few _ d x d' y).2, by rw [← eVb]; exact (each_few _ d x d' y).2, by rw [← eVc]; exact (each_few _ d x d' y).2⟩
  have c1 : Hid (∀ W, Below w.heap.size w W → Calls Try.prog 10 #[.agg #[.slice p n c, .slice p2 n2 c2], .agg #[.slice p3 n3 c3, .slice p4 n4 c4]] W fun e w' => ∃ v', e = .returned (.tuple #[v', .int .i64 E]) ∧ TRes w' W.heap.size v' D Va ∧ Below W.heap.size W w') := fun W hW => by
    rw [← eE, ← eD, ← eVa]
    exact tadd_any p p2 p3 p4 n c n2 c2 n3 c3 n4 c4 d x d' y HI.out.1 HI.out.2.1 HI.out.2.2.1 HI.out.2.2.2 W (HA.out.1.up hW) (HA.out.2.1.up hW) (HA.out.2.2.1.up hW) (HA.out.2.2.2.up hW)
  have c2_ : Hid (∀ W, Below w.heap.size w W → Calls Try.prog 18 #[.agg #[.slice p n c, .slice p2 n2 c2], .agg #[.slice p3 n3 c3, .slice p4 n4 c4]] W fun e w' => ∃ v', e = .returned (.tuple #[v', .int .i64 E]) ∧ TRes w' W.heap.size v' D Vb ∧ Below W.heap.size W w') := fun W hW => by
    rw [← eE, ← eD, ← eVb]
    exact tsub_any p p2 p3 p4 n c n2 c2 n3 c3 n4 c4 d x d' y HI.out.1 HI.out.2.1 HI.out.2.2.1 HI.out.2.2.2 W (HA.out.1.up hW) (HA.out.2.1.up hW) (HA.out.2.2.1.up hW) (HA.out.2.2.2.up hW)
  have c3_ : Hid (∀ W, Below w.heap.size w W → Calls Try.prog 19 #[.agg #[.slice p n c, .slice p2 n2 c2], .agg #[.slice p3 n3 c3, .slice p4 n4 c4]] W fun e w' => ∃ v', e = .returned (.tuple #[v', .int .i64 E]) ∧ TRes w' W.heap.size v' D Vc ∧ Below W.heap.size W w') := fun W hW => by
    rw [← eE, ← eD, ← eVc]
    exact tmul_any p p2 p3 p4 n c n2 c2 n3 c3 n4 c4 d x d' y HI.out.1 HI.out.2.1 HI.out.2.2.1 HI.out.2.2.2 W (HA.out.1.up hW) (HA.out.2.1.up hW) (HA.out.2.2.1.up hW) (HA.out.2.2.2.up hW)
  have r0 : Hid (∀ W, Below w.heap.size w W → Calls Try.prog 20 #[.int .i64 0, .agg #[.slice p n c, .slice p2 n2 c2], .agg #[.slice p3 n3 c3, .slice p4 n4 c4]] W fun e w' => ∃ v', e = .returned (.tuple #[v', .int .i64 E]) ∧ TRes w' W.heap.size v' D Va ∧ Below W.heap.size W w') := fun W hW => by
    rw [← eE, ← eD, ← eVa]
    exact reach0_any p p2 p3 p4 n c n2 c2 n3 c3 n4 c4 d x d' y HI.out.1 HI.out.2.1 HI.out.2.2.1 HI.out.2.2.2 W (HA.out.1.up hW) (HA.out.2.1.up hW) (HA.out.2.2.1.up hW) (HA.out.2.2.2.up hW)
  have r1 : Hid (∀ W, Below w.heap.size w W → Calls Try.prog 20 #[.int .i64 1, .agg #[.slice p n c, .slice p2 n2 c2], .agg #[.slice p3 n3 c3, .slice p4 n4 c4]] W fun e w' => ∃ v', e = .returned (.tuple #[v', .int .i64 E]) ∧ TRes w' W.heap.size v' D Vb ∧ Below W.heap.size W w') := fun W hW => by
    rw [← eE, ← eD, ← eVb]
    exact reach1_any p p2 p3 p4 n c n2 c2 n3 c3 n4 c4 d x d' y HI.out.1 HI.out.2.1 HI.out.2.2.1 HI.out.2.2.2 W (HA.out.1.up hW) (HA.out.2.1.up hW) (HA.out.2.2.1.up hW) (HA.out.2.2.2.up hW)
  have r2 : Hid (∀ W, Below w.heap.size w W → Calls Try.prog 20 #[.int .i64 2, .agg #[.slice p n c, .slice p2 n2 c2], .agg #[.slice p3 n3 c3, .slice p4 n4 c4]] W fun e w' => ∃ v', e = .returned (.tuple #[v', .int .i64 E]) ∧ TRes w' W.heap.size v' D Vc ∧ Below W.heap.size W w') := fun W hW => by
    rw [← eE, ← eD, ← eVc]
    exact reach2_any p p2 p3 p4 n c n2 c2 n3 c3 n4 c4 d x d' y HI.out.1 HI.out.2.1 HI.out.2.2.1 HI.out.2.2.2 W (HA.out.1.up hW) (HA.out.2.1.up hW) (HA.out.2.2.1.up hW) (HA.out.2.2.2.up hW)
  clear eE eD eVa eVb eVc
  haveI : Nonempty World := ⟨w⟩
  go_enter Try.func4, Try.ntmps4
  go_wp2_with fail
  generalize hW0 : World.alloc _ _ = W0
  have HB_W0 : Hid (Below w.heap.size w W0) := by show Below _ _ _; rw [← hW0]; go_grown
  have XA_v0 : Hid (Cel W0 w.heap.size (.slice p n c) (.slice p2 n2 c2)) := by show Cel _ _ _ _; unfold Cel; rw [← hW0]; simp [go_sem]
  have XB_v0 : Hid (Cel W0 (w.heap.size + 1) (.slice p3 n3 c3) (.slice p4 n4 c4)) := by show Cel _ _ _ _; unfold Cel; rw [← hW0]; simp [go_sem]
  clear hW0
  refine (tawake_any W0).mono ?_
  rintro e wa ⟨rfl, hBa⟩
  have HB_wa : Hid (Below w.heap.size w wa) := bstep HB_W0.out hBa
  have XA_v1 : Hid (Cel wa w.heap.size (.slice p n c) (.slice p2 n2 c2)) := XA_v0.out.up hBa
  have XB_v1 : Hid (Cel wa (w.heap.size + 1) (.slice p3 n3 c3) (.slice p4 n4 c4)) := XB_v0.out.up hBa
  clear XA_v0 XB_v0
  clear hBa
  have cg := great_any p p2 n c n2 c2 300 (by decide) wa
  by_cases hga : 10 < n ∨ 300 < n2
  · rw [decide_eq_true hga] at cg
    obtain ⟨xa0, xa1, _, _⟩ := XA_v1.out
    have xaz := cell_lt xa0
    obtain ⟨xb0, xb1, _, _⟩ := XB_v1.out
    have xbz := cell_lt xb0
    go_wp2_with fail
    refine (cg).mono ?_
    rintro e wb ⟨rfl, hBwb⟩
    have HB_wb : Hid (Below w.heap.size w wb) := bstep HB_wa.out hBwb
    have XA_v2 : Hid (Cel wb w.heap.size (.slice p n c) (.slice p2 n2 c2)) := XA_v1.out.up hBwb
    have XB_v2 : Hid (Cel wb (w.heap.size + 1) (.slice p3 n3 c3) (.slice p4 n4 c4)) := XB_v1.out.up hBwb
    clear XA_v1 XB_v1
    clear hBwb xa0 xa1 xaz xb0 xb1 xbz
    go_wp2
    go_ret
    exact ⟨rfl, HB_wb.out⟩
  rw [decide_eq_false hga] at cg
  obtain ⟨xa0, xa1, _, _⟩ := XA_v1.out
  have xaz := cell_lt xa0
  obtain ⟨xb0, xb1, _, _⟩ := XB_v1.out
  have xbz := cell_lt xb0
  go_wp2_with fail
  refine (cg).mono ?_
  rintro e wb ⟨rfl, hBwb⟩
  have HB_wb : Hid (Below w.heap.size w wb) := bstep HB_wa.out hBwb
  have XA_v2 : Hid (Cel wb w.heap.size (.slice p n c) (.slice p2 n2 c2)) := XA_v1.out.up hBwb
  have XB_v2 : Hid (Cel wb (w.heap.size + 1) (.slice p3 n3 c3) (.slice p4 n4 c4)) := XB_v1.out.up hBwb
  clear XA_v1 XB_v1
  clear hBwb xa0 xa1 xaz xb0 xb1 xbz
  clear cg hga
  have cg := great_any p3 p4 n3 c3 n4 c4 300 (by decide) wb
  by_cases hga : 10 < n3 ∨ 300 < n4
  · rw [decide_eq_true hga] at cg
    obtain ⟨xa0, xa1, _, _⟩ := XA_v2.out
    have xaz := cell_lt xa0
    obtain ⟨xb0, xb1, _, _⟩ := XB_v2.out
    have xbz := cell_lt xb0
    go_wp2_with fail
    refine (cg).mono ?_
    rintro e wc ⟨rfl, hBwc⟩
    have HB_wc : Hid (Below w.heap.size w wc) := bstep HB_wb.out hBwc
    have XA_v3 : Hid (Cel wc w.heap.size (.slice p n c) (.slice p2 n2 c2)) := XA_v2.out.up hBwc
    have XB_v3 : Hid (Cel wc (w.heap.size + 1) (.slice p3 n3 c3) (.slice p4 n4 c4)) := XB_v2.out.up hBwc
    clear XA_v2 XB_v2
    clear hBwc xa0 xa1 xaz xb0 xb1 xbz
    go_wp2
    go_ret
    exact ⟨rfl, HB_wc.out⟩
  rw [decide_eq_false hga] at cg
  obtain ⟨xa0, xa1, _, _⟩ := XA_v2.out
  have xaz := cell_lt xa0
  obtain ⟨xb0, xb1, _, _⟩ := XB_v2.out
  have xbz := cell_lt xb0
  go_wp2_with fail
  refine (cg).mono ?_
  rintro e wc ⟨rfl, hBwc⟩
  have HB_wc : Hid (Below w.heap.size w wc) := bstep HB_wb.out hBwc
  have XA_v3 : Hid (Cel wc w.heap.size (.slice p n c) (.slice p2 n2 c2)) := XA_v2.out.up hBwc
  have XB_v3 : Hid (Cel wc (w.heap.size + 1) (.slice p3 n3 c3) (.slice p4 n4 c4)) := XB_v2.out.up hBwc
  clear XA_v2 XB_v2
  clear hBwc xa0 xa1 xaz xb0 xb1 xbz
  clear cg hga
  obtain ⟨xa0, xa1, _, _⟩ := XA_v3.out
  have xaz := cell_lt xa0
  obtain ⟨xb0, xb1, _, _⟩ := XB_v3.out
  have xbz := cell_lt xb0
  go_wp2_with fail
  refine (c1.out wc HB_wc.out).mono ?_
  rintro e w1 ⟨v1, rfl, ⟨s1, t1, rfl, hs1, ht1⟩, hB1⟩
  obtain ⟨ps1, ns1, cs1, rfl, _⟩ := hs1.nums.lst
  obtain ⟨pt1, nt1, ct1, rfl, _⟩ := ht1.nums.lst
  have HB_w1 : Hid (Below w.heap.size w w1) := bstep HB_wc.out hB1
  have XA_v4 : Hid (Cel w1 w.heap.size (.slice p n c) (.slice p2 n2 c2)) := XA_v3.out.up hB1
  have XB_v4 : Hid (Cel w1 (w.heap.size + 1) (.slice p3 n3 c3) (.slice p4 n4 c4)) := XB_v3.out.up hB1
  clear XA_v3 XB_v3
  have T1_v4 : Hid (Tn D Va (.agg #[.slice ps1 ns1 cs1, .slice pt1 nt1 ct1]) w1) := ⟨_, _, _, _, _, _, rfl, hs1.nums, ht1.nums⟩
  clear hB1 hs1 ht1 xa0 xa1 xaz xb0 xb1 xbz
  obtain ⟨xa0, xa1, _, _⟩ := XA_v4.out
  have xaz := cell_lt xa0
  obtain ⟨xb0, xb1, _, _⟩ := XB_v4.out
  have xbz := cell_lt xb0
  go_wp2_with fail
  generalize hW1 : World.alloc _ _ = W1
  have hC1 : Below w1.heap.size w1 W1 := by rw [← hW1]; exact up_alloc w1 _
  have HB_W1 : Hid (Below w.heap.size w W1) := bstep HB_w1.out hC1
  have XA_v5 : Hid (Cel W1 w.heap.size (.slice p n c) (.slice p2 n2 c2)) := XA_v4.out.up hC1
  have XB_v5 : Hid (Cel W1 (w.heap.size + 1) (.slice p3 n3 c3) (.slice p4 n4 c4)) := XB_v4.out.up hC1
  have T1_v5 : Hid (Tn D Va (.agg #[.slice ps1 ns1 cs1, .slice pt1 nt1 ct1]) W1) := T1_v4.out.up hC1
  clear XA_v4 XB_v4 T1_v4
  have X1_v5 : Hid (Cel W1 w1.heap.size (.slice ps1 ns1 cs1) (.slice pt1 nt1 ct1)) := by show Cel _ _ _ _; unfold Cel; rw [← hW1]; simp [go_sem]
  clear hW1 hC1 xa0 xa1 xaz xb0 xb1 xbz
  refine (c2_.out W1 HB_W1.out).mono ?_
  rintro e w2 ⟨v2, rfl, ⟨s2, t2, rfl, hs2, ht2⟩, hB2⟩
  obtain ⟨ps2, ns2, cs2, rfl, _⟩ := hs2.nums.lst
  obtain ⟨pt2, nt2, ct2, rfl, _⟩ := ht2.nums.lst
  have HB_w2 : Hid (Below w.heap.size w w2) := bstep HB_W1.out hB2
  have XA_v6 : Hid (Cel w2 w.heap.size (.slice p n c) (.slice p2 n2 c2)) := XA_v5.out.up hB2
  have XB_v6 : Hid (Cel w2 (w.heap.size + 1) (.slice p3 n3 c3) (.slice p4 n4 c4)) := XB_v5.out.up hB2
  have T1_v6 : Hid (Tn D Va (.agg #[.slice ps1 ns1 cs1, .slice pt1 nt1 ct1]) w2) := T1_v5.out.up hB2
  have X1_v6 : Hid (Cel w2 w1.heap.size (.slice ps1 ns1 cs1) (.slice pt1 nt1 ct1)) := X1_v5.out.up hB2
  clear XA_v5 XB_v5 T1_v5 X1_v5
  have T2_v6 : Hid (Tn D Vb (.agg #[.slice ps2 ns2 cs2, .slice pt2 nt2 ct2]) w2) := ⟨_, _, _, _, _, _, rfl, hs2.nums, ht2.nums⟩
  clear hB2 hs2 ht2 
  obtain ⟨xa0, xa1, _, _⟩ := XA_v6.out
  have xaz := cell_lt xa0
  obtain ⟨xb0, xb1, _, _⟩ := XB_v6.out
  have xbz := cell_lt xb0
  go_wp2_with fail
  generalize hW2 : World.alloc _ _ = W2
  have hC2 : Below w2.heap.size w2 W2 := by rw [← hW2]; exact up_alloc w2 _
  have HB_W2 : Hid (Below w.heap.size w W2) := bstep HB_w2.out hC2
  have XA_v7 : Hid (Cel W2 w.heap.size (.slice p n c) (.slice p2 n2 c2)) := XA_v6.out.up hC2
  have XB_v7 : Hid (Cel W2 (w.heap.size + 1) (.slice p3 n3 c3) (.slice p4 n4 c4)) := XB_v6.out.up hC2
  have T1_v7 : Hid (Tn D Va (.agg #[.slice ps1 ns1 cs1, .slice pt1 nt1 ct1]) W2) := T1_v6.out.up hC2
  have X1_v7 : Hid (Cel W2 w1.heap.size (.slice ps1 ns1 cs1) (.slice pt1 nt1 ct1)) := X1_v6.out.up hC2
  have T2_v7 : Hid (Tn D Vb (.agg #[.slice ps2 ns2 cs2, .slice pt2 nt2 ct2]) W2) := T2_v6.out.up hC2
  clear XA_v6 XB_v6 T1_v6 X1_v6 T2_v6
  have X2_v7 : Hid (Cel W2 w2.heap.size (.slice ps2 ns2 cs2) (.slice pt2 nt2 ct2)) := by show Cel _ _ _ _; unfold Cel; rw [← hW2]; simp [go_sem]
  clear hW2 hC2 xa0 xa1 xaz xb0 xb1 xbz
  refine (c3_.out W2 HB_W2.out).mono ?_
  rintro e w3 ⟨v3, rfl, ⟨s3, t3, rfl, hs3, ht3⟩, hB3⟩
  obtain ⟨ps3, ns3, cs3, rfl, _⟩ := hs3.nums.lst
  obtain ⟨pt3, nt3, ct3, rfl, _⟩ := ht3.nums.lst
  have HB_w3 : Hid (Below w.heap.size w w3) := bstep HB_W2.out hB3
  have XA_v8 : Hid (Cel w3 w.heap.size (.slice p n c) (.slice p2 n2 c2)) := XA_v7.out.up hB3
  have XB_v8 : Hid (Cel w3 (w.heap.size + 1) (.slice p3 n3 c3) (.slice p4 n4 c4)) := XB_v7.out.up hB3
  have T1_v8 : Hid (Tn D Va (.agg #[.slice ps1 ns1 cs1, .slice pt1 nt1 ct1]) w3) := T1_v7.out.up hB3
  have X1_v8 : Hid (Cel w3 w1.heap.size (.slice ps1 ns1 cs1) (.slice pt1 nt1 ct1)) := X1_v7.out.up hB3
  have T2_v8 : Hid (Tn D Vb (.agg #[.slice ps2 ns2 cs2, .slice pt2 nt2 ct2]) w3) := T2_v7.out.up hB3
  have X2_v8 : Hid (Cel w3 w2.heap.size (.slice ps2 ns2 cs2) (.slice pt2 nt2 ct2)) := X2_v7.out.up hB3
  clear XA_v7 XB_v7 T1_v7 X1_v7 T2_v7 X2_v7
  have T3_v8 : Hid (Tn D Vc (.agg #[.slice ps3 ns3 cs3, .slice pt3 nt3 ct3]) w3) := ⟨_, _, _, _, _, _, rfl, hs3.nums, ht3.nums⟩
  clear hB3 hs3 ht3 
  obtain ⟨xa0, xa1, _, _⟩ := XA_v8.out
  have xaz := cell_lt xa0
  obtain ⟨xb0, xb1, _, _⟩ := XB_v8.out
  have xbz := cell_lt xb0
  go_wp2_with fail
  generalize hW3 : World.alloc _ _ = W3
  have hC3 : Below w3.heap.size w3 W3 := by rw [← hW3]; exact up_alloc w3 _
  have HB_W3 : Hid (Below w.heap.size w W3) := bstep HB_w3.out hC3
  have XA_v9 : Hid (Cel W3 w.heap.size (.slice p n c) (.slice p2 n2 c2)) := XA_v8.out.up hC3
  have XB_v9 : Hid (Cel W3 (w.heap.size + 1) (.slice p3 n3 c3) (.slice p4 n4 c4)) := XB_v8.out.up hC3
  have T1_v9 : Hid (Tn D Va (.agg #[.slice ps1 ns1 cs1, .slice pt1 nt1 ct1]) W3) := T1_v8.out.up hC3
  have X1_v9 : Hid (Cel W3 w1.heap.size (.slice ps1 ns1 cs1) (.slice pt1 nt1 ct1)) := X1_v8.out.up hC3
  have T2_v9 : Hid (Tn D Vb (.agg #[.slice ps2 ns2 cs2, .slice pt2 nt2 ct2]) W3) := T2_v8.out.up hC3
  have X2_v9 : Hid (Cel W3 w2.heap.size (.slice ps2 ns2 cs2) (.slice pt2 nt2 ct2)) := X2_v8.out.up hC3
  have T3_v9 : Hid (Tn D Vc (.agg #[.slice ps3 ns3 cs3, .slice pt3 nt3 ct3]) W3) := T3_v8.out.up hC3
  clear XA_v8 XB_v8 T1_v8 X1_v8 T2_v8 X2_v8 T3_v8
  have X3_v9 : Hid (Cel W3 w3.heap.size (.slice ps3 ns3 cs3) (.slice pt3 nt3 ct3)) := by show Cel _ _ _ _; unfold Cel; rw [← hW3]; simp [go_sem]
  clear hW3 hC3 xa0 xa1 xaz xb0 xb1 xbz
  refine (r0.out W3 HB_W3.out).mono ?_
  rintro e w4 ⟨v4, rfl, ⟨s4, t4, rfl, hs4, ht4⟩, hB4⟩
  obtain ⟨ps4, ns4, cs4, rfl, _⟩ := hs4.nums.lst
  obtain ⟨pt4, nt4, ct4, rfl, _⟩ := ht4.nums.lst
  have HB_w4 : Hid (Below w.heap.size w w4) := bstep HB_W3.out hB4
  have XA_v10 : Hid (Cel w4 w.heap.size (.slice p n c) (.slice p2 n2 c2)) := XA_v9.out.up hB4
  have XB_v10 : Hid (Cel w4 (w.heap.size + 1) (.slice p3 n3 c3) (.slice p4 n4 c4)) := XB_v9.out.up hB4
  have T1_v10 : Hid (Tn D Va (.agg #[.slice ps1 ns1 cs1, .slice pt1 nt1 ct1]) w4) := T1_v9.out.up hB4
  have X1_v10 : Hid (Cel w4 w1.heap.size (.slice ps1 ns1 cs1) (.slice pt1 nt1 ct1)) := X1_v9.out.up hB4
  have T2_v10 : Hid (Tn D Vb (.agg #[.slice ps2 ns2 cs2, .slice pt2 nt2 ct2]) w4) := T2_v9.out.up hB4
  have X2_v10 : Hid (Cel w4 w2.heap.size (.slice ps2 ns2 cs2) (.slice pt2 nt2 ct2)) := X2_v9.out.up hB4
  have T3_v10 : Hid (Tn D Vc (.agg #[.slice ps3 ns3 cs3, .slice pt3 nt3 ct3]) w4) := T3_v9.out.up hB4
  have X3_v10 : Hid (Cel w4 w3.heap.size (.slice ps3 ns3 cs3) (.slice pt3 nt3 ct3)) := X3_v9.out.up hB4
  clear XA_v9 XB_v9 T1_v9 X1_v9 T2_v9 X2_v9 T3_v9 X3_v9
  have T4_v10 : Hid (Tn D Va (.agg #[.slice ps4 ns4 cs4, .slice pt4 nt4 ct4]) w4) := ⟨_, _, _, _, _, _, rfl, hs4.nums, ht4.nums⟩
  clear hB4 hs4 ht4 
  obtain ⟨xa0, xa1, _, _⟩ := XA_v10.out
  have xaz := cell_lt xa0
  obtain ⟨xb0, xb1, _, _⟩ := XB_v10.out
  have xbz := cell_lt xb0
  go_wp2_with fail
  generalize hW4 : World.alloc _ _ = W4
  have hC4 : Below w4.heap.size w4 W4 := by rw [← hW4]; exact up_alloc w4 _
  have HB_W4 : Hid (Below w.heap.size w W4) := bstep HB_w4.out hC4
  have XA_v11 : Hid (Cel W4 w.heap.size (.slice p n c) (.slice p2 n2 c2)) := XA_v10.out.up hC4
  have XB_v11 : Hid (Cel W4 (w.heap.size + 1) (.slice p3 n3 c3) (.slice p4 n4 c4)) := XB_v10.out.up hC4
  have T1_v11 : Hid (Tn D Va (.agg #[.slice ps1 ns1 cs1, .slice pt1 nt1 ct1]) W4) := T1_v10.out.up hC4
  have X1_v11 : Hid (Cel W4 w1.heap.size (.slice ps1 ns1 cs1) (.slice pt1 nt1 ct1)) := X1_v10.out.up hC4
  have T2_v11 : Hid (Tn D Vb (.agg #[.slice ps2 ns2 cs2, .slice pt2 nt2 ct2]) W4) := T2_v10.out.up hC4
  have X2_v11 : Hid (Cel W4 w2.heap.size (.slice ps2 ns2 cs2) (.slice pt2 nt2 ct2)) := X2_v10.out.up hC4
  have T3_v11 : Hid (Tn D Vc (.agg #[.slice ps3 ns3 cs3, .slice pt3 nt3 ct3]) W4) := T3_v10.out.up hC4
  have X3_v11 : Hid (Cel W4 w3.heap.size (.slice ps3 ns3 cs3) (.slice pt3 nt3 ct3)) := X3_v10.out.up hC4
  have T4_v11 : Hid (Tn D Va (.agg #[.slice ps4 ns4 cs4, .slice pt4 nt4 ct4]) W4) := T4_v10.out.up hC4
  clear XA_v10 XB_v10 T1_v10 X1_v10 T2_v10 X2_v10 T3_v10 X3_v10 T4_v10
  have X4_v11 : Hid (Cel W4 w4.heap.size (.slice ps4 ns4 cs4) (.slice pt4 nt4 ct4)) := by show Cel _ _ _ _; unfold Cel; rw [← hW4]; simp [go_sem]
  clear hW4 hC4 xa0 xa1 xaz xb0 xb1 xbz
  refine (r1.out W4 HB_W4.out).mono ?_
  rintro e w5 ⟨v5, rfl, ⟨s5, t5, rfl, hs5, ht5⟩, hB5⟩
  obtain ⟨ps5, ns5, cs5, rfl, _⟩ := hs5.nums.lst
  obtain ⟨pt5, nt5, ct5, rfl, _⟩ := ht5.nums.lst
  have HB_w5 : Hid (Below w.heap.size w w5) := bstep HB_W4.out hB5
  have XA_v12 : Hid (Cel w5 w.heap.size (.slice p n c) (.slice p2 n2 c2)) := XA_v11.out.up hB5
  have XB_v12 : Hid (Cel w5 (w.heap.size + 1) (.slice p3 n3 c3) (.slice p4 n4 c4)) := XB_v11.out.up hB5
  have T1_v12 : Hid (Tn D Va (.agg #[.slice ps1 ns1 cs1, .slice pt1 nt1 ct1]) w5) := T1_v11.out.up hB5
  have X1_v12 : Hid (Cel w5 w1.heap.size (.slice ps1 ns1 cs1) (.slice pt1 nt1 ct1)) := X1_v11.out.up hB5
  have T2_v12 : Hid (Tn D Vb (.agg #[.slice ps2 ns2 cs2, .slice pt2 nt2 ct2]) w5) := T2_v11.out.up hB5
  have X2_v12 : Hid (Cel w5 w2.heap.size (.slice ps2 ns2 cs2) (.slice pt2 nt2 ct2)) := X2_v11.out.up hB5
  have T3_v12 : Hid (Tn D Vc (.agg #[.slice ps3 ns3 cs3, .slice pt3 nt3 ct3]) w5) := T3_v11.out.up hB5
  have X3_v12 : Hid (Cel w5 w3.heap.size (.slice ps3 ns3 cs3) (.slice pt3 nt3 ct3)) := X3_v11.out.up hB5
  have T4_v12 : Hid (Tn D Va (.agg #[.slice ps4 ns4 cs4, .slice pt4 nt4 ct4]) w5) := T4_v11.out.up hB5
  have X4_v12 : Hid (Cel w5 w4.heap.size (.slice ps4 ns4 cs4) (.slice pt4 nt4 ct4)) := X4_v11.out.up hB5
  clear XA_v11 XB_v11 T1_v11 X1_v11 T2_v11 X2_v11 T3_v11 X3_v11 T4_v11 X4_v11
  have T5_v12 : Hid (Tn D Vb (.agg #[.slice ps5 ns5 cs5, .slice pt5 nt5 ct5]) w5) := ⟨_, _, _, _, _, _, rfl, hs5.nums, ht5.nums⟩
  clear hB5 hs5 ht5 
  obtain ⟨xa0, xa1, _, _⟩ := XA_v12.out
  have xaz := cell_lt xa0
  obtain ⟨xb0, xb1, _, _⟩ := XB_v12.out
  have xbz := cell_lt xb0
  go_wp2_with fail
  generalize hW5 : World.alloc _ _ = W5
  have hC5 : Below w5.heap.size w5 W5 := by rw [← hW5]; exact up_alloc w5 _
  have HB_W5 : Hid (Below w.heap.size w W5) := bstep HB_w5.out hC5
  have XA_v13 : Hid (Cel W5 w.heap.size (.slice p n c) (.slice p2 n2 c2)) := XA_v12.out.up hC5
  have XB_v13 : Hid (Cel W5 (w.heap.size + 1) (.slice p3 n3 c3) (.slice p4 n4 c4)) := XB_v12.out.up hC5
  have T1_v13 : Hid (Tn D Va (.agg #[.slice ps1 ns1 cs1, .slice pt1 nt1 ct1]) W5) := T1_v12.out.up hC5
  have X1_v13 : Hid (Cel W5 w1.heap.size (.slice ps1 ns1 cs1) (.slice pt1 nt1 ct1)) := X1_v12.out.up hC5
  have T2_v13 : Hid (Tn D Vb (.agg #[.slice ps2 ns2 cs2, .slice pt2 nt2 ct2]) W5) := T2_v12.out.up hC5
  have X2_v13 : Hid (Cel W5 w2.heap.size (.slice ps2 ns2 cs2) (.slice pt2 nt2 ct2)) := X2_v12.out.up hC5
  have T3_v13 : Hid (Tn D Vc (.agg #[.slice ps3 ns3 cs3, .slice pt3 nt3 ct3]) W5) := T3_v12.out.up hC5
  have X3_v13 : Hid (Cel W5 w3.heap.size (.slice ps3 ns3 cs3) (.slice pt3 nt3 ct3)) := X3_v12.out.up hC5
  have T4_v13 : Hid (Tn D Va (.agg #[.slice ps4 ns4 cs4, .slice pt4 nt4 ct4]) W5) := T4_v12.out.up hC5
  have X4_v13 : Hid (Cel W5 w4.heap.size (.slice ps4 ns4 cs4) (.slice pt4 nt4 ct4)) := X4_v12.out.up hC5
  have T5_v13 : Hid (Tn D Vb (.agg #[.slice ps5 ns5 cs5, .slice pt5 nt5 ct5]) W5) := T5_v12.out.up hC5
  clear XA_v12 XB_v12 T1_v12 X1_v12 T2_v12 X2_v12 T3_v12 X3_v12 T4_v12 X4_v12 T5_v12
  have X5_v13 : Hid (Cel W5 w5.heap.size (.slice ps5 ns5 cs5) (.slice pt5 nt5 ct5)) := by show Cel _ _ _ _; unfold Cel; rw [← hW5]; simp [go_sem]
  clear hW5 hC5 xa0 xa1 xaz xb0 xb1 xbz
  refine (r2.out W5 HB_W5.out).mono ?_
  rintro e w6 ⟨v6, rfl, ⟨s6, t6, rfl, hs6, ht6⟩, hB6⟩
  obtain ⟨ps6, ns6, cs6, rfl, _⟩ := hs6.nums.lst
  obtain ⟨pt6, nt6, ct6, rfl, _⟩ := ht6.nums.lst
  have HB_w6 : Hid (Below w.heap.size w w6) := bstep HB_W5.out hB6
  have XA_v14 : Hid (Cel w6 w.heap.size (.slice p n c) (.slice p2 n2 c2)) := XA_v13.out.up hB6
  have XB_v14 : Hid (Cel w6 (w.heap.size + 1) (.slice p3 n3 c3) (.slice p4 n4 c4)) := XB_v13.out.up hB6
  have T1_v14 : Hid (Tn D Va (.agg #[.slice ps1 ns1 cs1, .slice pt1 nt1 ct1]) w6) := T1_v13.out.up hB6
  have X1_v14 : Hid (Cel w6 w1.heap.size (.slice ps1 ns1 cs1) (.slice pt1 nt1 ct1)) := X1_v13.out.up hB6
  have T2_v14 : Hid (Tn D Vb (.agg #[.slice ps2 ns2 cs2, .slice pt2 nt2 ct2]) w6) := T2_v13.out.up hB6
  have X2_v14 : Hid (Cel w6 w2.heap.size (.slice ps2 ns2 cs2) (.slice pt2 nt2 ct2)) := X2_v13.out.up hB6
  have T3_v14 : Hid (Tn D Vc (.agg #[.slice ps3 ns3 cs3, .slice pt3 nt3 ct3]) w6) := T3_v13.out.up hB6
  have X3_v14 : Hid (Cel w6 w3.heap.size (.slice ps3 ns3 cs3) (.slice pt3 nt3 ct3)) := X3_v13.out.up hB6
  have T4_v14 : Hid (Tn D Va (.agg #[.slice ps4 ns4 cs4, .slice pt4 nt4 ct4]) w6) := T4_v13.out.up hB6
  have X4_v14 : Hid (Cel w6 w4.heap.size (.slice ps4 ns4 cs4) (.slice pt4 nt4 ct4)) := X4_v13.out.up hB6
  have T5_v14 : Hid (Tn D Vb (.agg #[.slice ps5 ns5 cs5, .slice pt5 nt5 ct5]) w6) := T5_v13.out.up hB6
  have X5_v14 : Hid (Cel w6 w5.heap.size (.slice ps5 ns5 cs5) (.slice pt5 nt5 ct5)) := X5_v13.out.up hB6
  clear XA_v13 XB_v13 T1_v13 X1_v13 T2_v13 X2_v13 T3_v13 X3_v13 T4_v13 X4_v13 T5_v13 X5_v13
  have T6_v14 : Hid (Tn D Vc (.agg #[.slice ps6 ns6 cs6, .slice pt6 nt6 ct6]) w6) := ⟨_, _, _, _, _, _, rfl, hs6.nums, ht6.nums⟩
  clear hB6 hs6 ht6 
  obtain ⟨xa0, xa1, _, _⟩ := XA_v14.out
  have xaz := cell_lt xa0
  obtain ⟨xb0, xb1, _, _⟩ := XB_v14.out
  have xbz := cell_lt xb0
  go_wp2_with fail
  generalize hW6 : World.alloc _ _ = W6
  have hC6 : Below w6.heap.size w6 W6 := by rw [← hW6]; exact up_alloc w6 _
  have HB_W6 : Hid (Below w.heap.size w W6) := bstep HB_w6.out hC6
  have XA_v15 : Hid (Cel W6 w.heap.size (.slice p n c) (.slice p2 n2 c2)) := XA_v14.out.up hC6
  have XB_v15 : Hid (Cel W6 (w.heap.size + 1) (.slice p3 n3 c3) (.slice p4 n4 c4)) := XB_v14.out.up hC6
  have T1_v15 : Hid (Tn D Va (.agg #[.slice ps1 ns1 cs1, .slice pt1 nt1 ct1]) W6) := T1_v14.out.up hC6
  have X1_v15 : Hid (Cel W6 w1.heap.size (.slice ps1 ns1 cs1) (.slice pt1 nt1 ct1)) := X1_v14.out.up hC6
  have T2_v15 : Hid (Tn D Vb (.agg #[.slice ps2 ns2 cs2, .slice pt2 nt2 ct2]) W6) := T2_v14.out.up hC6
  have X2_v15 : Hid (Cel W6 w2.heap.size (.slice ps2 ns2 cs2) (.slice pt2 nt2 ct2)) := X2_v14.out.up hC6
  have T3_v15 : Hid (Tn D Vc (.agg #[.slice ps3 ns3 cs3, .slice pt3 nt3 ct3]) W6) := T3_v14.out.up hC6
  have X3_v15 : Hid (Cel W6 w3.heap.size (.slice ps3 ns3 cs3) (.slice pt3 nt3 ct3)) := X3_v14.out.up hC6
  have T4_v15 : Hid (Tn D Va (.agg #[.slice ps4 ns4 cs4, .slice pt4 nt4 ct4]) W6) := T4_v14.out.up hC6
  have X4_v15 : Hid (Cel W6 w4.heap.size (.slice ps4 ns4 cs4) (.slice pt4 nt4 ct4)) := X4_v14.out.up hC6
  have T5_v15 : Hid (Tn D Vb (.agg #[.slice ps5 ns5 cs5, .slice pt5 nt5 ct5]) W6) := T5_v14.out.up hC6
  have X5_v15 : Hid (Cel W6 w5.heap.size (.slice ps5 ns5 cs5) (.slice pt5 nt5 ct5)) := X5_v14.out.up hC6
  have T6_v15 : Hid (Tn D Vc (.agg #[.slice ps6 ns6 cs6, .slice pt6 nt6 ct6]) W6) := T6_v14.out.up hC6
  clear XA_v14 XB_v14 T1_v14 X1_v14 T2_v14 X2_v14 T3_v14 X3_v14 T4_v14 X4_v14 T5_v14 X5_v14 T6_v14
  have X6_v15 : Hid (Cel W6 w6.heap.size (.slice ps6 ns6 cs6) (.slice pt6 nt6 ct6)) := by show Cel _ _ _ _; unfold Cel; rw [← hW6]; simp [go_sem]
  clear hW6 hC6 xa0 xa1 xaz xb0 xb1 xbz
  have l1 : Hid (∀ W, Below W6.heap.size W6 W → Calls Try.prog 21 #[.agg #[.slice ps1 ns1 cs1, .slice pt1 nt1 ct1], .agg #[.slice ps4 ns4 cs4, .slice pt4 nt4 ct4]] W fun e w' => e = .returned (.bool true) ∧ Below W.heap.size W w') := fun W hW => by
    have := alike_tn (T1_v15.out.up hW) (T4_v15.out.up hW) HFw.out.1 HFw.out.2.1
    rw [decide_eq_true ⟨rfl, rfl⟩] at this
    exact this
  have l2 : Hid (∀ W, Below W6.heap.size W6 W → Calls Try.prog 21 #[.agg #[.slice ps2 ns2 cs2, .slice pt2 nt2 ct2], .agg #[.slice ps5 ns5 cs5, .slice pt5 nt5 ct5]] W fun e w' => e = .returned (.bool true) ∧ Below W.heap.size W w') := fun W hW => by
    have := alike_tn (T2_v15.out.up hW) (T5_v15.out.up hW) HFw.out.1 HFw.out.2.2.1
    rw [decide_eq_true ⟨rfl, rfl⟩] at this
    exact this
  have l3 : Hid (∀ W, Below W6.heap.size W6 W → Calls Try.prog 21 #[.agg #[.slice ps3 ns3 cs3, .slice pt3 nt3 ct3], .agg #[.slice ps6 ns6 cs6, .slice pt6 nt6 ct6]] W fun e w' => e = .returned (.bool true) ∧ Below W.heap.size W w') := fun W hW => by
    have := alike_tn (T3_v15.out.up hW) (T6_v15.out.up hW) HFw.out.1 HFw.out.2.2.2
    rw [decide_eq_true ⟨rfl, rfl⟩] at this
    exact this
  obtain ⟨bi, ebi⟩ : ∃ b, decide (isP d x) = b := ⟨_, rfl⟩
  obtain ⟨bs, ebs⟩ : ∃ b, decide (d = d' ∧ x = y) = b := ⟨_, rfl⟩
  have g1 : Hid (∀ W, Below W6.heap.size W6 W → Calls Try.prog 22 #[.agg #[.slice p n c, .slice p2 n2 c2]] W fun e w' => e = .returned (.bool bi) ∧ Below W.heap.size W w') := fun W hW => by rw [← ebi]; exact good_tn (HTa.out W (bstep HB_W6.out hW)).1 HI.out.1
  have g2 : Hid (∀ W, Below W6.heap.size W6 W → Calls Try.prog 23 #[.agg #[.slice p n c, .slice p2 n2 c2]] W fun e w' => e = .returned (.bool bi) ∧ Below W.heap.size W w') := fun W hW => by rw [← ebi]; exact is_tn (HTa.out W (bstep HB_W6.out hW)).1 HI.out.1
  have g3 : Hid (∀ W, Below W6.heap.size W6 W → Calls Try.prog 16 #[.agg #[.slice p n c, .slice p2 n2 c2], .agg #[.slice p3 n3 c3, .slice p4 n4 c4]] W fun e w' => e = .returned (.bool bs) ∧ Below W.heap.size W w') := fun W hW => by rw [← ebs]; exact same_tn (HTa.out W (bstep HB_W6.out hW)).1 (HTa.out W (bstep HB_W6.out hW)).2 HF.out.1 HF.out.2
  have g4 : Hid (∀ W, Below W6.heap.size W6 W → Calls Try.prog 21 #[.agg #[.slice p n c, .slice p2 n2 c2], .agg #[.slice p3 n3 c3, .slice p4 n4 c4]] W fun e w' => e = .returned (.bool bs) ∧ Below W.heap.size W w') := fun W hW => by rw [← ebs]; exact alike_tn (HTa.out W (bstep HB_W6.out hW)).1 (HTa.out W (bstep HB_W6.out hW)).2 HF.out.1 HF.out.2
  clear ebi ebs
  obtain ⟨xa0, xa1, _, _⟩ := XA_v15.out
  have xaz := cell_lt xa0
  obtain ⟨xb0, xb1, _, _⟩ := XB_v15.out
  have xbz := cell_lt xb0
  obtain ⟨x10, x11, _, _⟩ := X1_v15.out
  have x1z := cell_lt x10
  obtain ⟨x20, x21, _, _⟩ := X2_v15.out
  have x2z := cell_lt x20
  obtain ⟨x30, x31, _, _⟩ := X3_v15.out
  have x3z := cell_lt x30
  obtain ⟨x40, x41, _, _⟩ := X4_v15.out
  have x4z := cell_lt x40
  obtain ⟨x50, x51, _, _⟩ := X5_v15.out
  have x5z := cell_lt x50
  obtain ⟨x60, x61, _, _⟩ := X6_v15.out
  have x6z := cell_lt x60
  refine flow 44 105 (by kernel_rfl) rfl rfl (by kernel_rfl) ?_
  apply Exists.intro
  refine ⟨?_, ?_⟩
  · intro F hF
    have hFc := hF.cell
    have hFf := hF.frozen
    simp only [List.take_succ_cons, List.take_zero, List.eraseIdx_cons_succ, List.eraseIdx_cons_zero]
    repeat (go_big_quiet_step (first | with_reducible exact hF.call (l1.out _ (hF.below _)) | with_reducible exact hF.call (l2.out _ (hF.below _)) | with_reducible exact hF.call (l3.out _ (hF.below _)) | with_reducible exact hF.call (g1.out _ (hF.below _)) | with_reducible exact hF.call (g2.out _ (hF.below _)) | with_reducible exact hF.call (g3.out _ (hF.below _)) | with_reducible exact hF.call (g4.out _ (hF.below _))))
    refine wpQuiet_nil ?_
    exact rfl
  · intro Wz hbz
    simp only [List.drop_succ_cons, List.drop_zero]
    have HBz : Hid (Below w.heap.size w Wz) := bstep HB_W6.out hbz
    clear hbz
    go_wp2
    go_ret
    exact ⟨by simp, HBz.out⟩
end Go.Proofs.Ytbndiadgnglkhaa.Wd
