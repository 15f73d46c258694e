/- MatmMuls: any two tensors' product is as the document says: each number summed exactly, rounded once; and what Flip tells. -/
import Derived.Test.YthcfeiddbffcfaaDoorMtS
namespace Go.Proofs.YthcfeiddbffcfaaDoor.Wd
open Go.RowKit Fx
set_option linter.unusedVariables false
set_option linter.unusedSimpArgs false
theorem rmul_tn {D X D' X' : List Int} {v v' : Value} {W : World} (h : Tn D X v W) (h' : Tn D' X' v' W) (hD : RI D) (hX : RI X) (hD' : RI D') (hX' : RI X') :
    Calls Tryd.prog 19 #[v, v'] W fun e w' => ∃ u, e = .returned (.tuple #[u, .int .i64 (mE D X D' X')]) ∧ TRes w' W.heap.size u (mD D X D' X') (mV D X D' X') ∧ Below W.heap.size W w' := by
  obtain ⟨p, n, c, p2, n2, c2, rfl, h1, h2⟩ := h
  obtain ⟨p', n', c', p2', n2', c2', rfl, h1', h2'⟩ := h'
  exact rmul_any _ _ _ _ _ _ _ _ _ _ _ _ D X D' X' hD hX hD' hX' W h1 h2 h1' h2'
theorem rflip_tn {D X : List Int} {v : Value} {W : World} (h : Tn D X v W) (hD : RI D) :
    Calls Tryd.prog 20 #[v] W fun e w' => ∃ u, e = .returned (.tuple #[u, .int .i64 (flE D X)]) ∧ TRes w' W.heap.size u (flD D X) (flV D X) ∧ Below W.heap.size W w' := by
  obtain ⟨p, n, c, p2, n2, c2, rfl, h1, h2⟩ := h
  exact rflip_any _ _ _ _ _ _ D X hD W h1 h2
theorem m_few (d x d' y : List Int) : Few (mD d x d' y) ∧ Few (mV d x d' y) := by
  by_cases h : mE d x d' y = 0
  · obtain ⟨N, K, M', _, _, _, _, _, _, _, _, _, l3, e1, e2⟩ := mul_zero h
    rw [e1, e2]
    unfold Few
    rw [mulV_len]
    refine ⟨by simp, by omega⟩
  · have h1 : ¬ (mP d x d' y ∧ mG d d') := fun c => h (m_fine c.1 c.2).1
    unfold mD mV
    rw [if_neg h1, if_neg h1]
    unfold Few
    simp
theorem fl_few (d x : List Int) : Few (flD d x) ∧ Few (flV d x) := by
  unfold flD flV
  by_cases h : isP d x ∧ d.length = 2
  · obtain ⟨D0, D1, rfl, hx0, k0, k1, k2⟩ := two_sides h.1 h.2
    rw [if_pos h, if_pos h]
    unfold Few
    rw [flipV_len]
    refine ⟨by simp, ?_⟩
    show D0 * D1 ≤ _
    omega
  · rw [if_neg h, if_neg h]
    unfold Few
    simp
set_option maxRecDepth 8000 in
set_option maxHeartbeats 8000000 in
theorem mmuls_walk (w : World) (hT : Hid (Tz w)) (za : Nat → Int) (n c : Nat) (p : Option Addr) (zb : Nat → Int) (n2 c2 : Nat) (p2 : Option Addr) (zc : Nat → Int) (n3 c3 : Nat) (p3 : Option Addr) (zd : Nat → Int) (n4 c4 : Nat) (p4 : Option Addr)
    (r1 : RowN .i64 w p n c za) (r2 : RowN .i64 w p2 n2 c2 zb) (r3 : RowN .i64 w p3 n3 c3 zc) (r4 : RowN .i64 w p4 n4 c4 zd) :
    Calls Tryd.prog 4 #[.agg #[.slice p n c, .slice p2 n2 c2], .agg #[.slice p3 n3 c3, .slice p4 n4 c4]] w fun e w' => e = .returned (.bool true) ∧ Below w.heap.size w w' := by
  have HA : Hid (Nums .i64 w (.slice p n c) (nlst n za) ∧ Nums .i64 w (.slice p2 n2 c2) (nlst n2 zb) ∧ Nums .i64 w (.slice p3 n3 c3) (nlst n3 zc) ∧ Nums .i64 w (.slice p4 n4 c4) (nlst n4 zd)) := ⟨r1.nums, r2.nums, r3.nums, r4.nums⟩
  have HI : Hid (RI (nlst n za) ∧ RI (nlst n2 zb) ∧ RI (nlst n3 zc) ∧ RI (nlst n4 zd)) := ⟨r1.riI, r2.riI, r3.riI, r4.riI⟩
  have HF : Hid (Few (nlst n za) ∧ Few (nlst n2 zb) ∧ Few (nlst n3 zc) ∧ Few (nlst n4 zd)) := ⟨r1.few, r2.few, r3.few, r4.few⟩
  have HC : Hid (n2 ≤ c2 ∧ n4 ≤ c4) := ⟨r2.room, r4.room⟩
  obtain ⟨d, ed⟩ : ∃ d, nlst n za = d := ⟨_, rfl⟩
  obtain ⟨x, ex⟩ : ∃ x, nlst n2 zb = x := ⟨_, rfl⟩
  obtain ⟨d', ed'⟩ : ∃ d, nlst n3 zc = d := ⟨_, rfl⟩
  obtain ⟨y, ey⟩ : ∃ y, nlst n4 zd = y := ⟨_, rfl⟩
  rw [ed, ex, ed', ey] at HA HI HF
  clear ed ex ed' ey r1 r2 r3 r4
  have HTa : Hid (∀ W, Below w.heap.size w W → TnC d x (.agg #[.slice p n c, .slice p2 n2 c2]) W ∧ TnC d' y (.agg #[.slice p3 n3 c3, .slice p4 n4 c4]) W) := fun W hW => ⟨⟨_, _, _, _, _, _, rfl, HA.out.1.up hW, HA.out.2.1.up hW, HC.out.1⟩, _, _, _, _, _, _, rfl, HA.out.2.2.1.up hW, HA.out.2.2.2.up hW, HC.out.2⟩
  have HFw := m_few d x d' y
  have HFl := fl_few d x
  obtain ⟨E, eE⟩ : ∃ E, mE d x d' y = E := ⟨_, rfl⟩
  obtain ⟨MD, eMD⟩ : ∃ D, mD d x d' y = D := ⟨_, rfl⟩
  obtain ⟨MV, eMV⟩ : ∃ V, mV d x d' y = V := ⟨_, rfl⟩
  obtain ⟨G, eG⟩ : ∃ E, flE d x = E := ⟨_, rfl⟩
  obtain ⟨FD, eFD⟩ : ∃ D, flD d x = D := ⟨_, rfl⟩
  obtain ⟨FV, eFV⟩ : ∃ V, flV d x = V := ⟨_, rfl⟩
  rw [eMD, eMV] at HFw
  rw [eFD, eFV] at HFl
  have HFF : Hid (Few MD ∧ Few MV ∧ Few FD ∧ Few FV) := ⟨HFw.1, HFw.2, HFl.1, HFl.2⟩
  have HQ : Hid (mE d x d' y = E ∧ mD d x d' y = MD ∧ mV d x d' y = MV ∧ flE d x = G ∧ flD d x = FD ∧ flV d x = FV) := ⟨eE, eMD, eMV, eG, eFD, eFV⟩
  clear HFw HFl eE eMD eMV eG eFD eFV
  haveI : Nonempty World := ⟨w⟩
  go_enter Tryd.func4, Tryd.ntmps4
  go_wp2_with fail
  generalize hW0 : World.alloc _ _ = W0
  have HB_W0 : Hid (Below w.heap.size w W0) := by show Below _ _ _; rw [← hW0]; go_grown
  have XA_v0 : Hid (Cel W0 w.heap.size (.slice p n c) (.slice p2 n2 c2)) := by show Cel _ _ _ _; unfold Cel; rw [← hW0]; simp [go_sem]
  have XB_v0 : Hid (Cel W0 (w.heap.size + 1) (.slice p3 n3 c3) (.slice p4 n4 c4)) := by show Cel _ _ _ _; unfold Cel; rw [← hW0]; simp [go_sem]
  clear hW0
  refine (awake7_any W0 (Hid.up_tz hT HB_W0.out)).mono ?_
  rintro e wa ⟨rfl, hBa⟩
  have HB_wa : Hid (Below w.heap.size w wa) := bstep HB_W0.out hBa
  have XA_v1 : Hid (Cel wa w.heap.size (.slice p n c) (.slice p2 n2 c2)) := XA_v0.out.up hBa
  have XB_v1 : Hid (Cel wa (w.heap.size + 1) (.slice p3 n3 c3) (.slice p4 n4 c4)) := XB_v0.out.up hBa
  clear XA_v0 XB_v0
  clear hBa
  have cg := great7_any p p2 n c n2 c2 200 (by decide) wa
  by_cases hga : 10 < n ∨ 200 < n2
  · rw [decide_eq_true hga] at cg
    obtain ⟨xa0, xa1, _, _⟩ := XA_v1.out
    have xaz := cell_lt xa0
    obtain ⟨xb0, xb1, _, _⟩ := XB_v1.out
    have xbz := cell_lt xb0
    go_wp2_with fail
    refine (cg).mono ?_
    rintro e wb ⟨rfl, hBwb⟩
    have HB_wb : Hid (Below w.heap.size w wb) := bstep HB_wa.out hBwb
    have XA_v2 : Hid (Cel wb w.heap.size (.slice p n c) (.slice p2 n2 c2)) := XA_v1.out.up hBwb
    have XB_v2 : Hid (Cel wb (w.heap.size + 1) (.slice p3 n3 c3) (.slice p4 n4 c4)) := XB_v1.out.up hBwb
    clear XA_v1 XB_v1
    clear hBwb xa0 xa1 xaz xb0 xb1 xbz
    go_wp2
    go_ret
    exact ⟨rfl, HB_wb.out⟩
  rw [decide_eq_false hga] at cg
  obtain ⟨xa0, xa1, _, _⟩ := XA_v1.out
  have xaz := cell_lt xa0
  obtain ⟨xb0, xb1, _, _⟩ := XB_v1.out
  have xbz := cell_lt xb0
  go_wp2_with fail
  refine (cg).mono ?_
  rintro e wb ⟨rfl, hBwb⟩
  have HB_wb : Hid (Below w.heap.size w wb) := bstep HB_wa.out hBwb
  have XA_v2 : Hid (Cel wb w.heap.size (.slice p n c) (.slice p2 n2 c2)) := XA_v1.out.up hBwb
  have XB_v2 : Hid (Cel wb (w.heap.size + 1) (.slice p3 n3 c3) (.slice p4 n4 c4)) := XB_v1.out.up hBwb
  clear XA_v1 XB_v1
  clear hBwb xa0 xa1 xaz xb0 xb1 xbz
  clear cg
  clear hga
  have cg := great7_any p3 p4 n3 c3 n4 c4 200 (by decide) wb
  by_cases hga : 10 < n3 ∨ 200 < n4
  · rw [decide_eq_true hga] at cg
    obtain ⟨xa0, xa1, _, _⟩ := XA_v2.out
    have xaz := cell_lt xa0
    obtain ⟨xb0, xb1, _, _⟩ := XB_v2.out
    have xbz := cell_lt xb0
    go_wp2_with fail
    refine (cg).mono ?_
    rintro e wc ⟨rfl, hBwc⟩
    have HB_wc : Hid (Below w.heap.size w wc) := bstep HB_wb.out hBwc
    have XA_v3 : Hid (Cel wc w.heap.size (.slice p n c) (.slice p2 n2 c2)) := XA_v2.out.up hBwc
    have XB_v3 : Hid (Cel wc (w.heap.size + 1) (.slice p3 n3 c3) (.slice p4 n4 c4)) := XB_v2.out.up hBwc
    clear XA_v2 XB_v2
    clear hBwc xa0 xa1 xaz xb0 xb1 xbz
    go_wp2
    go_ret
    exact ⟨rfl, HB_wc.out⟩
  rw [decide_eq_false hga] at cg
  obtain ⟨xa0, xa1, _, _⟩ := XA_v2.out
  have xaz := cell_lt xa0
  obtain ⟨xb0, xb1, _, _⟩ := XB_v2.out
  have xbz := cell_lt xb0
  go_wp2_with fail
  refine (cg).mono ?_
  rintro e wc ⟨rfl, hBwc⟩
  have HB_wc : Hid (Below w.heap.size w wc) := bstep HB_wb.out hBwc
  have XA_v3 : Hid (Cel wc w.heap.size (.slice p n c) (.slice p2 n2 c2)) := XA_v2.out.up hBwc
  have XB_v3 : Hid (Cel wc (w.heap.size + 1) (.slice p3 n3 c3) (.slice p4 n4 c4)) := XB_v2.out.up hBwc
  clear XA_v2 XB_v2
  clear hBwc xa0 xa1 xaz xb0 xb1 xbz
  clear cg
  clear hga
  have cm := mul_tn (HTa.out wc HB_wc.out).1 (HTa.out wc HB_wc.out).2.tn HI.out.1 HI.out.2.1 HI.out.2.2.1 HI.out.2.2.2 (Hid.up_tz hT HB_wc.out)
  rw [HQ.out.1, HQ.out.2.1, HQ.out.2.2.1] at cm
  obtain ⟨xa0, xa1, _, _⟩ := XA_v3.out
  have xaz := cell_lt xa0
  obtain ⟨xb0, xb1, _, _⟩ := XB_v3.out
  have xbz := cell_lt xb0
  go_wp2_with fail
  refine (cm).mono ?_
  rintro e w1 ⟨v1, rfl, ⟨s1, t1, rfl, hs1, ht1⟩, hB1⟩
  obtain ⟨ps1, ns1, cs1, rfl, _⟩ := hs1.nums.lst
  obtain ⟨pt1, nt1, ct1, rfl, _⟩ := ht1.nums.lst
  have HB_w1 : Hid (Below w.heap.size w w1) := bstep HB_wc.out hB1
  have XA_v4 : Hid (Cel w1 w.heap.size (.slice p n c) (.slice p2 n2 c2)) := XA_v3.out.up hB1
  have XB_v4 : Hid (Cel w1 (w.heap.size + 1) (.slice p3 n3 c3) (.slice p4 n4 c4)) := XB_v3.out.up hB1
  clear XA_v3 XB_v3
  have T1_v4 : Hid (TnC MD MV (.agg #[.slice ps1 ns1 cs1, .slice pt1 nt1 ct1]) w1) := ⟨_, _, _, _, _, _, rfl, hs1.nums, ht1.nums, ht1.cap⟩
  clear hB1 hs1 ht1 xa0 xa1 xaz xb0 xb1 xbz
  obtain ⟨xa0, xa1, _, _⟩ := XA_v4.out
  have xaz := cell_lt xa0
  obtain ⟨xb0, xb1, _, _⟩ := XB_v4.out
  have xbz := cell_lt xb0
  go_wp2_with fail
  generalize hW1 : World.alloc _ _ = W1
  have hC1 : Below w1.heap.size w1 W1 := by rw [← hW1]; exact up_alloc w1 _
  have HB_W1 : Hid (Below w.heap.size w W1) := bstep HB_w1.out hC1
  have XA_v5 : Hid (Cel W1 w.heap.size (.slice p n c) (.slice p2 n2 c2)) := XA_v4.out.up hC1
  have XB_v5 : Hid (Cel W1 (w.heap.size + 1) (.slice p3 n3 c3) (.slice p4 n4 c4)) := XB_v4.out.up hC1
  have T1_v5 : Hid (TnC MD MV (.agg #[.slice ps1 ns1 cs1, .slice pt1 nt1 ct1]) W1) := T1_v4.out.up hC1
  clear XA_v4 XB_v4 T1_v4
  have X1_v5 : Hid (Cel W1 w1.heap.size (.slice ps1 ns1 cs1) (.slice pt1 nt1 ct1)) := by show Cel _ _ _ _; unfold Cel; rw [← hW1]; simp [go_sem]
  clear hW1 hC1 xa0 xa1 xaz xb0 xb1 xbz
  clear cm
  have cm := rmul_tn (HTa.out W1 HB_W1.out).1.tn (HTa.out W1 HB_W1.out).2.tn HI.out.1 HI.out.2.1 HI.out.2.2.1 HI.out.2.2.2
  rw [HQ.out.1, HQ.out.2.1, HQ.out.2.2.1] at cm
  obtain ⟨xa0, xa1, _, _⟩ := XA_v5.out
  have xaz := cell_lt xa0
  obtain ⟨xb0, xb1, _, _⟩ := XB_v5.out
  have xbz := cell_lt xb0
  obtain ⟨x10, x11, _, _⟩ := X1_v5.out
  have x1z := cell_lt x10
  go_wp2_with fail
  refine (cm).mono ?_
  rintro e w2 ⟨v2, rfl, ⟨s2, t2, rfl, hs2, ht2⟩, hB2⟩
  obtain ⟨ps2, ns2, cs2, rfl, _⟩ := hs2.nums.lst
  obtain ⟨pt2, nt2, ct2, rfl, _⟩ := ht2.nums.lst
  have HB_w2 : Hid (Below w.heap.size w w2) := bstep HB_W1.out hB2
  have XA_v6 : Hid (Cel w2 w.heap.size (.slice p n c) (.slice p2 n2 c2)) := XA_v5.out.up hB2
  have XB_v6 : Hid (Cel w2 (w.heap.size + 1) (.slice p3 n3 c3) (.slice p4 n4 c4)) := XB_v5.out.up hB2
  have T1_v6 : Hid (TnC MD MV (.agg #[.slice ps1 ns1 cs1, .slice pt1 nt1 ct1]) w2) := T1_v5.out.up hB2
  have X1_v6 : Hid (Cel w2 w1.heap.size (.slice ps1 ns1 cs1) (.slice pt1 nt1 ct1)) := X1_v5.out.up hB2
  clear XA_v5 XB_v5 T1_v5 X1_v5
  have T2_v6 : Hid (TnC MD MV (.agg #[.slice ps2 ns2 cs2, .slice pt2 nt2 ct2]) w2) := ⟨_, _, _, _, _, _, rfl, hs2.nums, ht2.nums, ht2.cap⟩
  clear hB2 hs2 ht2 xa0 xa1 xaz xb0 xb1 xbz x10 x11 x1z
  obtain ⟨xa0, xa1, _, _⟩ := XA_v6.out
  have xaz := cell_lt xa0
  obtain ⟨xb0, xb1, _, _⟩ := XB_v6.out
  have xbz := cell_lt xb0
  obtain ⟨x10, x11, _, _⟩ := X1_v6.out
  have x1z := cell_lt x10
  go_wp2_with fail
  generalize hW2 : World.alloc _ _ = W2
  have hC2 : Below w2.heap.size w2 W2 := by rw [← hW2]; exact up_alloc w2 _
  have HB_W2 : Hid (Below w.heap.size w W2) := bstep HB_w2.out hC2
  have XA_v7 : Hid (Cel W2 w.heap.size (.slice p n c) (.slice p2 n2 c2)) := XA_v6.out.up hC2
  have XB_v7 : Hid (Cel W2 (w.heap.size + 1) (.slice p3 n3 c3) (.slice p4 n4 c4)) := XB_v6.out.up hC2
  have T1_v7 : Hid (TnC MD MV (.agg #[.slice ps1 ns1 cs1, .slice pt1 nt1 ct1]) W2) := T1_v6.out.up hC2
  have X1_v7 : Hid (Cel W2 w1.heap.size (.slice ps1 ns1 cs1) (.slice pt1 nt1 ct1)) := X1_v6.out.up hC2
  have T2_v7 : Hid (TnC MD MV (.agg #[.slice ps2 ns2 cs2, .slice pt2 nt2 ct2]) W2) := T2_v6.out.up hC2
  clear XA_v6 XB_v6 T1_v6 X1_v6 T2_v6
  have X2_v7 : Hid (Cel W2 w2.heap.size (.slice ps2 ns2 cs2) (.slice pt2 nt2 ct2)) := by show Cel _ _ _ _; unfold Cel; rw [← hW2]; simp [go_sem]
  clear hW2 hC2 xa0 xa1 xaz xb0 xb1 xbz x10 x11 x1z
  clear cm
  have cm := flip_tn (HTa.out W2 HB_W2.out).1.tn HI.out.1
  rw [HQ.out.2.2.2.1, HQ.out.2.2.2.2.1, HQ.out.2.2.2.2.2] at cm
  obtain ⟨xa0, xa1, _, _⟩ := XA_v7.out
  have xaz := cell_lt xa0
  obtain ⟨xb0, xb1, _, _⟩ := XB_v7.out
  have xbz := cell_lt xb0
  obtain ⟨x10, x11, _, _⟩ := X1_v7.out
  have x1z := cell_lt x10
  obtain ⟨x20, x21, _, _⟩ := X2_v7.out
  have x2z := cell_lt x20
  go_wp2_with fail
  refine (cm).mono ?_
  rintro e w3 ⟨v3, rfl, ⟨s3, t3, rfl, hs3, ht3⟩, hB3⟩
  obtain ⟨ps3, ns3, cs3, rfl, _⟩ := hs3.nums.lst
  obtain ⟨pt3, nt3, ct3, rfl, _⟩ := ht3.nums.lst
  have HB_w3 : Hid (Below w.heap.size w w3) := bstep HB_W2.out hB3
  have XA_v8 : Hid (Cel w3 w.heap.size (.slice p n c) (.slice p2 n2 c2)) := XA_v7.out.up hB3
  have XB_v8 : Hid (Cel w3 (w.heap.size + 1) (.slice p3 n3 c3) (.slice p4 n4 c4)) := XB_v7.out.up hB3
  have T1_v8 : Hid (TnC MD MV (.agg #[.slice ps1 ns1 cs1, .slice pt1 nt1 ct1]) w3) := T1_v7.out.up hB3
  have X1_v8 : Hid (Cel w3 w1.heap.size (.slice ps1 ns1 cs1) (.slice pt1 nt1 ct1)) := X1_v7.out.up hB3
  have T2_v8 : Hid (TnC MD MV (.agg #[.slice ps2 ns2 cs2, .slice pt2 nt2 ct2]) w3) := T2_v7.out.up hB3
  have X2_v8 : Hid (Cel w3 w2.heap.size (.slice ps2 ns2 cs2) (.slice pt2 nt2 ct2)) := X2_v7.out.up hB3
  clear XA_v7 XB_v7 T1_v7 X1_v7 T2_v7 X2_v7
  have T3_v8 : Hid (TnC FD FV (.agg #[.slice ps3 ns3 cs3, .slice pt3 nt3 ct3]) w3) := ⟨_, _, _, _, _, _, rfl, hs3.nums, ht3.nums, ht3.cap⟩
  clear hB3 hs3 ht3 xa0 xa1 xaz xb0 xb1 xbz x10 x11 x1z x20 x21 x2z
  obtain ⟨xa0, xa1, _, _⟩ := XA_v8.out
  have xaz := cell_lt xa0
  obtain ⟨xb0, xb1, _, _⟩ := XB_v8.out
  have xbz := cell_lt xb0
  obtain ⟨x10, x11, _, _⟩ := X1_v8.out
  have x1z := cell_lt x10
  obtain ⟨x20, x21, _, _⟩ := X2_v8.out
  have x2z := cell_lt x20
  go_wp2_with fail
  generalize hW3 : World.alloc _ _ = W3
  have hC3 : Below w3.heap.size w3 W3 := by rw [← hW3]; exact up_alloc w3 _
  have HB_W3 : Hid (Below w.heap.size w W3) := bstep HB_w3.out hC3
  have XA_v9 : Hid (Cel W3 w.heap.size (.slice p n c) (.slice p2 n2 c2)) := XA_v8.out.up hC3
  have XB_v9 : Hid (Cel W3 (w.heap.size + 1) (.slice p3 n3 c3) (.slice p4 n4 c4)) := XB_v8.out.up hC3
  have T1_v9 : Hid (TnC MD MV (.agg #[.slice ps1 ns1 cs1, .slice pt1 nt1 ct1]) W3) := T1_v8.out.up hC3
  have X1_v9 : Hid (Cel W3 w1.heap.size (.slice ps1 ns1 cs1) (.slice pt1 nt1 ct1)) := X1_v8.out.up hC3
  have T2_v9 : Hid (TnC MD MV (.agg #[.slice ps2 ns2 cs2, .slice pt2 nt2 ct2]) W3) := T2_v8.out.up hC3
  have X2_v9 : Hid (Cel W3 w2.heap.size (.slice ps2 ns2 cs2) (.slice pt2 nt2 ct2)) := X2_v8.out.up hC3
  have T3_v9 : Hid (TnC FD FV (.agg #[.slice ps3 ns3 cs3, .slice pt3 nt3 ct3]) W3) := T3_v8.out.up hC3
  clear XA_v8 XB_v8 T1_v8 X1_v8 T2_v8 X2_v8 T3_v8
  have X3_v9 : Hid (Cel W3 w3.heap.size (.slice ps3 ns3 cs3) (.slice pt3 nt3 ct3)) := by show Cel _ _ _ _; unfold Cel; rw [← hW3]; simp [go_sem]
  clear hW3 hC3 xa0 xa1 xaz xb0 xb1 xbz x10 x11 x1z x20 x21 x2z
  clear cm
  have cm := rflip_tn (HTa.out W3 HB_W3.out).1.tn HI.out.1
  rw [HQ.out.2.2.2.1, HQ.out.2.2.2.2.1, HQ.out.2.2.2.2.2] at cm
  obtain ⟨xa0, xa1, _, _⟩ := XA_v9.out
  have xaz := cell_lt xa0
  obtain ⟨xb0, xb1, _, _⟩ := XB_v9.out
  have xbz := cell_lt xb0
  obtain ⟨x10, x11, _, _⟩ := X1_v9.out
  have x1z := cell_lt x10
  obtain ⟨x20, x21, _, _⟩ := X2_v9.out
  have x2z := cell_lt x20
  obtain ⟨x30, x31, _, _⟩ := X3_v9.out
  have x3z := cell_lt x30
  go_wp2_with fail
  refine (cm).mono ?_
  rintro e w4 ⟨v4, rfl, ⟨s4, t4, rfl, hs4, ht4⟩, hB4⟩
  obtain ⟨ps4, ns4, cs4, rfl, _⟩ := hs4.nums.lst
  obtain ⟨pt4, nt4, ct4, rfl, _⟩ := ht4.nums.lst
  have HB_w4 : Hid (Below w.heap.size w w4) := bstep HB_W3.out hB4
  have XA_v10 : Hid (Cel w4 w.heap.size (.slice p n c) (.slice p2 n2 c2)) := XA_v9.out.up hB4
  have XB_v10 : Hid (Cel w4 (w.heap.size + 1) (.slice p3 n3 c3) (.slice p4 n4 c4)) := XB_v9.out.up hB4
  have T1_v10 : Hid (TnC MD MV (.agg #[.slice ps1 ns1 cs1, .slice pt1 nt1 ct1]) w4) := T1_v9.out.up hB4
  have X1_v10 : Hid (Cel w4 w1.heap.size (.slice ps1 ns1 cs1) (.slice pt1 nt1 ct1)) := X1_v9.out.up hB4
  have T2_v10 : Hid (TnC MD MV (.agg #[.slice ps2 ns2 cs2, .slice pt2 nt2 ct2]) w4) := T2_v9.out.up hB4
  have X2_v10 : Hid (Cel w4 w2.heap.size (.slice ps2 ns2 cs2) (.slice pt2 nt2 ct2)) := X2_v9.out.up hB4
  have T3_v10 : Hid (TnC FD FV (.agg #[.slice ps3 ns3 cs3, .slice pt3 nt3 ct3]) w4) := T3_v9.out.up hB4
  have X3_v10 : Hid (Cel w4 w3.heap.size (.slice ps3 ns3 cs3) (.slice pt3 nt3 ct3)) := X3_v9.out.up hB4
  clear XA_v9 XB_v9 T1_v9 X1_v9 T2_v9 X2_v9 T3_v9 X3_v9
  have T4_v10 : Hid (TnC FD FV (.agg #[.slice ps4 ns4 cs4, .slice pt4 nt4 ct4]) w4) := ⟨_, _, _, _, _, _, rfl, hs4.nums, ht4.nums, ht4.cap⟩
  clear hB4 hs4 ht4 xa0 xa1 xaz xb0 xb1 xbz x10 x11 x1z x20 x21 x2z x30 x31 x3z
  obtain ⟨xa0, xa1, _, _⟩ := XA_v10.out
  have xaz := cell_lt xa0
  obtain ⟨xb0, xb1, _, _⟩ := XB_v10.out
  have xbz := cell_lt xb0
  obtain ⟨x10, x11, _, _⟩ := X1_v10.out
  have x1z := cell_lt x10
  obtain ⟨x20, x21, _, _⟩ := X2_v10.out
  have x2z := cell_lt x20
  obtain ⟨x30, x31, _, _⟩ := X3_v10.out
  have x3z := cell_lt x30
  go_wp2_with fail
  generalize hW4 : World.alloc _ _ = W4
  have hC4 : Below w4.heap.size w4 W4 := by rw [← hW4]; exact up_alloc w4 _
  have HB_W4 : Hid (Below w.heap.size w W4) := bstep HB_w4.out hC4
  have XA_v11 : Hid (Cel W4 w.heap.size (.slice p n c) (.slice p2 n2 c2)) := XA_v10.out.up hC4
  have XB_v11 : Hid (Cel W4 (w.heap.size + 1) (.slice p3 n3 c3) (.slice p4 n4 c4)) := XB_v10.out.up hC4
  have T1_v11 : Hid (TnC MD MV (.agg #[.slice ps1 ns1 cs1, .slice pt1 nt1 ct1]) W4) := T1_v10.out.up hC4
  have X1_v11 : Hid (Cel W4 w1.heap.size (.slice ps1 ns1 cs1) (.slice pt1 nt1 ct1)) := X1_v10.out.up hC4
  have T2_v11 : Hid (TnC MD MV (.agg #[.slice ps2 ns2 cs2, .slice pt2 nt2 ct2]) W4) := T2_v10.out.up hC4
  have X2_v11 : Hid (Cel W4 w2.heap.size (.slice ps2 ns2 cs2) (.slice pt2 nt2 ct2)) := X2_v10.out.up hC4
  have T3_v11 : Hid (TnC FD FV (.agg #[.slice ps3 ns3 cs3, .slice pt3 nt3 ct3]) W4) := T3_v10.out.up hC4
  have X3_v11 : Hid (Cel W4 w3.heap.size (.slice ps3 ns3 cs3) (.slice pt3 nt3 ct3)) := X3_v10.out.up hC4
  have T4_v11 : Hid (TnC FD FV (.agg #[.slice ps4 ns4 cs4, .slice pt4 nt4 ct4]) W4) := T4_v10.out.up hC4
  clear XA_v10 XB_v10 T1_v10 X1_v10 T2_v10 X2_v10 T3_v10 X3_v10 T4_v10
  have X4_v11 : Hid (Cel W4 w4.heap.size (.slice ps4 ns4 cs4) (.slice pt4 nt4 ct4)) := by show Cel _ _ _ _; unfold Cel; rw [← hW4]; simp [go_sem]
  clear hW4 hC4 xa0 xa1 xaz xb0 xb1 xbz x10 x11 x1z x20 x21 x2z x30 x31 x3z
  clear cm
  have ca := alike_tn T1_v11.out.tn T2_v11.out.tn HFF.out.1 HFF.out.2.1
  rw [decide_eq_true ⟨rfl, rfl⟩] at ca
  obtain ⟨xa0, xa1, _, _⟩ := XA_v11.out
  have xaz := cell_lt xa0
  obtain ⟨xb0, xb1, _, _⟩ := XB_v11.out
  have xbz := cell_lt xb0
  obtain ⟨x10, x11, _, _⟩ := X1_v11.out
  have x1z := cell_lt x10
  obtain ⟨x20, x21, _, _⟩ := X2_v11.out
  have x2z := cell_lt x20
  obtain ⟨x30, x31, _, _⟩ := X3_v11.out
  have x3z := cell_lt x30
  obtain ⟨x40, x41, _, _⟩ := X4_v11.out
  have x4z := cell_lt x40
  go_wp2_with fail
  refine (ca).mono ?_
  rintro e wy ⟨rfl, hBwy⟩
  have HB_wy : Hid (Below w.heap.size w wy) := bstep HB_W4.out hBwy
  have XA_v12 : Hid (Cel wy w.heap.size (.slice p n c) (.slice p2 n2 c2)) := XA_v11.out.up hBwy
  have XB_v12 : Hid (Cel wy (w.heap.size + 1) (.slice p3 n3 c3) (.slice p4 n4 c4)) := XB_v11.out.up hBwy
  have T1_v12 : Hid (TnC MD MV (.agg #[.slice ps1 ns1 cs1, .slice pt1 nt1 ct1]) wy) := T1_v11.out.up hBwy
  have X1_v12 : Hid (Cel wy w1.heap.size (.slice ps1 ns1 cs1) (.slice pt1 nt1 ct1)) := X1_v11.out.up hBwy
  have T2_v12 : Hid (TnC MD MV (.agg #[.slice ps2 ns2 cs2, .slice pt2 nt2 ct2]) wy) := T2_v11.out.up hBwy
  have X2_v12 : Hid (Cel wy w2.heap.size (.slice ps2 ns2 cs2) (.slice pt2 nt2 ct2)) := X2_v11.out.up hBwy
  have T3_v12 : Hid (TnC FD FV (.agg #[.slice ps3 ns3 cs3, .slice pt3 nt3 ct3]) wy) := T3_v11.out.up hBwy
  have X3_v12 : Hid (Cel wy w3.heap.size (.slice ps3 ns3 cs3) (.slice pt3 nt3 ct3)) := X3_v11.out.up hBwy
  have T4_v12 : Hid (TnC FD FV (.agg #[.slice ps4 ns4 cs4, .slice pt4 nt4 ct4]) wy) := T4_v11.out.up hBwy
  have X4_v12 : Hid (Cel wy w4.heap.size (.slice ps4 ns4 cs4) (.slice pt4 nt4 ct4)) := X4_v11.out.up hBwy
  clear XA_v11 XB_v11 T1_v11 X1_v11 T2_v11 X2_v11 T3_v11 X3_v11 T4_v11 X4_v11
  clear hBwy xa0 xa1 xaz xb0 xb1 xbz x10 x11 x1z x20 x21 x2z x30 x31 x3z x40 x41 x4z
  clear ca
  have ca := alike_tn T3_v12.out.tn T4_v12.out.tn HFF.out.2.2.1 HFF.out.2.2.2
  rw [decide_eq_true ⟨rfl, rfl⟩] at ca
  obtain ⟨xa0, xa1, _, _⟩ := XA_v12.out
  have xaz := cell_lt xa0
  obtain ⟨xb0, xb1, _, _⟩ := XB_v12.out
  have xbz := cell_lt xb0
  obtain ⟨x10, x11, _, _⟩ := X1_v12.out
  have x1z := cell_lt x10
  obtain ⟨x20, x21, _, _⟩ := X2_v12.out
  have x2z := cell_lt x20
  obtain ⟨x30, x31, _, _⟩ := X3_v12.out
  have x3z := cell_lt x30
  obtain ⟨x40, x41, _, _⟩ := X4_v12.out
  have x4z := cell_lt x40
  go_wp2_with fail
  refine (ca).mono ?_
  rintro e wz ⟨rfl, hBwz⟩
  have HB_wz : Hid (Below w.heap.size w wz) := bstep HB_wy.out hBwz
  have XA_v13 : Hid (Cel wz w.heap.size (.slice p n c) (.slice p2 n2 c2)) := XA_v12.out.up hBwz
  have XB_v13 : Hid (Cel wz (w.heap.size + 1) (.slice p3 n3 c3) (.slice p4 n4 c4)) := XB_v12.out.up hBwz
  have T1_v13 : Hid (TnC MD MV (.agg #[.slice ps1 ns1 cs1, .slice pt1 nt1 ct1]) wz) := T1_v12.out.up hBwz
  have X1_v13 : Hid (Cel wz w1.heap.size (.slice ps1 ns1 cs1) (.slice pt1 nt1 ct1)) := X1_v12.out.up hBwz
  have T2_v13 : Hid (TnC MD MV (.agg #[.slice ps2 ns2 cs2, .slice pt2 nt2 ct2]) wz) := T2_v12.out.up hBwz
  have X2_v13 : Hid (Cel wz w2.heap.size (.slice ps2 ns2 cs2) (.slice pt2 nt2 ct2)) := X2_v12.out.up hBwz
  have T3_v13 : Hid (TnC FD FV (.agg #[.slice ps3 ns3 cs3, .slice pt3 nt3 ct3]) wz) := T3_v12.out.up hBwz
  have X3_v13 : Hid (Cel wz w3.heap.size (.slice ps3 ns3 cs3) (.slice pt3 nt3 ct3)) := X3_v12.out.up hBwz
  have T4_v13 : Hid (TnC FD FV (.agg #[.slice ps4 ns4 cs4, .slice pt4 nt4 ct4]) wz) := T4_v12.out.up hBwz
  have X4_v13 : Hid (Cel wz w4.heap.size (.slice ps4 ns4 cs4) (.slice pt4 nt4 ct4)) := X4_v12.out.up hBwz
  clear XA_v12 XB_v12 T1_v12 X1_v12 T2_v12 X2_v12 T3_v12 X3_v12 T4_v12 X4_v12
  clear hBwz xa0 xa1 xaz xb0 xb1 xbz x10 x11 x1z x20 x21 x2z x30 x31 x3z x40 x41 x4z
  go_wp2
  go_ret
  exact ⟨rfl, HB_wz.out⟩
end Go.Proofs.YthcfeiddbffcfaaDoor.Wd
