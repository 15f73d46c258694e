/- MatmFlips: a product turned round is the product of the turned ones, the other way round. -/
import Derived.Test.YthcfeiddbffcfaaDoorMtN
namespace Go.Proofs.YthcfeiddbffcfaaDoor.Wd
open Go.RowKit Fx
set_option linter.unusedVariables false
set_option linter.unusedSimpArgs false
set_option maxRecDepth 8000 in
set_option maxHeartbeats 8000000 in
theorem mflips_walk (w : World) (hT : Hid (Tz w)) (za : Nat → Int) (n c : Nat) (p : Option Addr) (zb : Nat → Int) (n2 c2 : Nat) (p2 : Option Addr) (zc : Nat → Int) (n3 c3 : Nat) (p3 : Option Addr) (zd : Nat → Int) (n4 c4 : Nat) (p4 : Option Addr)
    (r1 : RowN .i64 w p n c za) (r2 : RowN .i64 w p2 n2 c2 zb) (r3 : RowN .i64 w p3 n3 c3 zc) (r4 : RowN .i64 w p4 n4 c4 zd) :
    Calls Tryd.prog 7 #[.agg #[.slice p n c, .slice p2 n2 c2], .agg #[.slice p3 n3 c3, .slice p4 n4 c4]] w fun e w' => e = .returned (.bool true) ∧ Below w.heap.size w w' := by
  have HA : Hid (Nums .i64 w (.slice p n c) (nlst n za) ∧ Nums .i64 w (.slice p2 n2 c2) (nlst n2 zb) ∧ Nums .i64 w (.slice p3 n3 c3) (nlst n3 zc) ∧ Nums .i64 w (.slice p4 n4 c4) (nlst n4 zd)) := ⟨r1.nums, r2.nums, r3.nums, r4.nums⟩
  have HI : Hid (RI (nlst n za) ∧ RI (nlst n2 zb) ∧ RI (nlst n3 zc) ∧ RI (nlst n4 zd)) := ⟨r1.riI, r2.riI, r3.riI, r4.riI⟩
  have HF : Hid (Few (nlst n za) ∧ Few (nlst n2 zb) ∧ Few (nlst n3 zc) ∧ Few (nlst n4 zd)) := ⟨r1.few, r2.few, r3.few, r4.few⟩
  have HC : Hid (n2 ≤ c2 ∧ n4 ≤ c4) := ⟨r2.room, r4.room⟩
  obtain ⟨d, ed⟩ : ∃ d, nlst n za = d := ⟨_, rfl⟩
  obtain ⟨x, ex⟩ : ∃ x, nlst n2 zb = x := ⟨_, rfl⟩
  obtain ⟨d', ed'⟩ : ∃ d, nlst n3 zc = d := ⟨_, rfl⟩
  obtain ⟨y, ey⟩ : ∃ y, nlst n4 zd = y := ⟨_, rfl⟩
  rw [ed, ex, ed', ey] at HA HI HF
  clear ed ex ed' ey r1 r2 r3 r4
  have HTa : Hid (∀ W, Below w.heap.size w W → TnC d x (.agg #[.slice p n c, .slice p2 n2 c2]) W ∧ TnC d' y (.agg #[.slice p3 n3 c3, .slice p4 n4 c4]) W) := fun W hW => ⟨⟨_, _, _, _, _, _, rfl, HA.out.1.up hW, HA.out.2.1.up hW, HC.out.1⟩, _, _, _, _, _, _, rfl, HA.out.2.2.1.up hW, HA.out.2.2.2.up hW, HC.out.2⟩
  haveI : Nonempty World := ⟨w⟩
  go_enter Tryd.func7, Tryd.ntmps7
  go_wp2_with fail
  generalize hW0 : World.alloc _ _ = W0
  have HB_W0 : Hid (Below w.heap.size w W0) := by show Below _ _ _; rw [← hW0]; go_grown
  have XA_v0 : Hid (Cel W0 w.heap.size (.slice p n c) (.slice p2 n2 c2)) := by show Cel _ _ _ _; unfold Cel; rw [← hW0]; simp [go_sem]
  have XB_v0 : Hid (Cel W0 (w.heap.size + 1) (.slice p3 n3 c3) (.slice p4 n4 c4)) := by show Cel _ _ _ _; unfold Cel; rw [← hW0]; simp [go_sem]
  clear hW0
  refine (awake7_any W0 (Hid.up_tz hT HB_W0.out)).mono ?_
  rintro e wa ⟨rfl, hBa⟩
  have HB_wa : Hid (Below w.heap.size w wa) := bstep HB_W0.out hBa
  have XA_v1 : Hid (Cel wa w.heap.size (.slice p n c) (.slice p2 n2 c2)) := XA_v0.out.up hBa
  have XB_v1 : Hid (Cel wa (w.heap.size + 1) (.slice p3 n3 c3) (.slice p4 n4 c4)) := XB_v0.out.up hBa
  clear XA_v0 XB_v0
  clear hBa
  have cg := great7_any p p2 n c n2 c2 200 (by decide) wa
  by_cases hga : 10 < n ∨ 200 < n2
  · rw [decide_eq_true hga] at cg
    obtain ⟨xa0, xa1, _, _⟩ := XA_v1.out
    have xaz := cell_lt xa0
    obtain ⟨xb0, xb1, _, _⟩ := XB_v1.out
    have xbz := cell_lt xb0
    go_wp2_with fail
    refine (cg).mono ?_
    rintro e wb ⟨rfl, hBwb⟩
    have HB_wb : Hid (Below w.heap.size w wb) := bstep HB_wa.out hBwb
    have XA_v2 : Hid (Cel wb w.heap.size (.slice p n c) (.slice p2 n2 c2)) := XA_v1.out.up hBwb
    have XB_v2 : Hid (Cel wb (w.heap.size + 1) (.slice p3 n3 c3) (.slice p4 n4 c4)) := XB_v1.out.up hBwb
    clear XA_v1 XB_v1
    clear hBwb xa0 xa1 xaz xb0 xb1 xbz
    go_wp2
    go_ret
    exact ⟨rfl, HB_wb.out⟩
  rw [decide_eq_false hga] at cg
  obtain ⟨xa0, xa1, _, _⟩ := XA_v1.out
  have xaz := cell_lt xa0
  obtain ⟨xb0, xb1, _, _⟩ := XB_v1.out
  have xbz := cell_lt xb0
  go_wp2_with fail
  refine (cg).mono ?_
  rintro e wb ⟨rfl, hBwb⟩
  have HB_wb : Hid (Below w.heap.size w wb) := bstep HB_wa.out hBwb
  have XA_v2 : Hid (Cel wb w.heap.size (.slice p n c) (.slice p2 n2 c2)) := XA_v1.out.up hBwb
  have XB_v2 : Hid (Cel wb (w.heap.size + 1) (.slice p3 n3 c3) (.slice p4 n4 c4)) := XB_v1.out.up hBwb
  clear XA_v1 XB_v1
  clear hBwb xa0 xa1 xaz xb0 xb1 xbz
  clear cg
  clear hga
  have cg := great7_any p3 p4 n3 c3 n4 c4 200 (by decide) wb
  by_cases hga : 10 < n3 ∨ 200 < n4
  · rw [decide_eq_true hga] at cg
    obtain ⟨xa0, xa1, _, _⟩ := XA_v2.out
    have xaz := cell_lt xa0
    obtain ⟨xb0, xb1, _, _⟩ := XB_v2.out
    have xbz := cell_lt xb0
    go_wp2_with fail
    refine (cg).mono ?_
    rintro e wc ⟨rfl, hBwc⟩
    have HB_wc : Hid (Below w.heap.size w wc) := bstep HB_wb.out hBwc
    have XA_v3 : Hid (Cel wc w.heap.size (.slice p n c) (.slice p2 n2 c2)) := XA_v2.out.up hBwc
    have XB_v3 : Hid (Cel wc (w.heap.size + 1) (.slice p3 n3 c3) (.slice p4 n4 c4)) := XB_v2.out.up hBwc
    clear XA_v2 XB_v2
    clear hBwc xa0 xa1 xaz xb0 xb1 xbz
    go_wp2
    go_ret
    exact ⟨rfl, HB_wc.out⟩
  rw [decide_eq_false hga] at cg
  obtain ⟨xa0, xa1, _, _⟩ := XA_v2.out
  have xaz := cell_lt xa0
  obtain ⟨xb0, xb1, _, _⟩ := XB_v2.out
  have xbz := cell_lt xb0
  go_wp2_with fail
  refine (cg).mono ?_
  rintro e wc ⟨rfl, hBwc⟩
  have HB_wc : Hid (Below w.heap.size w wc) := bstep HB_wb.out hBwc
  have XA_v3 : Hid (Cel wc w.heap.size (.slice p n c) (.slice p2 n2 c2)) := XA_v2.out.up hBwc
  have XB_v3 : Hid (Cel wc (w.heap.size + 1) (.slice p3 n3 c3) (.slice p4 n4 c4)) := XB_v2.out.up hBwc
  clear XA_v2 XB_v2
  clear hBwc xa0 xa1 xaz xb0 xb1 xbz
  clear cg
  clear hga
  obtain ⟨E, eE⟩ : ∃ E, mE d x d' y = E := ⟨_, rfl⟩
  have cm := mul_tn (HTa.out wc HB_wc.out).1 (HTa.out wc HB_wc.out).2.tn HI.out.1 HI.out.2.1 HI.out.2.2.1 HI.out.2.2.2 (Hid.up_tz hT HB_wc.out)
  obtain ⟨MD, eMD⟩ : ∃ D, mD d x d' y = D := ⟨_, rfl⟩
  obtain ⟨MV, eMV⟩ : ∃ V, mV d x d' y = V := ⟨_, rfl⟩
  rw [eE, eMD, eMV] at cm
  obtain ⟨xa0, xa1, _, _⟩ := XA_v3.out
  have xaz := cell_lt xa0
  obtain ⟨xb0, xb1, _, _⟩ := XB_v3.out
  have xbz := cell_lt xb0
  go_wp2_with fail
  refine (cm).mono ?_
  rintro e w1 ⟨v1, rfl, ⟨s1, t1, rfl, hs1, ht1⟩, hB1⟩
  obtain ⟨ps1, ns1, cs1, rfl, _⟩ := hs1.nums.lst
  obtain ⟨pt1, nt1, ct1, rfl, _⟩ := ht1.nums.lst
  have HB_w1 : Hid (Below w.heap.size w w1) := bstep HB_wc.out hB1
  have XA_v4 : Hid (Cel w1 w.heap.size (.slice p n c) (.slice p2 n2 c2)) := XA_v3.out.up hB1
  have XB_v4 : Hid (Cel w1 (w.heap.size + 1) (.slice p3 n3 c3) (.slice p4 n4 c4)) := XB_v3.out.up hB1
  clear XA_v3 XB_v3
  have T1_v4 : Hid (TnC MD MV (.agg #[.slice ps1 ns1 cs1, .slice pt1 nt1 ct1]) w1) := ⟨_, _, _, _, _, _, rfl, hs1.nums, ht1.nums, ht1.cap⟩
  clear hB1 hs1 ht1 xa0 xa1 xaz xb0 xb1 xbz
  clear cm
  rcases (Decidable.em (E = 0)).symm with h0 | h0
  · have h0' : (E != 0) = true := by simpa using h0
    obtain ⟨xa0, xa1, _, _⟩ := XA_v4.out
    have xaz := cell_lt xa0
    obtain ⟨xb0, xb1, _, _⟩ := XB_v4.out
    have xbz := cell_lt xb0
    go_wp2
    go_ret
    exact ⟨rfl, bstep HB_w1.out (up_alloc _ _)⟩
  rw [h0] at eE
  subst h0
  obtain ⟨N, K, M', rfl, rfl, hx0, hy0, k1, k2, k3, l1, l2, l3, f1, f2⟩ := mul_zero eE
  rw [f1] at eMD
  rw [f2] at eMV
  subst eMD eMV
  have hy1 : (mulV N K M' x y).length = N * M' := mulV_len _ _ _ _ _
  have F1 := fl_at hy1 k1 k3 l3
  have F2 := fl_at hx0 k1 k2 l1
  have F3 := fl_at hy0 k2 k3 l2
  have hu : (flipV N K x).length = K * N := by rw [flipV_len, Nat.mul_comm]
  have hv : (flipV K M' y).length = M' * K := by rw [flipV_len, Nat.mul_comm]
  have F4 := m_at hv hu k3 k2 k1 (by rw [Nat.mul_comm]; exact l2) (by rw [Nat.mul_comm]; exact l1) (by rw [Nat.mul_comm]; exact l3)
  have F5 := fl_at hu k2 k1 (by rw [Nat.mul_comm]; exact l1)
  rw [flip_back hx0] at F5
  rw [← flip_mul] at F4
  have s1 := le_side l1 k1 k2
  have s2 := le_side l2 k2 k3
  have HZ : Hid (RI x ∧ RI y ∧ Few x ∧ N ≤ 4096 ∧ K ≤ 4096 ∧ M' ≤ 4096 ∧ N * M' ≤ 4096) := ⟨HI.out.2.1, HI.out.2.2.2, HF.out.2.1, s1.1, s1.2, s2.2, l3⟩
  have r1 : Hid (RI [(N : Int), (K : Int)] ∧ RI [(K : Int), (M' : Int)] ∧ RI [(N : Int), (M' : Int)] ∧ RI [(M' : Int), (K : Int)] ∧ RI [(K : Int), (N : Int)]) := ⟨RI_two s1.1 s1.2, RI_two s1.2 s2.2, RI_two s1.1 s2.2, RI_two s2.2 s1.2, RI_two s1.2 s1.1⟩
  have HFl : Hid (Few (flipV N M' (mulV N K M' x y))) := by
    show _ ≤ _
    rw [flipV_len]
    omega
  obtain ⟨P1, eP1⟩ : ∃ P, mulV N K M' x y = P := ⟨_, rfl⟩
  obtain ⟨P2, eP2⟩ : ∃ P, flipV N M' P1 = P := ⟨_, rfl⟩
  obtain ⟨U, eU⟩ : ∃ P, flipV N K x = P := ⟨_, rfl⟩
  obtain ⟨V, eV⟩ : ∃ P, flipV K M' y = P := ⟨_, rfl⟩
  have HRU : Hid (RI U ∧ RI V) := ⟨by rw [← eU]; exact RI_flip HZ.out.1, by rw [← eV]; exact RI_flip HZ.out.2.1⟩
  rw [eP1, eP2] at HFl F1
  rw [eU] at F2 F5
  rw [eV] at F3
  rw [eU, eV, eP1, eP2] at F4
  rw [eP1] at T1_v4
  clear eP1 eP2 eU eV hy1 hu hv hx0 hy0 k1 k2 k3 l1 l2 l3 eE f1 f2 s1 s2
  obtain ⟨xa0, xa1, _, _⟩ := XA_v4.out
  have xaz := cell_lt xa0
  obtain ⟨xb0, xb1, _, _⟩ := XB_v4.out
  have xbz := cell_lt xb0
  go_wp2_with fail
  generalize hW1 : World.alloc _ _ = W1
  have hC1 : Below w1.heap.size w1 W1 := by rw [← hW1]; exact up_alloc w1 _
  have HB_W1 : Hid (Below w.heap.size w W1) := bstep HB_w1.out hC1
  have XA_v5 : Hid (Cel W1 w.heap.size (.slice p n c) (.slice p2 n2 c2)) := XA_v4.out.up hC1
  have XB_v5 : Hid (Cel W1 (w.heap.size + 1) (.slice p3 n3 c3) (.slice p4 n4 c4)) := XB_v4.out.up hC1
  have T1_v5 : Hid (TnC [(N : Int), (M' : Int)] P1 (.agg #[.slice ps1 ns1 cs1, .slice pt1 nt1 ct1]) W1) := T1_v4.out.up hC1
  clear XA_v4 XB_v4 T1_v4
  have X1_v5 : Hid (Cel W1 w1.heap.size (.slice ps1 ns1 cs1) (.slice pt1 nt1 ct1)) := by show Cel _ _ _ _; unfold Cel; rw [← hW1]; simp [go_sem]
  clear hW1 hC1 xa0 xa1 xaz xb0 xb1 xbz
  have cf := flip_tn T1_v5.out.tn r1.out.2.2.1
  rw [F1.1, F1.2.1, F1.2.2] at cf
  obtain ⟨xa0, xa1, _, _⟩ := XA_v5.out
  have xaz := cell_lt xa0
  obtain ⟨xb0, xb1, _, _⟩ := XB_v5.out
  have xbz := cell_lt xb0
  obtain ⟨x10, x11, _, _⟩ := X1_v5.out
  have x1z := cell_lt x10
  go_wp2_with fail
  refine (cf).mono ?_
  rintro e w2 ⟨v2, rfl, ⟨s2, t2, rfl, hs2, ht2⟩, hB2⟩
  obtain ⟨ps2, ns2, cs2, rfl, _⟩ := hs2.nums.lst
  obtain ⟨pt2, nt2, ct2, rfl, _⟩ := ht2.nums.lst
  have HB_w2 : Hid (Below w.heap.size w w2) := bstep HB_W1.out hB2
  have XA_v6 : Hid (Cel w2 w.heap.size (.slice p n c) (.slice p2 n2 c2)) := XA_v5.out.up hB2
  have XB_v6 : Hid (Cel w2 (w.heap.size + 1) (.slice p3 n3 c3) (.slice p4 n4 c4)) := XB_v5.out.up hB2
  have T1_v6 : Hid (TnC [(N : Int), (M' : Int)] P1 (.agg #[.slice ps1 ns1 cs1, .slice pt1 nt1 ct1]) w2) := T1_v5.out.up hB2
  have X1_v6 : Hid (Cel w2 w1.heap.size (.slice ps1 ns1 cs1) (.slice pt1 nt1 ct1)) := X1_v5.out.up hB2
  clear XA_v5 XB_v5 T1_v5 X1_v5
  have T2_v6 : Hid (TnC [(M' : Int), (N : Int)] P2 (.agg #[.slice ps2 ns2 cs2, .slice pt2 nt2 ct2]) w2) := ⟨_, _, _, _, _, _, rfl, hs2.nums, ht2.nums, ht2.cap⟩
  clear hB2 hs2 ht2 xa0 xa1 xaz xb0 xb1 xbz x10 x11 x1z
  obtain ⟨xa0, xa1, _, _⟩ := XA_v6.out
  have xaz := cell_lt xa0
  obtain ⟨xb0, xb1, _, _⟩ := XB_v6.out
  have xbz := cell_lt xb0
  obtain ⟨x10, x11, _, _⟩ := X1_v6.out
  have x1z := cell_lt x10
  go_wp2_with fail
  generalize hW2 : World.alloc _ _ = W2
  have hC2 : Below w2.heap.size w2 W2 := by rw [← hW2]; exact up_alloc w2 _
  have HB_W2 : Hid (Below w.heap.size w W2) := bstep HB_w2.out hC2
  have XA_v7 : Hid (Cel W2 w.heap.size (.slice p n c) (.slice p2 n2 c2)) := XA_v6.out.up hC2
  have XB_v7 : Hid (Cel W2 (w.heap.size + 1) (.slice p3 n3 c3) (.slice p4 n4 c4)) := XB_v6.out.up hC2
  have T1_v7 : Hid (TnC [(N : Int), (M' : Int)] P1 (.agg #[.slice ps1 ns1 cs1, .slice pt1 nt1 ct1]) W2) := T1_v6.out.up hC2
  have X1_v7 : Hid (Cel W2 w1.heap.size (.slice ps1 ns1 cs1) (.slice pt1 nt1 ct1)) := X1_v6.out.up hC2
  have T2_v7 : Hid (TnC [(M' : Int), (N : Int)] P2 (.agg #[.slice ps2 ns2 cs2, .slice pt2 nt2 ct2]) W2) := T2_v6.out.up hC2
  clear XA_v6 XB_v6 T1_v6 X1_v6 T2_v6
  have X2_v7 : Hid (Cel W2 w2.heap.size (.slice ps2 ns2 cs2) (.slice pt2 nt2 ct2)) := by show Cel _ _ _ _; unfold Cel; rw [← hW2]; simp [go_sem]
  clear hW2 hC2 xa0 xa1 xaz xb0 xb1 xbz x10 x11 x1z
  clear cf
  have cf := flip_tn (HTa.out W2 HB_W2.out).1.tn r1.out.1
  rw [F2.1, F2.2.1, F2.2.2] at cf
  obtain ⟨xa0, xa1, _, _⟩ := XA_v7.out
  have xaz := cell_lt xa0
  obtain ⟨xb0, xb1, _, _⟩ := XB_v7.out
  have xbz := cell_lt xb0
  obtain ⟨x10, x11, _, _⟩ := X1_v7.out
  have x1z := cell_lt x10
  obtain ⟨x20, x21, _, _⟩ := X2_v7.out
  have x2z := cell_lt x20
  go_wp2_with fail
  refine (cf).mono ?_
  rintro e w3 ⟨v3, rfl, ⟨s3, t3, rfl, hs3, ht3⟩, hB3⟩
  obtain ⟨ps3, ns3, cs3, rfl, _⟩ := hs3.nums.lst
  obtain ⟨pt3, nt3, ct3, rfl, _⟩ := ht3.nums.lst
  have HB_w3 : Hid (Below w.heap.size w w3) := bstep HB_W2.out hB3
  have XA_v8 : Hid (Cel w3 w.heap.size (.slice p n c) (.slice p2 n2 c2)) := XA_v7.out.up hB3
  have XB_v8 : Hid (Cel w3 (w.heap.size + 1) (.slice p3 n3 c3) (.slice p4 n4 c4)) := XB_v7.out.up hB3
  have T1_v8 : Hid (TnC [(N : Int), (M' : Int)] P1 (.agg #[.slice ps1 ns1 cs1, .slice pt1 nt1 ct1]) w3) := T1_v7.out.up hB3
  have X1_v8 : Hid (Cel w3 w1.heap.size (.slice ps1 ns1 cs1) (.slice pt1 nt1 ct1)) := X1_v7.out.up hB3
  have T2_v8 : Hid (TnC [(M' : Int), (N : Int)] P2 (.agg #[.slice ps2 ns2 cs2, .slice pt2 nt2 ct2]) w3) := T2_v7.out.up hB3
  have X2_v8 : Hid (Cel w3 w2.heap.size (.slice ps2 ns2 cs2) (.slice pt2 nt2 ct2)) := X2_v7.out.up hB3
  clear XA_v7 XB_v7 T1_v7 X1_v7 T2_v7 X2_v7
  have T3_v8 : Hid (TnC [(K : Int), (N : Int)] U (.agg #[.slice ps3 ns3 cs3, .slice pt3 nt3 ct3]) w3) := ⟨_, _, _, _, _, _, rfl, hs3.nums, ht3.nums, ht3.cap⟩
  clear hB3 hs3 ht3 xa0 xa1 xaz xb0 xb1 xbz x10 x11 x1z x20 x21 x2z
  obtain ⟨xa0, xa1, _, _⟩ := XA_v8.out
  have xaz := cell_lt xa0
  obtain ⟨xb0, xb1, _, _⟩ := XB_v8.out
  have xbz := cell_lt xb0
  obtain ⟨x10, x11, _, _⟩ := X1_v8.out
  have x1z := cell_lt x10
  obtain ⟨x20, x21, _, _⟩ := X2_v8.out
  have x2z := cell_lt x20
  go_wp2_with fail
  generalize hW3 : World.alloc _ _ = W3
  have hC3 : Below w3.heap.size w3 W3 := by rw [← hW3]; exact up_alloc w3 _
  have HB_W3 : Hid (Below w.heap.size w W3) := bstep HB_w3.out hC3
  have XA_v9 : Hid (Cel W3 w.heap.size (.slice p n c) (.slice p2 n2 c2)) := XA_v8.out.up hC3
  have XB_v9 : Hid (Cel W3 (w.heap.size + 1) (.slice p3 n3 c3) (.slice p4 n4 c4)) := XB_v8.out.up hC3
  have T1_v9 : Hid (TnC [(N : Int), (M' : Int)] P1 (.agg #[.slice ps1 ns1 cs1, .slice pt1 nt1 ct1]) W3) := T1_v8.out.up hC3
  have X1_v9 : Hid (Cel W3 w1.heap.size (.slice ps1 ns1 cs1) (.slice pt1 nt1 ct1)) := X1_v8.out.up hC3
  have T2_v9 : Hid (TnC [(M' : Int), (N : Int)] P2 (.agg #[.slice ps2 ns2 cs2, .slice pt2 nt2 ct2]) W3) := T2_v8.out.up hC3
  have X2_v9 : Hid (Cel W3 w2.heap.size (.slice ps2 ns2 cs2) (.slice pt2 nt2 ct2)) := X2_v8.out.up hC3
  have T3_v9 : Hid (TnC [(K : Int), (N : Int)] U (.agg #[.slice ps3 ns3 cs3, .slice pt3 nt3 ct3]) W3) := T3_v8.out.up hC3
  clear XA_v8 XB_v8 T1_v8 X1_v8 T2_v8 X2_v8 T3_v8
  have X3_v9 : Hid (Cel W3 w3.heap.size (.slice ps3 ns3 cs3) (.slice pt3 nt3 ct3)) := by show Cel _ _ _ _; unfold Cel; rw [← hW3]; simp [go_sem]
  clear hW3 hC3 xa0 xa1 xaz xb0 xb1 xbz x10 x11 x1z x20 x21 x2z
  clear cf
  have cf := flip_tn (HTa.out W3 HB_W3.out).2.tn r1.out.2.1
  rw [F3.1, F3.2.1, F3.2.2] at cf
  obtain ⟨xa0, xa1, _, _⟩ := XA_v9.out
  have xaz := cell_lt xa0
  obtain ⟨xb0, xb1, _, _⟩ := XB_v9.out
  have xbz := cell_lt xb0
  obtain ⟨x10, x11, _, _⟩ := X1_v9.out
  have x1z := cell_lt x10
  obtain ⟨x20, x21, _, _⟩ := X2_v9.out
  have x2z := cell_lt x20
  obtain ⟨x30, x31, _, _⟩ := X3_v9.out
  have x3z := cell_lt x30
  go_wp2_with fail
  refine (cf).mono ?_
  rintro e w4 ⟨v4, rfl, ⟨s4, t4, rfl, hs4, ht4⟩, hB4⟩
  obtain ⟨ps4, ns4, cs4, rfl, _⟩ := hs4.nums.lst
  obtain ⟨pt4, nt4, ct4, rfl, _⟩ := ht4.nums.lst
  have HB_w4 : Hid (Below w.heap.size w w4) := bstep HB_W3.out hB4
  have XA_v10 : Hid (Cel w4 w.heap.size (.slice p n c) (.slice p2 n2 c2)) := XA_v9.out.up hB4
  have XB_v10 : Hid (Cel w4 (w.heap.size + 1) (.slice p3 n3 c3) (.slice p4 n4 c4)) := XB_v9.out.up hB4
  have T1_v10 : Hid (TnC [(N : Int), (M' : Int)] P1 (.agg #[.slice ps1 ns1 cs1, .slice pt1 nt1 ct1]) w4) := T1_v9.out.up hB4
  have X1_v10 : Hid (Cel w4 w1.heap.size (.slice ps1 ns1 cs1) (.slice pt1 nt1 ct1)) := X1_v9.out.up hB4
  have T2_v10 : Hid (TnC [(M' : Int), (N : Int)] P2 (.agg #[.slice ps2 ns2 cs2, .slice pt2 nt2 ct2]) w4) := T2_v9.out.up hB4
  have X2_v10 : Hid (Cel w4 w2.heap.size (.slice ps2 ns2 cs2) (.slice pt2 nt2 ct2)) := X2_v9.out.up hB4
  have T3_v10 : Hid (TnC [(K : Int), (N : Int)] U (.agg #[.slice ps3 ns3 cs3, .slice pt3 nt3 ct3]) w4) := T3_v9.out.up hB4
  have X3_v10 : Hid (Cel w4 w3.heap.size (.slice ps3 ns3 cs3) (.slice pt3 nt3 ct3)) := X3_v9.out.up hB4
  clear XA_v9 XB_v9 T1_v9 X1_v9 T2_v9 X2_v9 T3_v9 X3_v9
  have T4_v10 : Hid (TnC [(M' : Int), (K : Int)] V (.agg #[.slice ps4 ns4 cs4, .slice pt4 nt4 ct4]) w4) := ⟨_, _, _, _, _, _, rfl, hs4.nums, ht4.nums, ht4.cap⟩
  clear hB4 hs4 ht4 xa0 xa1 xaz xb0 xb1 xbz x10 x11 x1z x20 x21 x2z x30 x31 x3z
  obtain ⟨xa0, xa1, _, _⟩ := XA_v10.out
  have xaz := cell_lt xa0
  obtain ⟨xb0, xb1, _, _⟩ := XB_v10.out
  have xbz := cell_lt xb0
  obtain ⟨x10, x11, _, _⟩ := X1_v10.out
  have x1z := cell_lt x10
  obtain ⟨x20, x21, _, _⟩ := X2_v10.out
  have x2z := cell_lt x20
  obtain ⟨x30, x31, _, _⟩ := X3_v10.out
  have x3z := cell_lt x30
  go_wp2_with fail
  generalize hW4 : World.alloc _ _ = W4
  have hC4 : Below w4.heap.size w4 W4 := by rw [← hW4]; exact up_alloc w4 _
  have HB_W4 : Hid (Below w.heap.size w W4) := bstep HB_w4.out hC4
  have XA_v11 : Hid (Cel W4 w.heap.size (.slice p n c) (.slice p2 n2 c2)) := XA_v10.out.up hC4
  have XB_v11 : Hid (Cel W4 (w.heap.size + 1) (.slice p3 n3 c3) (.slice p4 n4 c4)) := XB_v10.out.up hC4
  have T1_v11 : Hid (TnC [(N : Int), (M' : Int)] P1 (.agg #[.slice ps1 ns1 cs1, .slice pt1 nt1 ct1]) W4) := T1_v10.out.up hC4
  have X1_v11 : Hid (Cel W4 w1.heap.size (.slice ps1 ns1 cs1) (.slice pt1 nt1 ct1)) := X1_v10.out.up hC4
  have T2_v11 : Hid (TnC [(M' : Int), (N : Int)] P2 (.agg #[.slice ps2 ns2 cs2, .slice pt2 nt2 ct2]) W4) := T2_v10.out.up hC4
  have X2_v11 : Hid (Cel W4 w2.heap.size (.slice ps2 ns2 cs2) (.slice pt2 nt2 ct2)) := X2_v10.out.up hC4
  have T3_v11 : Hid (TnC [(K : Int), (N : Int)] U (.agg #[.slice ps3 ns3 cs3, .slice pt3 nt3 ct3]) W4) := T3_v10.out.up hC4
  have X3_v11 : Hid (Cel W4 w3.heap.size (.slice ps3 ns3 cs3) (.slice pt3 nt3 ct3)) := X3_v10.out.up hC4
  have T4_v11 : Hid (TnC [(M' : Int), (K : Int)] V (.agg #[.slice ps4 ns4 cs4, .slice pt4 nt4 ct4]) W4) := T4_v10.out.up hC4
  clear XA_v10 XB_v10 T1_v10 X1_v10 T2_v10 X2_v10 T3_v10 X3_v10 T4_v10
  have X4_v11 : Hid (Cel W4 w4.heap.size (.slice ps4 ns4 cs4) (.slice pt4 nt4 ct4)) := by show Cel _ _ _ _; unfold Cel; rw [← hW4]; simp [go_sem]
  clear hW4 hC4 xa0 xa1 xaz xb0 xb1 xbz x10 x11 x1z x20 x21 x2z x30 x31 x3z
  clear cf
  have cm := mul_tn T4_v11.out T3_v11.out.tn r1.out.2.2.2.1 HRU.out.2 r1.out.2.2.2.2 HRU.out.1 (Hid.up_tz hT HB_W4.out)
  rw [F4.1, F4.2.1, F4.2.2] at cm
  obtain ⟨xa0, xa1, _, _⟩ := XA_v11.out
  have xaz := cell_lt xa0
  obtain ⟨xb0, xb1, _, _⟩ := XB_v11.out
  have xbz := cell_lt xb0
  obtain ⟨x10, x11, _, _⟩ := X1_v11.out
  have x1z := cell_lt x10
  obtain ⟨x20, x21, _, _⟩ := X2_v11.out
  have x2z := cell_lt x20
  obtain ⟨x30, x31, _, _⟩ := X3_v11.out
  have x3z := cell_lt x30
  obtain ⟨x40, x41, _, _⟩ := X4_v11.out
  have x4z := cell_lt x40
  go_wp2_with fail
  refine (cm).mono ?_
  rintro e w5 ⟨v5, rfl, ⟨s5, t5, rfl, hs5, ht5⟩, hB5⟩
  obtain ⟨ps5, ns5, cs5, rfl, _⟩ := hs5.nums.lst
  obtain ⟨pt5, nt5, ct5, rfl, _⟩ := ht5.nums.lst
  have HB_w5 : Hid (Below w.heap.size w w5) := bstep HB_W4.out hB5
  have XA_v12 : Hid (Cel w5 w.heap.size (.slice p n c) (.slice p2 n2 c2)) := XA_v11.out.up hB5
  have XB_v12 : Hid (Cel w5 (w.heap.size + 1) (.slice p3 n3 c3) (.slice p4 n4 c4)) := XB_v11.out.up hB5
  have T1_v12 : Hid (TnC [(N : Int), (M' : Int)] P1 (.agg #[.slice ps1 ns1 cs1, .slice pt1 nt1 ct1]) w5) := T1_v11.out.up hB5
  have X1_v12 : Hid (Cel w5 w1.heap.size (.slice ps1 ns1 cs1) (.slice pt1 nt1 ct1)) := X1_v11.out.up hB5
  have T2_v12 : Hid (TnC [(M' : Int), (N : Int)] P2 (.agg #[.slice ps2 ns2 cs2, .slice pt2 nt2 ct2]) w5) := T2_v11.out.up hB5
  have X2_v12 : Hid (Cel w5 w2.heap.size (.slice ps2 ns2 cs2) (.slice pt2 nt2 ct2)) := X2_v11.out.up hB5
  have T3_v12 : Hid (TnC [(K : Int), (N : Int)] U (.agg #[.slice ps3 ns3 cs3, .slice pt3 nt3 ct3]) w5) := T3_v11.out.up hB5
  have X3_v12 : Hid (Cel w5 w3.heap.size (.slice ps3 ns3 cs3) (.slice pt3 nt3 ct3)) := X3_v11.out.up hB5
  have T4_v12 : Hid (TnC [(M' : Int), (K : Int)] V (.agg #[.slice ps4 ns4 cs4, .slice pt4 nt4 ct4]) w5) := T4_v11.out.up hB5
  have X4_v12 : Hid (Cel w5 w4.heap.size (.slice ps4 ns4 cs4) (.slice pt4 nt4 ct4)) := X4_v11.out.up hB5
  clear XA_v11 XB_v11 T1_v11 X1_v11 T2_v11 X2_v11 T3_v11 X3_v11 T4_v11 X4_v11
  have T5_v12 : Hid (TnC [(M' : Int), (N : Int)] P2 (.agg #[.slice ps5 ns5 cs5, .slice pt5 nt5 ct5]) w5) := ⟨_, _, _, _, _, _, rfl, hs5.nums, ht5.nums, ht5.cap⟩
  clear hB5 hs5 ht5 xa0 xa1 xaz xb0 xb1 xbz x10 x11 x1z x20 x21 x2z x30 x31 x3z x40 x41 x4z
  obtain ⟨xa0, xa1, _, _⟩ := XA_v12.out
  have xaz := cell_lt xa0
  obtain ⟨xb0, xb1, _, _⟩ := XB_v12.out
  have xbz := cell_lt xb0
  obtain ⟨x10, x11, _, _⟩ := X1_v12.out
  have x1z := cell_lt x10
  obtain ⟨x20, x21, _, _⟩ := X2_v12.out
  have x2z := cell_lt x20
  obtain ⟨x30, x31, _, _⟩ := X3_v12.out
  have x3z := cell_lt x30
  obtain ⟨x40, x41, _, _⟩ := X4_v12.out
  have x4z := cell_lt x40
  go_wp2_with fail
  generalize hW5 : World.alloc _ _ = W5
  have hC5 : Below w5.heap.size w5 W5 := by rw [← hW5]; exact up_alloc w5 _
  have HB_W5 : Hid (Below w.heap.size w W5) := bstep HB_w5.out hC5
  have XA_v13 : Hid (Cel W5 w.heap.size (.slice p n c) (.slice p2 n2 c2)) := XA_v12.out.up hC5
  have XB_v13 : Hid (Cel W5 (w.heap.size + 1) (.slice p3 n3 c3) (.slice p4 n4 c4)) := XB_v12.out.up hC5
  have T1_v13 : Hid (TnC [(N : Int), (M' : Int)] P1 (.agg #[.slice ps1 ns1 cs1, .slice pt1 nt1 ct1]) W5) := T1_v12.out.up hC5
  have X1_v13 : Hid (Cel W5 w1.heap.size (.slice ps1 ns1 cs1) (.slice pt1 nt1 ct1)) := X1_v12.out.up hC5
  have T2_v13 : Hid (TnC [(M' : Int), (N : Int)] P2 (.agg #[.slice ps2 ns2 cs2, .slice pt2 nt2 ct2]) W5) := T2_v12.out.up hC5
  have X2_v13 : Hid (Cel W5 w2.heap.size (.slice ps2 ns2 cs2) (.slice pt2 nt2 ct2)) := X2_v12.out.up hC5
  have T3_v13 : Hid (TnC [(K : Int), (N : Int)] U (.agg #[.slice ps3 ns3 cs3, .slice pt3 nt3 ct3]) W5) := T3_v12.out.up hC5
  have X3_v13 : Hid (Cel W5 w3.heap.size (.slice ps3 ns3 cs3) (.slice pt3 nt3 ct3)) := X3_v12.out.up hC5
  have T4_v13 : Hid (TnC [(M' : Int), (K : Int)] V (.agg #[.slice ps4 ns4 cs4, .slice pt4 nt4 ct4]) W5) := T4_v12.out.up hC5
  have X4_v13 : Hid (Cel W5 w4.heap.size (.slice ps4 ns4 cs4) (.slice pt4 nt4 ct4)) := X4_v12.out.up hC5
  have T5_v13 : Hid (TnC [(M' : Int), (N : Int)] P2 (.agg #[.slice ps5 ns5 cs5, .slice pt5 nt5 ct5]) W5) := T5_v12.out.up hC5
  clear XA_v12 XB_v12 T1_v12 X1_v12 T2_v12 X2_v12 T3_v12 X3_v12 T4_v12 X4_v12 T5_v12
  have X5_v13 : Hid (Cel W5 w5.heap.size (.slice ps5 ns5 cs5) (.slice pt5 nt5 ct5)) := by show Cel _ _ _ _; unfold Cel; rw [← hW5]; simp [go_sem]
  clear hW5 hC5 xa0 xa1 xaz xb0 xb1 xbz x10 x11 x1z x20 x21 x2z x30 x31 x3z x40 x41 x4z
  clear cm
  have cf := flip_tn T3_v13.out.tn r1.out.2.2.2.2
  rw [F5.1, F5.2.1, F5.2.2] at cf
  obtain ⟨xa0, xa1, _, _⟩ := XA_v13.out
  have xaz := cell_lt xa0
  obtain ⟨xb0, xb1, _, _⟩ := XB_v13.out
  have xbz := cell_lt xb0
  obtain ⟨x10, x11, _, _⟩ := X1_v13.out
  have x1z := cell_lt x10
  obtain ⟨x20, x21, _, _⟩ := X2_v13.out
  have x2z := cell_lt x20
  obtain ⟨x30, x31, _, _⟩ := X3_v13.out
  have x3z := cell_lt x30
  obtain ⟨x40, x41, _, _⟩ := X4_v13.out
  have x4z := cell_lt x40
  obtain ⟨x50, x51, _, _⟩ := X5_v13.out
  have x5z := cell_lt x50
  go_wp2_with fail
  refine (cf).mono ?_
  rintro e w6 ⟨v6, rfl, ⟨s6, t6, rfl, hs6, ht6⟩, hB6⟩
  obtain ⟨ps6, ns6, cs6, rfl, _⟩ := hs6.nums.lst
  obtain ⟨pt6, nt6, ct6, rfl, _⟩ := ht6.nums.lst
  have HB_w6 : Hid (Below w.heap.size w w6) := bstep HB_W5.out hB6
  have XA_v14 : Hid (Cel w6 w.heap.size (.slice p n c) (.slice p2 n2 c2)) := XA_v13.out.up hB6
  have XB_v14 : Hid (Cel w6 (w.heap.size + 1) (.slice p3 n3 c3) (.slice p4 n4 c4)) := XB_v13.out.up hB6
  have T1_v14 : Hid (TnC [(N : Int), (M' : Int)] P1 (.agg #[.slice ps1 ns1 cs1, .slice pt1 nt1 ct1]) w6) := T1_v13.out.up hB6
  have X1_v14 : Hid (Cel w6 w1.heap.size (.slice ps1 ns1 cs1) (.slice pt1 nt1 ct1)) := X1_v13.out.up hB6
  have T2_v14 : Hid (TnC [(M' : Int), (N : Int)] P2 (.agg #[.slice ps2 ns2 cs2, .slice pt2 nt2 ct2]) w6) := T2_v13.out.up hB6
  have X2_v14 : Hid (Cel w6 w2.heap.size (.slice ps2 ns2 cs2) (.slice pt2 nt2 ct2)) := X2_v13.out.up hB6
  have T3_v14 : Hid (TnC [(K : Int), (N : Int)] U (.agg #[.slice ps3 ns3 cs3, .slice pt3 nt3 ct3]) w6) := T3_v13.out.up hB6
  have X3_v14 : Hid (Cel w6 w3.heap.size (.slice ps3 ns3 cs3) (.slice pt3 nt3 ct3)) := X3_v13.out.up hB6
  have T4_v14 : Hid (TnC [(M' : Int), (K : Int)] V (.agg #[.slice ps4 ns4 cs4, .slice pt4 nt4 ct4]) w6) := T4_v13.out.up hB6
  have X4_v14 : Hid (Cel w6 w4.heap.size (.slice ps4 ns4 cs4) (.slice pt4 nt4 ct4)) := X4_v13.out.up hB6
  have T5_v14 : Hid (TnC [(M' : Int), (N : Int)] P2 (.agg #[.slice ps5 ns5 cs5, .slice pt5 nt5 ct5]) w6) := T5_v13.out.up hB6
  have X5_v14 : Hid (Cel w6 w5.heap.size (.slice ps5 ns5 cs5) (.slice pt5 nt5 ct5)) := X5_v13.out.up hB6
  clear XA_v13 XB_v13 T1_v13 X1_v13 T2_v13 X2_v13 T3_v13 X3_v13 T4_v13 X4_v13 T5_v13 X5_v13
  have T6_v14 : Hid (TnC [(N : Int), (K : Int)] x (.agg #[.slice ps6 ns6 cs6, .slice pt6 nt6 ct6]) w6) := ⟨_, _, _, _, _, _, rfl, hs6.nums, ht6.nums, ht6.cap⟩
  clear hB6 hs6 ht6 xa0 xa1 xaz xb0 xb1 xbz x10 x11 x1z x20 x21 x2z x30 x31 x3z x40 x41 x4z x50 x51 x5z
  obtain ⟨xa0, xa1, _, _⟩ := XA_v14.out
  have xaz := cell_lt xa0
  obtain ⟨xb0, xb1, _, _⟩ := XB_v14.out
  have xbz := cell_lt xb0
  obtain ⟨x10, x11, _, _⟩ := X1_v14.out
  have x1z := cell_lt x10
  obtain ⟨x20, x21, _, _⟩ := X2_v14.out
  have x2z := cell_lt x20
  obtain ⟨x30, x31, _, _⟩ := X3_v14.out
  have x3z := cell_lt x30
  obtain ⟨x40, x41, _, _⟩ := X4_v14.out
  have x4z := cell_lt x40
  obtain ⟨x50, x51, _, _⟩ := X5_v14.out
  have x5z := cell_lt x50
  go_wp2_with fail
  generalize hW6 : World.alloc _ _ = W6
  have hC6 : Below w6.heap.size w6 W6 := by rw [← hW6]; exact up_alloc w6 _
  have HB_W6 : Hid (Below w.heap.size w W6) := bstep HB_w6.out hC6
  have XA_v15 : Hid (Cel W6 w.heap.size (.slice p n c) (.slice p2 n2 c2)) := XA_v14.out.up hC6
  have XB_v15 : Hid (Cel W6 (w.heap.size + 1) (.slice p3 n3 c3) (.slice p4 n4 c4)) := XB_v14.out.up hC6
  have T1_v15 : Hid (TnC [(N : Int), (M' : Int)] P1 (.agg #[.slice ps1 ns1 cs1, .slice pt1 nt1 ct1]) W6) := T1_v14.out.up hC6
  have X1_v15 : Hid (Cel W6 w1.heap.size (.slice ps1 ns1 cs1) (.slice pt1 nt1 ct1)) := X1_v14.out.up hC6
  have T2_v15 : Hid (TnC [(M' : Int), (N : Int)] P2 (.agg #[.slice ps2 ns2 cs2, .slice pt2 nt2 ct2]) W6) := T2_v14.out.up hC6
  have X2_v15 : Hid (Cel W6 w2.heap.size (.slice ps2 ns2 cs2) (.slice pt2 nt2 ct2)) := X2_v14.out.up hC6
  have T3_v15 : Hid (TnC [(K : Int), (N : Int)] U (.agg #[.slice ps3 ns3 cs3, .slice pt3 nt3 ct3]) W6) := T3_v14.out.up hC6
  have X3_v15 : Hid (Cel W6 w3.heap.size (.slice ps3 ns3 cs3) (.slice pt3 nt3 ct3)) := X3_v14.out.up hC6
  have T4_v15 : Hid (TnC [(M' : Int), (K : Int)] V (.agg #[.slice ps4 ns4 cs4, .slice pt4 nt4 ct4]) W6) := T4_v14.out.up hC6
  have X4_v15 : Hid (Cel W6 w4.heap.size (.slice ps4 ns4 cs4) (.slice pt4 nt4 ct4)) := X4_v14.out.up hC6
  have T5_v15 : Hid (TnC [(M' : Int), (N : Int)] P2 (.agg #[.slice ps5 ns5 cs5, .slice pt5 nt5 ct5]) W6) := T5_v14.out.up hC6
  have X5_v15 : Hid (Cel W6 w5.heap.size (.slice ps5 ns5 cs5) (.slice pt5 nt5 ct5)) := X5_v14.out.up hC6
  have T6_v15 : Hid (TnC [(N : Int), (K : Int)] x (.agg #[.slice ps6 ns6 cs6, .slice pt6 nt6 ct6]) W6) := T6_v14.out.up hC6
  clear XA_v14 XB_v14 T1_v14 X1_v14 T2_v14 X2_v14 T3_v14 X3_v14 T4_v14 X4_v14 T5_v14 X5_v14 T6_v14
  have X6_v15 : Hid (Cel W6 w6.heap.size (.slice ps6 ns6 cs6) (.slice pt6 nt6 ct6)) := by show Cel _ _ _ _; unfold Cel; rw [← hW6]; simp [go_sem]
  clear hW6 hC6 xa0 xa1 xaz xb0 xb1 xbz x10 x11 x1z x20 x21 x2z x30 x31 x3z x40 x41 x4z x50 x51 x5z
  clear cf
  have ca := alike_tn T2_v15.out.tn T5_v15.out.tn (by unfold Few; simp) HFl.out
  rw [decide_eq_true ⟨rfl, rfl⟩] at ca
  obtain ⟨xa0, xa1, _, _⟩ := XA_v15.out
  have xaz := cell_lt xa0
  obtain ⟨xb0, xb1, _, _⟩ := XB_v15.out
  have xbz := cell_lt xb0
  obtain ⟨x10, x11, _, _⟩ := X1_v15.out
  have x1z := cell_lt x10
  obtain ⟨x20, x21, _, _⟩ := X2_v15.out
  have x2z := cell_lt x20
  obtain ⟨x30, x31, _, _⟩ := X3_v15.out
  have x3z := cell_lt x30
  obtain ⟨x40, x41, _, _⟩ := X4_v15.out
  have x4z := cell_lt x40
  obtain ⟨x50, x51, _, _⟩ := X5_v15.out
  have x5z := cell_lt x50
  obtain ⟨x60, x61, _, _⟩ := X6_v15.out
  have x6z := cell_lt x60
  go_wp2_with fail
  refine (ca).mono ?_
  rintro e wy ⟨rfl, hBwy⟩
  have HB_wy : Hid (Below w.heap.size w wy) := bstep HB_W6.out hBwy
  have XA_v16 : Hid (Cel wy w.heap.size (.slice p n c) (.slice p2 n2 c2)) := XA_v15.out.up hBwy
  have XB_v16 : Hid (Cel wy (w.heap.size + 1) (.slice p3 n3 c3) (.slice p4 n4 c4)) := XB_v15.out.up hBwy
  have T1_v16 : Hid (TnC [(N : Int), (M' : Int)] P1 (.agg #[.slice ps1 ns1 cs1, .slice pt1 nt1 ct1]) wy) := T1_v15.out.up hBwy
  have X1_v16 : Hid (Cel wy w1.heap.size (.slice ps1 ns1 cs1) (.slice pt1 nt1 ct1)) := X1_v15.out.up hBwy
  have T2_v16 : Hid (TnC [(M' : Int), (N : Int)] P2 (.agg #[.slice ps2 ns2 cs2, .slice pt2 nt2 ct2]) wy) := T2_v15.out.up hBwy
  have X2_v16 : Hid (Cel wy w2.heap.size (.slice ps2 ns2 cs2) (.slice pt2 nt2 ct2)) := X2_v15.out.up hBwy
  have T3_v16 : Hid (TnC [(K : Int), (N : Int)] U (.agg #[.slice ps3 ns3 cs3, .slice pt3 nt3 ct3]) wy) := T3_v15.out.up hBwy
  have X3_v16 : Hid (Cel wy w3.heap.size (.slice ps3 ns3 cs3) (.slice pt3 nt3 ct3)) := X3_v15.out.up hBwy
  have T4_v16 : Hid (TnC [(M' : Int), (K : Int)] V (.agg #[.slice ps4 ns4 cs4, .slice pt4 nt4 ct4]) wy) := T4_v15.out.up hBwy
  have X4_v16 : Hid (Cel wy w4.heap.size (.slice ps4 ns4 cs4) (.slice pt4 nt4 ct4)) := X4_v15.out.up hBwy
  have T5_v16 : Hid (TnC [(M' : Int), (N : Int)] P2 (.agg #[.slice ps5 ns5 cs5, .slice pt5 nt5 ct5]) wy) := T5_v15.out.up hBwy
  have X5_v16 : Hid (Cel wy w5.heap.size (.slice ps5 ns5 cs5) (.slice pt5 nt5 ct5)) := X5_v15.out.up hBwy
  have T6_v16 : Hid (TnC [(N : Int), (K : Int)] x (.agg #[.slice ps6 ns6 cs6, .slice pt6 nt6 ct6]) wy) := T6_v15.out.up hBwy
  have X6_v16 : Hid (Cel wy w6.heap.size (.slice ps6 ns6 cs6) (.slice pt6 nt6 ct6)) := X6_v15.out.up hBwy
  clear XA_v15 XB_v15 T1_v15 X1_v15 T2_v15 X2_v15 T3_v15 X3_v15 T4_v15 X4_v15 T5_v15 X5_v15 T6_v15 X6_v15
  clear hBwy xa0 xa1 xaz xb0 xb1 xbz x10 x11 x1z x20 x21 x2z x30 x31 x3z x40 x41 x4z x50 x51 x5z x60 x61 x6z
  clear ca
  have ca := alike_tn T6_v16.out.tn (HTa.out wy HB_wy.out).1.tn (by unfold Few; simp) HZ.out.2.2.1
  rw [decide_eq_true ⟨rfl, rfl⟩] at ca
  obtain ⟨xa0, xa1, _, _⟩ := XA_v16.out
  have xaz := cell_lt xa0
  obtain ⟨xb0, xb1, _, _⟩ := XB_v16.out
  have xbz := cell_lt xb0
  obtain ⟨x10, x11, _, _⟩ := X1_v16.out
  have x1z := cell_lt x10
  obtain ⟨x20, x21, _, _⟩ := X2_v16.out
  have x2z := cell_lt x20
  obtain ⟨x30, x31, _, _⟩ := X3_v16.out
  have x3z := cell_lt x30
  obtain ⟨x40, x41, _, _⟩ := X4_v16.out
  have x4z := cell_lt x40
  obtain ⟨x50, x51, _, _⟩ := X5_v16.out
  have x5z := cell_lt x50
  obtain ⟨x60, x61, _, _⟩ := X6_v16.out
  have x6z := cell_lt x60
  go_wp2_with fail
  refine (ca).mono ?_
  rintro e wz ⟨rfl, hBwz⟩
  have HB_wz : Hid (Below w.heap.size w wz) := bstep HB_wy.out hBwz
  have XA_v17 : Hid (Cel wz w.heap.size (.slice p n c) (.slice p2 n2 c2)) := XA_v16.out.up hBwz
  have XB_v17 : Hid (Cel wz (w.heap.size + 1) (.slice p3 n3 c3) (.slice p4 n4 c4)) := XB_v16.out.up hBwz
  have T1_v17 : Hid (TnC [(N : Int), (M' : Int)] P1 (.agg #[.slice ps1 ns1 cs1, .slice pt1 nt1 ct1]) wz) := T1_v16.out.up hBwz
  have X1_v17 : Hid (Cel wz w1.heap.size (.slice ps1 ns1 cs1) (.slice pt1 nt1 ct1)) := X1_v16.out.up hBwz
  have T2_v17 : Hid (TnC [(M' : Int), (N : Int)] P2 (.agg #[.slice ps2 ns2 cs2, .slice pt2 nt2 ct2]) wz) := T2_v16.out.up hBwz
  have X2_v17 : Hid (Cel wz w2.heap.size (.slice ps2 ns2 cs2) (.slice pt2 nt2 ct2)) := X2_v16.out.up hBwz
  have T3_v17 : Hid (TnC [(K : Int), (N : Int)] U (.agg #[.slice ps3 ns3 cs3, .slice pt3 nt3 ct3]) wz) := T3_v16.out.up hBwz
  have X3_v17 : Hid (Cel wz w3.heap.size (.slice ps3 ns3 cs3) (.slice pt3 nt3 ct3)) := X3_v16.out.up hBwz
  have T4_v17 : Hid (TnC [(M' : Int), (K : Int)] V (.agg #[.slice ps4 ns4 cs4, .slice pt4 nt4 ct4]) wz) := T4_v16.out.up hBwz
  have X4_v17 : Hid (Cel wz w4.heap.size (.slice ps4 ns4 cs4) (.slice pt4 nt4 ct4)) := X4_v16.out.up hBwz
  have T5_v17 : Hid (TnC [(M' : Int), (N : Int)] P2 (.agg #[.slice ps5 ns5 cs5, .slice pt5 nt5 ct5]) wz) := T5_v16.out.up hBwz
  have X5_v17 : Hid (Cel wz w5.heap.size (.slice ps5 ns5 cs5) (.slice pt5 nt5 ct5)) := X5_v16.out.up hBwz
  have T6_v17 : Hid (TnC [(N : Int), (K : Int)] x (.agg #[.slice ps6 ns6 cs6, .slice pt6 nt6 ct6]) wz) := T6_v16.out.up hBwz
  have X6_v17 : Hid (Cel wz w6.heap.size (.slice ps6 ns6 cs6) (.slice pt6 nt6 ct6)) := X6_v16.out.up hBwz
  clear XA_v16 XB_v16 T1_v16 X1_v16 T2_v16 X2_v16 T3_v16 X3_v16 T4_v16 X4_v16 T5_v16 X5_v16 T6_v16 X6_v16
  clear hBwz xa0 xa1 xaz xb0 xb1 xbz x10 x11 x1z x20 x21 x2z x30 x31 x3z x40 x41 x4z x50 x51 x5z x60 x61 x6z
  go_wp2
  go_ret
  exact ⟨rfl, HB_wz.out⟩
end Go.Proofs.YthcfeiddbffcfaaDoor.Wd
