/- MatmSums: any tensor's sums along a side, of all, and the mean, are as the document says. -/
import Derived.Test.YthcfeiddbffcfaaDoorMtT
import Derived.Test.YthcfeiddbffcfaaDoorMtN
namespace Go.Proofs.YthcfeiddbffcfaaDoor.Wd
open Go.RowKit Fx
set_option linter.unusedVariables false
set_option linter.unusedSimpArgs false
theorem sm_few (d x : List Int) (side : Int) : Few (smD d x side) ∧ Few (smV d x side) := by
  by_cases h : smP d x side
  · obtain ⟨a, ga, rfl⟩ := good_itl h.1.1
    have hs : side.toNat < a.length := by have := h.2; rw [itl_len] at this; omega
    have gl := good_less ga side.toNat hs
    unfold smD smV
    rw [if_pos h, if_pos h, ntl_itl]
    unfold Few
    rw [itl_len, sumV_len]
    have := gl.1
    have := gl.2.2
    omega
  · obtain ⟨_, h2, h3, _⟩ := sm_none h
    rw [h2, h3]
    unfold Few
    simp
set_option maxRecDepth 8000 in
set_option maxHeartbeats 8000000 in
theorem msums_walk (w : World) (hT : Hid (Tz w)) (za : Nat → Int) (n c : Nat) (p : Option Addr) (zb : Nat → Int) (n2 c2 : Nat) (p2 : Option Addr) (side : Int) (r1 : RowN .i64 w p n c za) (r2 : RowN .i64 w p2 n2 c2 zb) (hS : -9223372036854775808 ≤ side ∧ side ≤ 9223372036854775807) :
    Calls Tryd.prog 5 #[.agg #[.slice p n c, .slice p2 n2 c2], .int .i64 side] w fun e w' => e = .returned (.bool true) ∧ Below w.heap.size w w' := by
  have HA : Hid (Nums .i64 w (.slice p n c) (nlst n za) ∧ Nums .i64 w (.slice p2 n2 c2) (nlst n2 zb)) := ⟨r1.nums, r2.nums⟩
  have HI : Hid (RI (nlst n za) ∧ RI (nlst n2 zb)) := ⟨r1.riI, r2.riI⟩
  have HC : Hid (n ≤ c ∧ InR side ∧ (nlst n2 zb).length = n2) := ⟨r1.room, hS, nlst_len _ _⟩
  obtain ⟨d, ed⟩ : ∃ d, nlst n za = d := ⟨_, rfl⟩
  obtain ⟨x, ex⟩ : ∃ x, nlst n2 zb = x := ⟨_, rfl⟩
  rw [ed, ex] at HA HI
  rw [ex] at HC
  clear ed ex r1 r2
  have HTa : Hid (∀ W, Below w.heap.size w W → Tn d x (.agg #[.slice p n c, .slice p2 n2 c2]) W) := fun W hW => ⟨_, _, _, _, _, _, rfl, HA.out.1.up hW, HA.out.2.up hW⟩
  have HFw := sm_few d x side
  obtain ⟨E, eE⟩ : ∃ E, smE d x side = E := ⟨_, rfl⟩
  obtain ⟨SD, eSD⟩ : ∃ D, smD d x side = D := ⟨_, rfl⟩
  obtain ⟨SV, eSV⟩ : ∃ V, smV d x side = V := ⟨_, rfl⟩
  rw [eSD, eSV] at HFw
  have HQ : Hid (smE d x side = E ∧ smD d x side = SD ∧ smV d x side = SV ∧ Few SD ∧ Few SV) := ⟨eE, eSD, eSV, HFw.1, HFw.2⟩
  have hne : (E != E) = false := by simp
  clear eE eSD eSV HFw
  haveI : Nonempty World := ⟨w⟩
  go_enter Tryd.func5, Tryd.ntmps5
  go_wp2_with fail
  generalize hW0 : World.alloc _ _ = W0
  have HB_W0 : Hid (Below w.heap.size w W0) := by show Below _ _ _; rw [← hW0]; go_grown
  have XA_v0 : Hid (Cel W0 w.heap.size (.slice p n c) (.slice p2 n2 c2)) := by show Cel _ _ _ _; unfold Cel; rw [← hW0]; simp [go_sem]
  clear hW0
  refine (awake7_any W0 (Hid.up_tz hT HB_W0.out)).mono ?_
  rintro e wa ⟨rfl, hBa⟩
  have HB_wa : Hid (Below w.heap.size w wa) := bstep HB_W0.out hBa
  have XA_v1 : Hid (Cel wa w.heap.size (.slice p n c) (.slice p2 n2 c2)) := XA_v0.out.up hBa
  clear XA_v0
  clear hBa
  have cg := great7_any p p2 n c n2 c2 300 (by decide) wa
  by_cases hga : 10 < n ∨ 300 < n2
  · rw [decide_eq_true hga] at cg
    obtain ⟨xa0, xa1, _, _⟩ := XA_v1.out
    have xaz := cell_lt xa0
    go_wp2_with fail
    refine (cg).mono ?_
    rintro e wb ⟨rfl, hBwb⟩
    have HB_wb : Hid (Below w.heap.size w wb) := bstep HB_wa.out hBwb
    have XA_v2 : Hid (Cel wb w.heap.size (.slice p n c) (.slice p2 n2 c2)) := XA_v1.out.up hBwb
    clear XA_v1
    clear hBwb xa0 xa1 xaz
    go_wp2
    go_ret
    exact ⟨rfl, HB_wb.out⟩
  rw [decide_eq_false hga] at cg
  obtain ⟨xa0, xa1, _, _⟩ := XA_v1.out
  have xaz := cell_lt xa0
  go_wp2_with fail
  refine (cg).mono ?_
  rintro e wb ⟨rfl, hBwb⟩
  have HB_wb : Hid (Below w.heap.size w wb) := bstep HB_wa.out hBwb
  have XA_v2 : Hid (Cel wb w.heap.size (.slice p n c) (.slice p2 n2 c2)) := XA_v1.out.up hBwb
  clear XA_v1
  clear hBwb xa0 xa1 xaz
  clear cg
  have H10 : Hid (n ≤ 10 ∧ n2 ≤ 300) := ⟨by omega, by omega⟩
  clear hga
  have cm := sum_any p p2 n c n2 c2 d x side HC.out.2.1 HI.out.1 HI.out.2 H10.out.1 wb (HA.out.1.up HB_wb.out) (HA.out.2.up HB_wb.out)
  rw [HQ.out.1, HQ.out.2.1, HQ.out.2.2.1] at cm
  obtain ⟨xa0, xa1, _, _⟩ := XA_v2.out
  have xaz := cell_lt xa0
  go_wp2_with fail
  refine (cm).mono ?_
  rintro e w1 ⟨v1, rfl, ⟨ps1, ns1, cs1, pt1, nt1, ct1, rfl, hs1, ht1⟩, hB1⟩
  have HB_w1 : Hid (Below w.heap.size w w1) := bstep HB_wb.out hB1
  have XA_v3 : Hid (Cel w1 w.heap.size (.slice p n c) (.slice p2 n2 c2)) := XA_v2.out.up hB1
  clear XA_v2
  have T1_v3 : Hid (Tn SD SV (.agg #[.slice ps1 ns1 cs1, .slice pt1 nt1 ct1]) w1) := ⟨_, _, _, _, _, _, rfl, hs1, ht1⟩
  clear hB1 hs1 ht1 xa0 xa1 xaz
  obtain ⟨xa0, xa1, _, _⟩ := XA_v3.out
  have xaz := cell_lt xa0
  go_wp2_with fail
  generalize hW1 : World.alloc _ _ = W1
  have hC1 : Below w1.heap.size w1 W1 := by rw [← hW1]; exact up_alloc w1 _
  have HB_W1 : Hid (Below w.heap.size w W1) := bstep HB_w1.out hC1
  have XA_v4 : Hid (Cel W1 w.heap.size (.slice p n c) (.slice p2 n2 c2)) := XA_v3.out.up hC1
  have T1_v4 : Hid (Tn SD SV (.agg #[.slice ps1 ns1 cs1, .slice pt1 nt1 ct1]) W1) := T1_v3.out.up hC1
  clear XA_v3 T1_v3
  have X1_v4 : Hid (Cel W1 w1.heap.size (.slice ps1 ns1 cs1) (.slice pt1 nt1 ct1)) := by show Cel _ _ _ _; unfold Cel; rw [← hW1]; simp [go_sem]
  clear hW1 hC1 xa0 xa1 xaz
  clear cm
  have cm := rsum_any p p2 n c n2 c2 d x side HC.out.2.1 HI.out.1 HI.out.2 H10.out.1 HC.out.1 W1 (HA.out.1.up HB_W1.out) (HA.out.2.up HB_W1.out)
  rw [HQ.out.1, HQ.out.2.1, HQ.out.2.2.1] at cm
  obtain ⟨xa0, xa1, _, _⟩ := XA_v4.out
  have xaz := cell_lt xa0
  obtain ⟨x10, x11, _, _⟩ := X1_v4.out
  have x1z := cell_lt x10
  go_wp2_with fail
  refine (cm).mono ?_
  rintro e w2 ⟨v2, rfl, ⟨s2, t2, rfl, hs2, ht2⟩, hB2⟩
  obtain ⟨ps2, ns2, cs2, rfl, _⟩ := hs2.nums.lst
  obtain ⟨pt2, nt2, ct2, rfl, _⟩ := ht2.nums.lst
  have HB_w2 : Hid (Below w.heap.size w w2) := bstep HB_W1.out hB2
  have XA_v5 : Hid (Cel w2 w.heap.size (.slice p n c) (.slice p2 n2 c2)) := XA_v4.out.up hB2
  have T1_v5 : Hid (Tn SD SV (.agg #[.slice ps1 ns1 cs1, .slice pt1 nt1 ct1]) w2) := T1_v4.out.up hB2
  have X1_v5 : Hid (Cel w2 w1.heap.size (.slice ps1 ns1 cs1) (.slice pt1 nt1 ct1)) := X1_v4.out.up hB2
  clear XA_v4 T1_v4 X1_v4
  have T2_v5 : Hid (TnC SD SV (.agg #[.slice ps2 ns2 cs2, .slice pt2 nt2 ct2]) w2) := ⟨_, _, _, _, _, _, rfl, hs2.nums, ht2.nums, ht2.cap⟩
  clear hB2 hs2 ht2 xa0 xa1 xaz x10 x11 x1z
  obtain ⟨xa0, xa1, _, _⟩ := XA_v5.out
  have xaz := cell_lt xa0
  obtain ⟨x10, x11, _, _⟩ := X1_v5.out
  have x1z := cell_lt x10
  go_wp2_with fail
  generalize hW2 : World.alloc _ _ = W2
  have hC2 : Below w2.heap.size w2 W2 := by rw [← hW2]; exact up_alloc w2 _
  have HB_W2 : Hid (Below w.heap.size w W2) := bstep HB_w2.out hC2
  have XA_v6 : Hid (Cel W2 w.heap.size (.slice p n c) (.slice p2 n2 c2)) := XA_v5.out.up hC2
  have T1_v6 : Hid (Tn SD SV (.agg #[.slice ps1 ns1 cs1, .slice pt1 nt1 ct1]) W2) := T1_v5.out.up hC2
  have X1_v6 : Hid (Cel W2 w1.heap.size (.slice ps1 ns1 cs1) (.slice pt1 nt1 ct1)) := X1_v5.out.up hC2
  have T2_v6 : Hid (TnC SD SV (.agg #[.slice ps2 ns2 cs2, .slice pt2 nt2 ct2]) W2) := T2_v5.out.up hC2
  clear XA_v5 T1_v5 X1_v5 T2_v5
  have X2_v6 : Hid (Cel W2 w2.heap.size (.slice ps2 ns2 cs2) (.slice pt2 nt2 ct2)) := by show Cel _ _ _ _; unfold Cel; rw [← hW2]; simp [go_sem]
  clear hW2 hC2 xa0 xa1 xaz x10 x11 x1z
  clear cm
  by_cases hp : isP d x
  · have hv : allV d x = hold (totalI x) ∧ meanV d x = meanI x ∧ matE d x = 0 := ⟨if_pos hp, if_pos hp, if_pos hp⟩
    have HL : Hid (1 ≤ n2 ∧ n2 ≤ 4096) := by have := hp.len; rw [HC.out.2.2] at this; exact this
    obtain ⟨AV, eAV⟩ : ∃ A, hold (totalI x) = A := ⟨_, rfl⟩
    obtain ⟨MV, eMV⟩ : ∃ A, meanI x = A := ⟨_, rfl⟩
    rw [eAV, eMV] at hv
    have HE : Hid (hold (totalI x) = AV ∧ meanI x = MV) := ⟨eAV, eMV⟩
    clear eAV eMV
    have cm := all_tn (HTa.out W2 HB_W2.out) HI.out.1 HI.out.2
    rw [hv.1, hv.2.2] at cm
    obtain ⟨xa0, xa1, _, _⟩ := XA_v6.out
    have xaz := cell_lt xa0
    obtain ⟨x10, x11, _, _⟩ := X1_v6.out
    have x1z := cell_lt x10
    obtain ⟨x20, x21, _, _⟩ := X2_v6.out
    have x2z := cell_lt x20
    go_wp2_with fail
    refine (cm).mono ?_
    rintro e wc ⟨rfl, hBwc⟩
    have HB_wc : Hid (Below w.heap.size w wc) := bstep HB_W2.out hBwc
    have XA_v7 : Hid (Cel wc w.heap.size (.slice p n c) (.slice p2 n2 c2)) := XA_v6.out.up hBwc
    have T1_v7 : Hid (Tn SD SV (.agg #[.slice ps1 ns1 cs1, .slice pt1 nt1 ct1]) wc) := T1_v6.out.up hBwc
    have X1_v7 : Hid (Cel wc w1.heap.size (.slice ps1 ns1 cs1) (.slice pt1 nt1 ct1)) := X1_v6.out.up hBwc
    have T2_v7 : Hid (TnC SD SV (.agg #[.slice ps2 ns2 cs2, .slice pt2 nt2 ct2]) wc) := T2_v6.out.up hBwc
    have X2_v7 : Hid (Cel wc w2.heap.size (.slice ps2 ns2 cs2) (.slice pt2 nt2 ct2)) := X2_v6.out.up hBwc
    clear XA_v6 T1_v6 X1_v6 T2_v6 X2_v6
    clear hBwc xa0 xa1 xaz x10 x11 x1z x20 x21 x2z
    clear cm
    have cm := mean_tn (HTa.out wc HB_wc.out) HI.out.1 HI.out.2
    rw [hv.2.1, hv.2.2] at cm
    obtain ⟨xa0, xa1, _, _⟩ := XA_v7.out
    have xaz := cell_lt xa0
    obtain ⟨x10, x11, _, _⟩ := X1_v7.out
    have x1z := cell_lt x10
    obtain ⟨x20, x21, _, _⟩ := X2_v7.out
    have x2z := cell_lt x20
    go_wp2_with fail
    refine (cm).mono ?_
    rintro e we ⟨rfl, hBwe⟩
    have HB_we : Hid (Below w.heap.size w we) := bstep HB_wc.out hBwe
    have XA_v8 : Hid (Cel we w.heap.size (.slice p n c) (.slice p2 n2 c2)) := XA_v7.out.up hBwe
    have T1_v8 : Hid (Tn SD SV (.agg #[.slice ps1 ns1 cs1, .slice pt1 nt1 ct1]) we) := T1_v7.out.up hBwe
    have X1_v8 : Hid (Cel we w1.heap.size (.slice ps1 ns1 cs1) (.slice pt1 nt1 ct1)) := X1_v7.out.up hBwe
    have T2_v8 : Hid (TnC SD SV (.agg #[.slice ps2 ns2 cs2, .slice pt2 nt2 ct2]) we) := T2_v7.out.up hBwe
    have X2_v8 : Hid (Cel we w2.heap.size (.slice ps2 ns2 cs2) (.slice pt2 nt2 ct2)) := X2_v7.out.up hBwe
    clear XA_v7 T1_v7 X1_v7 T2_v7 X2_v7
    clear hBwe xa0 xa1 xaz x10 x11 x1z x20 x21 x2z
    clear cm
    have ca := alike_tn T1_v8.out T2_v8.out.tn HQ.out.2.2.2.1 HQ.out.2.2.2.2
    rw [decide_eq_true ⟨rfl, rfl⟩] at ca
    obtain ⟨xa0, xa1, _, _⟩ := XA_v8.out
    have xaz := cell_lt xa0
    obtain ⟨x10, x11, _, _⟩ := X1_v8.out
    have x1z := cell_lt x10
    obtain ⟨x20, x21, _, _⟩ := X2_v8.out
    have x2z := cell_lt x20
    go_wp2_with fail
    refine (ca).mono ?_
    rintro e wf ⟨rfl, hBwf⟩
    have HB_wf : Hid (Below w.heap.size w wf) := bstep HB_we.out hBwf
    have XA_v9 : Hid (Cel wf w.heap.size (.slice p n c) (.slice p2 n2 c2)) := XA_v8.out.up hBwf
    have T1_v9 : Hid (Tn SD SV (.agg #[.slice ps1 ns1 cs1, .slice pt1 nt1 ct1]) wf) := T1_v8.out.up hBwf
    have X1_v9 : Hid (Cel wf w1.heap.size (.slice ps1 ns1 cs1) (.slice pt1 nt1 ct1)) := X1_v8.out.up hBwf
    have T2_v9 : Hid (TnC SD SV (.agg #[.slice ps2 ns2 cs2, .slice pt2 nt2 ct2]) wf) := T2_v8.out.up hBwf
    have X2_v9 : Hid (Cel wf w2.heap.size (.slice ps2 ns2 cs2) (.slice pt2 nt2 ct2)) := X2_v8.out.up hBwf
    clear XA_v8 T1_v8 X1_v8 T2_v8 X2_v8
    clear hBwf xa0 xa1 xaz x10 x11 x1z x20 x21 x2z
    clear ca
    have cg := is_tn (HTa.out wf HB_wf.out) HI.out.1
    rw [decide_eq_true hp] at cg
    clear hp
    obtain ⟨xa0, xa1, _, _⟩ := XA_v9.out
    have xaz := cell_lt xa0
    obtain ⟨x10, x11, _, _⟩ := X1_v9.out
    have x1z := cell_lt x10
    obtain ⟨x20, x21, _, _⟩ := X2_v9.out
    have x2z := cell_lt x20
    go_wp2_with fail
    refine (cg).mono ?_
    rintro e wg ⟨rfl, hBwg⟩
    have HB_wg : Hid (Below w.heap.size w wg) := bstep HB_wf.out hBwg
    have XA_v10 : Hid (Cel wg w.heap.size (.slice p n c) (.slice p2 n2 c2)) := XA_v9.out.up hBwg
    have T1_v10 : Hid (Tn SD SV (.agg #[.slice ps1 ns1 cs1, .slice pt1 nt1 ct1]) wg) := T1_v9.out.up hBwg
    have X1_v10 : Hid (Cel wg w1.heap.size (.slice ps1 ns1 cs1) (.slice pt1 nt1 ct1)) := X1_v9.out.up hBwg
    have T2_v10 : Hid (TnC SD SV (.agg #[.slice ps2 ns2 cs2, .slice pt2 nt2 ct2]) wg) := T2_v9.out.up hBwg
    have X2_v10 : Hid (Cel wg w2.heap.size (.slice ps2 ns2 cs2) (.slice pt2 nt2 ct2)) := X2_v9.out.up hBwg
    clear XA_v9 T1_v9 X1_v9 T2_v9 X2_v9
    clear hBwg xa0 xa1 xaz x10 x11 x1z x20 x21 x2z
    clear cg
    have cm := rall_any p p2 n c n2 c2 x HI.out.2 HL.out.2 wg (HA.out.2.up HB_wg.out)
    rw [HE.out.1] at cm
    obtain ⟨xa0, xa1, _, _⟩ := XA_v10.out
    have xaz := cell_lt xa0
    obtain ⟨x10, x11, _, _⟩ := X1_v10.out
    have x1z := cell_lt x10
    obtain ⟨x20, x21, _, _⟩ := X2_v10.out
    have x2z := cell_lt x20
    go_wp2_with fail
    refine (cm).mono ?_
    rintro e wh ⟨rfl, hBwh⟩
    have HB_wh : Hid (Below w.heap.size w wh) := bstep HB_wg.out hBwh
    have XA_v11 : Hid (Cel wh w.heap.size (.slice p n c) (.slice p2 n2 c2)) := XA_v10.out.up hBwh
    have T1_v11 : Hid (Tn SD SV (.agg #[.slice ps1 ns1 cs1, .slice pt1 nt1 ct1]) wh) := T1_v10.out.up hBwh
    have X1_v11 : Hid (Cel wh w1.heap.size (.slice ps1 ns1 cs1) (.slice pt1 nt1 ct1)) := X1_v10.out.up hBwh
    have T2_v11 : Hid (TnC SD SV (.agg #[.slice ps2 ns2 cs2, .slice pt2 nt2 ct2]) wh) := T2_v10.out.up hBwh
    have X2_v11 : Hid (Cel wh w2.heap.size (.slice ps2 ns2 cs2) (.slice pt2 nt2 ct2)) := X2_v10.out.up hBwh
    clear XA_v10 T1_v10 X1_v10 T2_v10 X2_v10
    clear hBwh xa0 xa1 xaz x10 x11 x1z x20 x21 x2z
    clear cm
    have cm := rmean_any p p2 n c n2 c2 x HI.out.2 HL.out wh (HA.out.2.up HB_wh.out)
    rw [HE.out.2] at cm
    obtain ⟨xa0, xa1, _, _⟩ := XA_v11.out
    have xaz := cell_lt xa0
    obtain ⟨x10, x11, _, _⟩ := X1_v11.out
    have x1z := cell_lt x10
    obtain ⟨x20, x21, _, _⟩ := X2_v11.out
    have x2z := cell_lt x20
    go_wp2_with fail
    refine (cm).mono ?_
    rintro e wi ⟨rfl, hBwi⟩
    have HB_wi : Hid (Below w.heap.size w wi) := bstep HB_wh.out hBwi
    have XA_v12 : Hid (Cel wi w.heap.size (.slice p n c) (.slice p2 n2 c2)) := XA_v11.out.up hBwi
    have T1_v12 : Hid (Tn SD SV (.agg #[.slice ps1 ns1 cs1, .slice pt1 nt1 ct1]) wi) := T1_v11.out.up hBwi
    have X1_v12 : Hid (Cel wi w1.heap.size (.slice ps1 ns1 cs1) (.slice pt1 nt1 ct1)) := X1_v11.out.up hBwi
    have T2_v12 : Hid (TnC SD SV (.agg #[.slice ps2 ns2 cs2, .slice pt2 nt2 ct2]) wi) := T2_v11.out.up hBwi
    have X2_v12 : Hid (Cel wi w2.heap.size (.slice ps2 ns2 cs2) (.slice pt2 nt2 ct2)) := X2_v11.out.up hBwi
    clear XA_v11 T1_v11 X1_v11 T2_v11 X2_v11
    clear hBwi xa0 xa1 xaz x10 x11 x1z x20 x21 x2z
    clear cm
    go_wp2
    go_ret
    exact ⟨rfl, HB_wi.out⟩
  · have hv : allV d x = 0 ∧ meanV d x = 0 ∧ matE d x = 1 := ⟨if_neg hp, if_neg hp, if_neg hp⟩
    have cm := all_tn (HTa.out W2 HB_W2.out) HI.out.1 HI.out.2
    rw [hv.1, hv.2.2] at cm
    obtain ⟨xa0, xa1, _, _⟩ := XA_v6.out
    have xaz := cell_lt xa0
    obtain ⟨x10, x11, _, _⟩ := X1_v6.out
    have x1z := cell_lt x10
    obtain ⟨x20, x21, _, _⟩ := X2_v6.out
    have x2z := cell_lt x20
    go_wp2_with fail
    refine (cm).mono ?_
    rintro e wc ⟨rfl, hBwc⟩
    have HB_wc : Hid (Below w.heap.size w wc) := bstep HB_W2.out hBwc
    have XA_v7 : Hid (Cel wc w.heap.size (.slice p n c) (.slice p2 n2 c2)) := XA_v6.out.up hBwc
    have T1_v7 : Hid (Tn SD SV (.agg #[.slice ps1 ns1 cs1, .slice pt1 nt1 ct1]) wc) := T1_v6.out.up hBwc
    have X1_v7 : Hid (Cel wc w1.heap.size (.slice ps1 ns1 cs1) (.slice pt1 nt1 ct1)) := X1_v6.out.up hBwc
    have T2_v7 : Hid (TnC SD SV (.agg #[.slice ps2 ns2 cs2, .slice pt2 nt2 ct2]) wc) := T2_v6.out.up hBwc
    have X2_v7 : Hid (Cel wc w2.heap.size (.slice ps2 ns2 cs2) (.slice pt2 nt2 ct2)) := X2_v6.out.up hBwc
    clear XA_v6 T1_v6 X1_v6 T2_v6 X2_v6
    clear hBwc xa0 xa1 xaz x10 x11 x1z x20 x21 x2z
    clear cm
    have cm := mean_tn (HTa.out wc HB_wc.out) HI.out.1 HI.out.2
    rw [hv.2.1, hv.2.2] at cm
    obtain ⟨xa0, xa1, _, _⟩ := XA_v7.out
    have xaz := cell_lt xa0
    obtain ⟨x10, x11, _, _⟩ := X1_v7.out
    have x1z := cell_lt x10
    obtain ⟨x20, x21, _, _⟩ := X2_v7.out
    have x2z := cell_lt x20
    go_wp2_with fail
    refine (cm).mono ?_
    rintro e we ⟨rfl, hBwe⟩
    have HB_we : Hid (Below w.heap.size w we) := bstep HB_wc.out hBwe
    have XA_v8 : Hid (Cel we w.heap.size (.slice p n c) (.slice p2 n2 c2)) := XA_v7.out.up hBwe
    have T1_v8 : Hid (Tn SD SV (.agg #[.slice ps1 ns1 cs1, .slice pt1 nt1 ct1]) we) := T1_v7.out.up hBwe
    have X1_v8 : Hid (Cel we w1.heap.size (.slice ps1 ns1 cs1) (.slice pt1 nt1 ct1)) := X1_v7.out.up hBwe
    have T2_v8 : Hid (TnC SD SV (.agg #[.slice ps2 ns2 cs2, .slice pt2 nt2 ct2]) we) := T2_v7.out.up hBwe
    have X2_v8 : Hid (Cel we w2.heap.size (.slice ps2 ns2 cs2) (.slice pt2 nt2 ct2)) := X2_v7.out.up hBwe
    clear XA_v7 T1_v7 X1_v7 T2_v7 X2_v7
    clear hBwe xa0 xa1 xaz x10 x11 x1z x20 x21 x2z
    clear cm
    have ca := alike_tn T1_v8.out T2_v8.out.tn HQ.out.2.2.2.1 HQ.out.2.2.2.2
    rw [decide_eq_true ⟨rfl, rfl⟩] at ca
    obtain ⟨xa0, xa1, _, _⟩ := XA_v8.out
    have xaz := cell_lt xa0
    obtain ⟨x10, x11, _, _⟩ := X1_v8.out
    have x1z := cell_lt x10
    obtain ⟨x20, x21, _, _⟩ := X2_v8.out
    have x2z := cell_lt x20
    go_wp2_with fail
    refine (ca).mono ?_
    rintro e wf ⟨rfl, hBwf⟩
    have HB_wf : Hid (Below w.heap.size w wf) := bstep HB_we.out hBwf
    have XA_v9 : Hid (Cel wf w.heap.size (.slice p n c) (.slice p2 n2 c2)) := XA_v8.out.up hBwf
    have T1_v9 : Hid (Tn SD SV (.agg #[.slice ps1 ns1 cs1, .slice pt1 nt1 ct1]) wf) := T1_v8.out.up hBwf
    have X1_v9 : Hid (Cel wf w1.heap.size (.slice ps1 ns1 cs1) (.slice pt1 nt1 ct1)) := X1_v8.out.up hBwf
    have T2_v9 : Hid (TnC SD SV (.agg #[.slice ps2 ns2 cs2, .slice pt2 nt2 ct2]) wf) := T2_v8.out.up hBwf
    have X2_v9 : Hid (Cel wf w2.heap.size (.slice ps2 ns2 cs2) (.slice pt2 nt2 ct2)) := X2_v8.out.up hBwf
    clear XA_v8 T1_v8 X1_v8 T2_v8 X2_v8
    clear hBwf xa0 xa1 xaz x10 x11 x1z x20 x21 x2z
    clear ca
    have cg := is_tn (HTa.out wf HB_wf.out) HI.out.1
    rw [decide_eq_false hp] at cg
    clear hp
    obtain ⟨xa0, xa1, _, _⟩ := XA_v9.out
    have xaz := cell_lt xa0
    obtain ⟨x10, x11, _, _⟩ := X1_v9.out
    have x1z := cell_lt x10
    obtain ⟨x20, x21, _, _⟩ := X2_v9.out
    have x2z := cell_lt x20
    go_wp2_with fail
    refine (cg).mono ?_
    rintro e wg ⟨rfl, hBwg⟩
    have HB_wg : Hid (Below w.heap.size w wg) := bstep HB_wf.out hBwg
    have XA_v10 : Hid (Cel wg w.heap.size (.slice p n c) (.slice p2 n2 c2)) := XA_v9.out.up hBwg
    have T1_v10 : Hid (Tn SD SV (.agg #[.slice ps1 ns1 cs1, .slice pt1 nt1 ct1]) wg) := T1_v9.out.up hBwg
    have X1_v10 : Hid (Cel wg w1.heap.size (.slice ps1 ns1 cs1) (.slice pt1 nt1 ct1)) := X1_v9.out.up hBwg
    have T2_v10 : Hid (TnC SD SV (.agg #[.slice ps2 ns2 cs2, .slice pt2 nt2 ct2]) wg) := T2_v9.out.up hBwg
    have X2_v10 : Hid (Cel wg w2.heap.size (.slice ps2 ns2 cs2) (.slice pt2 nt2 ct2)) := X2_v9.out.up hBwg
    clear XA_v9 T1_v9 X1_v9 T2_v9 X2_v9
    clear hBwg xa0 xa1 xaz x10 x11 x1z x20 x21 x2z
    clear cg
    go_wp2
    go_ret
    exact ⟨rfl, HB_wg.out⟩
end Go.Proofs.YthcfeiddbffcfaaDoor.Wd
