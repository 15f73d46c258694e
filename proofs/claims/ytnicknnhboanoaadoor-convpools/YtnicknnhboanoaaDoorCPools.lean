/- ConvPools: the greatest of each so many, and where they stand, are as the document says. -/
import Derived.Test.YtnicknnhboanoaaDoorCvL
import Derived.Test.YtnicknnhboanoaaDoorRfp
namespace Go.Proofs.YtnicknnhboanoaaDoor.Wd
open Go.RowKit Fx
set_option linter.unusedVariables false
set_option linter.unusedSimpArgs false
theorem rpool_tn {D X : List Int} {v : Value} {W : World} (wd : Int) (h : Tn D X v W) (hD : RI D) (hX : RI X) :
    Calls Tryd.prog 21 #[v, .int .i64 wd] W fun e w' => ∃ v' u', e = .returned (.tuple #[v', u', .int .i64 (plE D X wd)]) ∧ TRes w' W.heap.size v' (plD D X wd) (plV D X wd) ∧ OwnK .i64 3 w' W.heap.size u' (plP D X wd) ∧ Below W.heap.size W w' := by
  obtain ⟨p, n, c, p2, n2, c2, rfl, h1, h2⟩ := h
  exact rpool_any _ _ _ _ _ _ D X wd hD hX W h1 h2
theorem pl_few (d x : List Int) (wd : Int) : Few (plD d x wd) ∧ Few (plV d x wd) ∧ Few (plP d x wd) := by
  unfold plD plV plP Few
  by_cases h : isP d x ∧ d.length = 2 ∧ plW d wd
  · rw [if_pos h, if_pos h, if_pos h, poolV_len, poolA_len]
    obtain ⟨D0, D1, rfl, hx0, k0, k1, k2⟩ := two_sides h.1 h.2.1
    have hq : D0 * (D1 / wd.toNat) ≤ 4096 := Nat.le_trans (Nat.mul_le_mul_left D0 (Nat.div_le_self D1 _)) k2
    refine ⟨by simp, ?_, ?_⟩
    · show D0 * (D1 / wd.toNat) ≤ _
      omega
    · show D0 * (D1 / wd.toNat) ≤ _
      omega
  · rw [if_neg h, if_neg h, if_neg h]
    simp
set_option maxRecDepth 8000 in
set_option maxHeartbeats 8000000 in
theorem cpools_walk (w : World) (hT : Hid (Tz w)) (za : Nat → Int) (n c : Nat) (p : Option Addr) (zb : Nat → Int) (n2 c2 : Nat) (p2 : Option Addr) (wd : Int) (r1 : RowN .i64 w p n c za) (r2 : RowN .i64 w p2 n2 c2 zb) (hwd : -9223372036854775808 ≤ wd ∧ wd ≤ 9223372036854775807) :
    Calls Tryd.prog 6 #[.agg #[.slice p n c, .slice p2 n2 c2], .int .i64 wd] w fun e w' => e = .returned (.bool true) ∧ Below w.heap.size w w' := by
  have HA : Hid (Nums .i64 w (.slice p n c) (nlst n za) ∧ Nums .i64 w (.slice p2 n2 c2) (nlst n2 zb)) := ⟨r1.nums, r2.nums⟩
  have HI : Hid (RI (nlst n za) ∧ RI (nlst n2 zb)) := ⟨r1.riI, r2.riI⟩
  have HC : Hid (n2 ≤ c2) := r2.1.1
  obtain ⟨d, ed⟩ : ∃ d, nlst n za = d := ⟨_, rfl⟩
  obtain ⟨x, ex⟩ : ∃ x, nlst n2 zb = x := ⟨_, rfl⟩
  rw [ed, ex] at HA HI
  clear ed ex r1 r2 hwd
  have HTa : Hid (∀ W, Below w.heap.size w W → TnC d x (.agg #[.slice p n c, .slice p2 n2 c2]) W) := fun W hW => ⟨_, _, _, _, _, _, rfl, HA.out.1.up hW, HA.out.2.up hW, HC.out⟩
  have HFw := pl_few d x wd
  obtain ⟨E, eE⟩ : ∃ E, plE d x wd = E := ⟨_, rfl⟩
  obtain ⟨MD, eMD⟩ : ∃ D, plD d x wd = D := ⟨_, rfl⟩
  obtain ⟨MV, eMV⟩ : ∃ V, plV d x wd = V := ⟨_, rfl⟩
  obtain ⟨MP, eMP⟩ : ∃ V, plP d x wd = V := ⟨_, rfl⟩
  rw [eMD, eMV, eMP] at HFw
  have HFF : Hid (Few MD ∧ Few MV ∧ Few MP) := HFw
  have HQ : Hid (plE d x wd = E ∧ plD d x wd = MD ∧ plV d x wd = MV ∧ plP d x wd = MP) := ⟨eE, eMD, eMV, eMP⟩
  clear HFw eE eMD eMV eMP
  haveI : Nonempty World := ⟨w⟩
  go_enter Tryd.func6, Tryd.ntmps6
  go_wp2_with fail
  generalize hW0 : World.alloc _ _ = W0
  have HB_W0 : Hid (Below w.heap.size w W0) := by show Below _ _ _; rw [← hW0]; go_grown
  have XA_v0 : Hid (Cel W0 w.heap.size (.slice p n c) (.slice p2 n2 c2)) := by show Cel _ _ _ _; unfold Cel; rw [← hW0]; simp [go_sem]
  clear hW0
  refine (awake8_any W0 (Hid.up_tz hT HB_W0.out)).mono ?_
  rintro e wa ⟨rfl, hBa⟩
  have HB_wa : Hid (Below w.heap.size w wa) := bstep HB_W0.out hBa
  have XA_v1 : Hid (Cel wa w.heap.size (.slice p n c) (.slice p2 n2 c2)) := XA_v0.out.up hBa
  clear XA_v0
  clear hBa
  have cg := great8_any p p2 n c n2 c2 300 (by decide) wa
  by_cases hga : 10 < n ∨ 300 < n2
  · rw [decide_eq_true hga] at cg
    obtain ⟨xa0, xa1, _, _⟩ := XA_v1.out
    have xaz := cell_lt xa0
    go_wp2_with fail
    refine (cg).mono ?_
    rintro e wb ⟨rfl, hBwb⟩
    have HB_wb : Hid (Below w.heap.size w wb) := bstep HB_wa.out hBwb
    have XA_v2 : Hid (Cel wb w.heap.size (.slice p n c) (.slice p2 n2 c2)) := XA_v1.out.up hBwb
    clear XA_v1
    clear hBwb xa0 xa1 xaz
    go_wp2
    go_ret
    exact ⟨rfl, HB_wb.out⟩
  rw [decide_eq_false hga] at cg
  obtain ⟨xa0, xa1, _, _⟩ := XA_v1.out
  have xaz := cell_lt xa0
  go_wp2_with fail
  refine (cg).mono ?_
  rintro e wb ⟨rfl, hBwb⟩
  have HB_wb : Hid (Below w.heap.size w wb) := bstep HB_wa.out hBwb
  have XA_v2 : Hid (Cel wb w.heap.size (.slice p n c) (.slice p2 n2 c2)) := XA_v1.out.up hBwb
  clear XA_v1
  clear hBwb xa0 xa1 xaz
  clear cg
  clear hga
  have cm := pool_tn wd (HTa.out wb HB_wb.out) HI.out.1 HI.out.2
  rw [HQ.out.1, HQ.out.2.1, HQ.out.2.2.1, HQ.out.2.2.2] at cm
  obtain ⟨xa0, xa1, _, _⟩ := XA_v2.out
  have xaz := cell_lt xa0
  go_wp2_with fail
  refine (cm).mono ?_
  rintro e w1 ⟨v1, u1, rfl, ⟨s1, t1, rfl, hs1, ht1⟩, ho1, hB1⟩
  obtain ⟨ps1, ns1, cs1, rfl, _⟩ := hs1.nums.lst
  obtain ⟨pt1, nt1, ct1, rfl, _⟩ := ht1.nums.lst
  obtain ⟨pu1, nu1, cu1, rfl, _⟩ := ho1.nums.lst
  have HB_w1 : Hid (Below w.heap.size w w1) := bstep HB_wb.out hB1
  have XA_v3 : Hid (Cel w1 w.heap.size (.slice p n c) (.slice p2 n2 c2)) := XA_v2.out.up hB1
  clear XA_v2
  have T1_v3 : Hid (TnC MD MV (.agg #[.slice ps1 ns1 cs1, .slice pt1 nt1 ct1]) w1) := ⟨_, _, _, _, _, _, rfl, hs1.nums, ht1.nums, ht1.cap⟩
  have U1_v3 : Hid (Nums .i64 w1 (.slice pu1 nu1 cu1) MP) := ho1.nums
  clear hB1 hs1 ht1 ho1 xa0 xa1 xaz
  obtain ⟨xa0, xa1, _, _⟩ := XA_v3.out
  have xaz := cell_lt xa0
  go_wp2_with fail
  generalize hW1 : World.alloc _ _ = W1
  have hC1 : Below w1.heap.size w1 W1 := by rw [← hW1]; exact up_alloc w1 _
  have HB_W1 : Hid (Below w.heap.size w W1) := bstep HB_w1.out hC1
  have XA_v4 : Hid (Cel W1 w.heap.size (.slice p n c) (.slice p2 n2 c2)) := XA_v3.out.up hC1
  have T1_v4 : Hid (TnC MD MV (.agg #[.slice ps1 ns1 cs1, .slice pt1 nt1 ct1]) W1) := T1_v3.out.up hC1
  have U1_v4 : Hid (Nums .i64 W1 (.slice pu1 nu1 cu1) MP) := U1_v3.out.up hC1
  clear XA_v3 T1_v3 U1_v3
  have X1_v4 : Hid (Cel W1 w1.heap.size (.slice ps1 ns1 cs1) (.slice pt1 nt1 ct1)) := by show Cel _ _ _ _; unfold Cel; rw [← hW1]; simp [go_sem]
  clear hW1 hC1 xa0 xa1 xaz
  clear cm
  have cm := rpool_tn wd (HTa.out W1 HB_W1.out).tn HI.out.1 HI.out.2
  rw [HQ.out.1, HQ.out.2.1, HQ.out.2.2.1, HQ.out.2.2.2] at cm
  obtain ⟨xa0, xa1, _, _⟩ := XA_v4.out
  have xaz := cell_lt xa0
  obtain ⟨x10, x11, _, _⟩ := X1_v4.out
  have x1z := cell_lt x10
  go_wp2_with fail
  refine (cm).mono ?_
  rintro e w2 ⟨v2, u2, rfl, ⟨s2, t2, rfl, hs2, ht2⟩, ho2, hB2⟩
  obtain ⟨ps2, ns2, cs2, rfl, _⟩ := hs2.nums.lst
  obtain ⟨pt2, nt2, ct2, rfl, _⟩ := ht2.nums.lst
  obtain ⟨pu2, nu2, cu2, rfl, _⟩ := ho2.nums.lst
  have HB_w2 : Hid (Below w.heap.size w w2) := bstep HB_W1.out hB2
  have XA_v5 : Hid (Cel w2 w.heap.size (.slice p n c) (.slice p2 n2 c2)) := XA_v4.out.up hB2
  have T1_v5 : Hid (TnC MD MV (.agg #[.slice ps1 ns1 cs1, .slice pt1 nt1 ct1]) w2) := T1_v4.out.up hB2
  have U1_v5 : Hid (Nums .i64 w2 (.slice pu1 nu1 cu1) MP) := U1_v4.out.up hB2
  have X1_v5 : Hid (Cel w2 w1.heap.size (.slice ps1 ns1 cs1) (.slice pt1 nt1 ct1)) := X1_v4.out.up hB2
  clear XA_v4 T1_v4 U1_v4 X1_v4
  have T2_v5 : Hid (TnC MD MV (.agg #[.slice ps2 ns2 cs2, .slice pt2 nt2 ct2]) w2) := ⟨_, _, _, _, _, _, rfl, hs2.nums, ht2.nums, ht2.cap⟩
  have U2_v5 : Hid (Nums .i64 w2 (.slice pu2 nu2 cu2) MP) := ho2.nums
  clear hB2 hs2 ht2 ho2 xa0 xa1 xaz x10 x11 x1z
  obtain ⟨xa0, xa1, _, _⟩ := XA_v5.out
  have xaz := cell_lt xa0
  obtain ⟨x10, x11, _, _⟩ := X1_v5.out
  have x1z := cell_lt x10
  go_wp2_with fail
  generalize hW2 : World.alloc _ _ = W2
  have hC2 : Below w2.heap.size w2 W2 := by rw [← hW2]; exact up_alloc w2 _
  have HB_W2 : Hid (Below w.heap.size w W2) := bstep HB_w2.out hC2
  have XA_v6 : Hid (Cel W2 w.heap.size (.slice p n c) (.slice p2 n2 c2)) := XA_v5.out.up hC2
  have T1_v6 : Hid (TnC MD MV (.agg #[.slice ps1 ns1 cs1, .slice pt1 nt1 ct1]) W2) := T1_v5.out.up hC2
  have U1_v6 : Hid (Nums .i64 W2 (.slice pu1 nu1 cu1) MP) := U1_v5.out.up hC2
  have X1_v6 : Hid (Cel W2 w1.heap.size (.slice ps1 ns1 cs1) (.slice pt1 nt1 ct1)) := X1_v5.out.up hC2
  have T2_v6 : Hid (TnC MD MV (.agg #[.slice ps2 ns2 cs2, .slice pt2 nt2 ct2]) W2) := T2_v5.out.up hC2
  have U2_v6 : Hid (Nums .i64 W2 (.slice pu2 nu2 cu2) MP) := U2_v5.out.up hC2
  clear XA_v5 T1_v5 U1_v5 X1_v5 T2_v5 U2_v5
  have X2_v6 : Hid (Cel W2 w2.heap.size (.slice ps2 ns2 cs2) (.slice pt2 nt2 ct2)) := by show Cel _ _ _ _; unfold Cel; rw [← hW2]; simp [go_sem]
  clear hW2 hC2 xa0 xa1 xaz x10 x11 x1z
  clear cm
  have ca := alike_tn T1_v6.out.tn T2_v6.out.tn HFF.out.1 HFF.out.2.1
  rw [decide_eq_true ⟨rfl, rfl⟩] at ca
  obtain ⟨xa0, xa1, _, _⟩ := XA_v6.out
  have xaz := cell_lt xa0
  obtain ⟨x10, x11, _, _⟩ := X1_v6.out
  have x1z := cell_lt x10
  obtain ⟨x20, x21, _, _⟩ := X2_v6.out
  have x2z := cell_lt x20
  go_wp2_with fail
  refine (ca).mono ?_
  rintro e wy ⟨rfl, hBwy⟩
  have HB_wy : Hid (Below w.heap.size w wy) := bstep HB_W2.out hBwy
  have XA_v7 : Hid (Cel wy w.heap.size (.slice p n c) (.slice p2 n2 c2)) := XA_v6.out.up hBwy
  have T1_v7 : Hid (TnC MD MV (.agg #[.slice ps1 ns1 cs1, .slice pt1 nt1 ct1]) wy) := T1_v6.out.up hBwy
  have U1_v7 : Hid (Nums .i64 wy (.slice pu1 nu1 cu1) MP) := U1_v6.out.up hBwy
  have X1_v7 : Hid (Cel wy w1.heap.size (.slice ps1 ns1 cs1) (.slice pt1 nt1 ct1)) := X1_v6.out.up hBwy
  have T2_v7 : Hid (TnC MD MV (.agg #[.slice ps2 ns2 cs2, .slice pt2 nt2 ct2]) wy) := T2_v6.out.up hBwy
  have U2_v7 : Hid (Nums .i64 wy (.slice pu2 nu2 cu2) MP) := U2_v6.out.up hBwy
  have X2_v7 : Hid (Cel wy w2.heap.size (.slice ps2 ns2 cs2) (.slice pt2 nt2 ct2)) := X2_v6.out.up hBwy
  clear XA_v6 T1_v6 U1_v6 X1_v6 T2_v6 U2_v6 X2_v6
  clear hBwy xa0 xa1 xaz x10 x11 x1z x20 x21 x2z
  clear ca
  have ca := rsame_any _ _ MP MP HFF.out.2.2 wy U1_v7.out U2_v7.out
  rw [decide_eq_true rfl] at ca
  go_wp2_with fail
  refine ca.mono ?_
  rintro e wz ⟨rfl, nq, hwz⟩
  have hBz : Below wy.heap.size wy wz := by rw [hwz]; exact below_drew (Below.refl _ _) nq
  have HB_wz : Hid (Below w.heap.size w wz) := bstep HB_wy.out hBz
  clear ca hwz hBz
  go_wp2
  go_ret
  exact ⟨rfl, HB_wz.out⟩
end Go.Proofs.YtnicknnhboanoaaDoor.Wd
