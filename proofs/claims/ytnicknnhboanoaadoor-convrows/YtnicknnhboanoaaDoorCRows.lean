/- ConvRows: any rows, any windows, any step: as the document says, each number summed exactly, rounded once. -/
import Derived.Test.YtnicknnhboanoaaDoorCvL
import Derived.Test.YtnicknnhboanoaaDoorRgr
namespace Go.Proofs.YtnicknnhboanoaaDoor.Wd
open Go.RowKit Fx
set_option linter.unusedVariables false
set_option linter.unusedSimpArgs false
theorem rrow_tn {D X D' X' : List Int} {v v' : Value} {W : World} (st : Int) (h : Tn D X v W) (h' : Tn D' X' v' W) (hD : RI D) (hX : RI X) (hD' : RI D') (hX' : RI X') :
    Calls Tryd.prog 18 #[v, v', .int .i64 st] W fun e w' => ∃ u, e = .returned (.tuple #[u, .int .i64 (rwE D X D' X' st)]) ∧ TRes w' W.heap.size u (rwD D X D' X' st) (rwV D X D' X' st) ∧ Below W.heap.size W w' := by
  obtain ⟨p, n, c, p2, n2, c2, rfl, h1, h2⟩ := h
  obtain ⟨p', n', c', p2', n2', c2', rfl, h1', h2'⟩ := h'
  exact rrow_any _ _ _ _ _ _ _ _ _ _ _ _ D X D' X' st hD hX hD' hX' W h1 h2 h1' h2'
theorem few_new {d : List Int} (h : d.length ≤ 4) : Few (newD d) := by
  unfold newD Few
  split
  · omega
  · simp
theorem few_if {P : Prop} [Decidable P] {l : List Int} (h : P → l.length ≤ 4096) : Few (if P then l else []) := by
  unfold Few
  split
  · rename_i hp
    have := h hp
    omega
  · simp
theorem few_if2 {P : Prop} [Decidable P] {l : List Int} (h : P → Few l) : Few (if P then l else []) := by
  split
  · rename_i hp
    exact h hp
  · unfold Few
    simp
theorem prod_good {d : List Int} (h : goodN (ntl d)) {m : Nat} (e : prodN (ntl d) = m) : m ≤ 4096 := by rw [← e]; exact h.2.2
theorem rw_few (d x d' y : List Int) (st : Int) : Few (rwD d x d' y st) ∧ Few (rwV d x d' y st) := by
  refine ⟨few_if2 fun _ => few_new (by simp [rwO]), few_if2 fun h => few_if fun hg => ?_⟩
  obtain ⟨O, C, W, rfl, _⟩ := three_sides h.1.2.1 h.2.2.1
  rw [convV_len]
  exact prod_good hg (prod_two O _)
set_option maxRecDepth 8000 in
set_option maxHeartbeats 8000000 in
theorem crows_walk (w : World) (hT : Hid (Tz w)) (za : Nat → Int) (n c : Nat) (p : Option Addr) (zb : Nat → Int) (n2 c2 : Nat) (p2 : Option Addr) (zc : Nat → Int) (n3 c3 : Nat) (p3 : Option Addr) (zd : Nat → Int) (n4 c4 : Nat) (p4 : Option Addr) (st : Int)
    (r1 : RowN .i64 w p n c za) (r2 : RowN .i64 w p2 n2 c2 zb) (r3 : RowN .i64 w p3 n3 c3 zc) (r4 : RowN .i64 w p4 n4 c4 zd) (hst : -9223372036854775808 ≤ st ∧ st ≤ 9223372036854775807) :
    Calls Tryd.prog 4 #[.agg #[.slice p n c, .slice p2 n2 c2], .agg #[.slice p3 n3 c3, .slice p4 n4 c4], .int .i64 st] w fun e w' => e = .returned (.bool true) ∧ Below w.heap.size w w' := by
  have HA : Hid (Nums .i64 w (.slice p n c) (nlst n za) ∧ Nums .i64 w (.slice p2 n2 c2) (nlst n2 zb) ∧ Nums .i64 w (.slice p3 n3 c3) (nlst n3 zc) ∧ Nums .i64 w (.slice p4 n4 c4) (nlst n4 zd)) := ⟨r1.nums, r2.nums, r3.nums, r4.nums⟩
  have HI : Hid (RI (nlst n za) ∧ RI (nlst n2 zb) ∧ RI (nlst n3 zc) ∧ RI (nlst n4 zd)) := ⟨r1.riI, r2.riI, r3.riI, r4.riI⟩
  have HF : Hid (Few (nlst n za) ∧ Few (nlst n2 zb) ∧ Few (nlst n3 zc) ∧ Few (nlst n4 zd)) := ⟨r1.few, r2.few, r3.few, r4.few⟩
  have HC : Hid (n2 ≤ c2 ∧ n4 ≤ c4) := ⟨r2.1.1, r4.1.1⟩
  obtain ⟨d, ed⟩ : ∃ d, nlst n za = d := ⟨_, rfl⟩
  obtain ⟨x, ex⟩ : ∃ x, nlst n2 zb = x := ⟨_, rfl⟩
  obtain ⟨d', ed'⟩ : ∃ d, nlst n3 zc = d := ⟨_, rfl⟩
  obtain ⟨y, ey⟩ : ∃ y, nlst n4 zd = y := ⟨_, rfl⟩
  rw [ed, ex, ed', ey] at HA HI HF
  clear ed ex ed' ey r1 r2 r3 r4
  have HTa : Hid (∀ W, Below w.heap.size w W → TnC d x (.agg #[.slice p n c, .slice p2 n2 c2]) W ∧ TnC d' y (.agg #[.slice p3 n3 c3, .slice p4 n4 c4]) W) := fun W hW => ⟨⟨_, _, _, _, _, _, rfl, HA.out.1.up hW, HA.out.2.1.up hW, HC.out.1⟩, _, _, _, _, _, _, rfl, HA.out.2.2.1.up hW, HA.out.2.2.2.up hW, HC.out.2⟩
  have HFw := rw_few d x d' y st
  obtain ⟨E, eE⟩ : ∃ E, rwE d x d' y st = E := ⟨_, rfl⟩
  obtain ⟨MD, eMD⟩ : ∃ D, rwD d x d' y st = D := ⟨_, rfl⟩
  obtain ⟨MV, eMV⟩ : ∃ V, rwV d x d' y st = V := ⟨_, rfl⟩
  rw [eMD, eMV] at HFw
  have HFF : Hid (Few MD ∧ Few MV) := HFw
  have HQ : Hid (rwE d x d' y st = E ∧ rwD d x d' y st = MD ∧ rwV d x d' y st = MV) := ⟨eE, eMD, eMV⟩
  clear HFw eE eMD eMV hst
  haveI : Nonempty World := ⟨w⟩
  go_enter Tryd.func4, Tryd.ntmps4
  go_wp2_with fail
  generalize hW0 : World.alloc _ _ = W0
  have HB_W0 : Hid (Below w.heap.size w W0) := by show Below _ _ _; rw [← hW0]; go_grown
  have XA_v0 : Hid (Cel W0 w.heap.size (.slice p n c) (.slice p2 n2 c2)) := by show Cel _ _ _ _; unfold Cel; rw [← hW0]; simp [go_sem]
  have XB_v0 : Hid (Cel W0 (w.heap.size + 1) (.slice p3 n3 c3) (.slice p4 n4 c4)) := by show Cel _ _ _ _; unfold Cel; rw [← hW0]; simp [go_sem]
  clear hW0
  refine (awake8_any W0 (Hid.up_tz hT HB_W0.out)).mono ?_
  rintro e wa ⟨rfl, hBa⟩
  have HB_wa : Hid (Below w.heap.size w wa) := bstep HB_W0.out hBa
  have XA_v1 : Hid (Cel wa w.heap.size (.slice p n c) (.slice p2 n2 c2)) := XA_v0.out.up hBa
  have XB_v1 : Hid (Cel wa (w.heap.size + 1) (.slice p3 n3 c3) (.slice p4 n4 c4)) := XB_v0.out.up hBa
  clear XA_v0 XB_v0
  clear hBa
  have cg := great8_any p p2 n c n2 c2 150 (by decide) wa
  by_cases hga : 10 < n ∨ 150 < n2
  · rw [decide_eq_true hga] at cg
    obtain ⟨xa0, xa1, _, _⟩ := XA_v1.out
    have xaz := cell_lt xa0
    obtain ⟨xb0, xb1, _, _⟩ := XB_v1.out
    have xbz := cell_lt xb0
    go_wp2_with fail
    refine (cg).mono ?_
    rintro e wb ⟨rfl, hBwb⟩
    have HB_wb : Hid (Below w.heap.size w wb) := bstep HB_wa.out hBwb
    have XA_v2 : Hid (Cel wb w.heap.size (.slice p n c) (.slice p2 n2 c2)) := XA_v1.out.up hBwb
    have XB_v2 : Hid (Cel wb (w.heap.size + 1) (.slice p3 n3 c3) (.slice p4 n4 c4)) := XB_v1.out.up hBwb
    clear XA_v1 XB_v1
    clear hBwb xa0 xa1 xaz xb0 xb1 xbz
    go_wp2
    go_ret
    exact ⟨rfl, HB_wb.out⟩
  rw [decide_eq_false hga] at cg
  obtain ⟨xa0, xa1, _, _⟩ := XA_v1.out
  have xaz := cell_lt xa0
  obtain ⟨xb0, xb1, _, _⟩ := XB_v1.out
  have xbz := cell_lt xb0
  go_wp2_with fail
  refine (cg).mono ?_
  rintro e wb ⟨rfl, hBwb⟩
  have HB_wb : Hid (Below w.heap.size w wb) := bstep HB_wa.out hBwb
  have XA_v2 : Hid (Cel wb w.heap.size (.slice p n c) (.slice p2 n2 c2)) := XA_v1.out.up hBwb
  have XB_v2 : Hid (Cel wb (w.heap.size + 1) (.slice p3 n3 c3) (.slice p4 n4 c4)) := XB_v1.out.up hBwb
  clear XA_v1 XB_v1
  clear hBwb xa0 xa1 xaz xb0 xb1 xbz
  clear cg
  clear hga
  have cg := great8_any p3 p4 n3 c3 n4 c4 150 (by decide) wb
  by_cases hga : 10 < n3 ∨ 150 < n4
  · rw [decide_eq_true hga] at cg
    obtain ⟨xa0, xa1, _, _⟩ := XA_v2.out
    have xaz := cell_lt xa0
    obtain ⟨xb0, xb1, _, _⟩ := XB_v2.out
    have xbz := cell_lt xb0
    go_wp2_with fail
    refine (cg).mono ?_
    rintro e wc ⟨rfl, hBwc⟩
    have HB_wc : Hid (Below w.heap.size w wc) := bstep HB_wb.out hBwc
    have XA_v3 : Hid (Cel wc w.heap.size (.slice p n c) (.slice p2 n2 c2)) := XA_v2.out.up hBwc
    have XB_v3 : Hid (Cel wc (w.heap.size + 1) (.slice p3 n3 c3) (.slice p4 n4 c4)) := XB_v2.out.up hBwc
    clear XA_v2 XB_v2
    clear hBwc xa0 xa1 xaz xb0 xb1 xbz
    go_wp2
    go_ret
    exact ⟨rfl, HB_wc.out⟩
  rw [decide_eq_false hga] at cg
  obtain ⟨xa0, xa1, _, _⟩ := XA_v2.out
  have xaz := cell_lt xa0
  obtain ⟨xb0, xb1, _, _⟩ := XB_v2.out
  have xbz := cell_lt xb0
  go_wp2_with fail
  refine (cg).mono ?_
  rintro e wc ⟨rfl, hBwc⟩
  have HB_wc : Hid (Below w.heap.size w wc) := bstep HB_wb.out hBwc
  have XA_v3 : Hid (Cel wc w.heap.size (.slice p n c) (.slice p2 n2 c2)) := XA_v2.out.up hBwc
  have XB_v3 : Hid (Cel wc (w.heap.size + 1) (.slice p3 n3 c3) (.slice p4 n4 c4)) := XB_v2.out.up hBwc
  clear XA_v2 XB_v2
  clear hBwc xa0 xa1 xaz xb0 xb1 xbz
  clear cg
  clear hga
  have cm := row_tn st (HTa.out wc HB_wc.out).1.tn (HTa.out wc HB_wc.out).2.tn HI.out.1 HI.out.2.1 HI.out.2.2.1 HI.out.2.2.2 (Hid.up_tz hT HB_wc.out)
  rw [HQ.out.1, HQ.out.2.1, HQ.out.2.2] at cm
  obtain ⟨xa0, xa1, _, _⟩ := XA_v3.out
  have xaz := cell_lt xa0
  obtain ⟨xb0, xb1, _, _⟩ := XB_v3.out
  have xbz := cell_lt xb0
  go_wp2_with fail
  refine (cm).mono ?_
  rintro e w1 ⟨v1, rfl, ⟨s1, t1, rfl, hs1, ht1⟩, hB1⟩
  obtain ⟨ps1, ns1, cs1, rfl, _⟩ := hs1.nums.lst
  obtain ⟨pt1, nt1, ct1, rfl, _⟩ := ht1.nums.lst
  have HB_w1 : Hid (Below w.heap.size w w1) := bstep HB_wc.out hB1
  have XA_v4 : Hid (Cel w1 w.heap.size (.slice p n c) (.slice p2 n2 c2)) := XA_v3.out.up hB1
  have XB_v4 : Hid (Cel w1 (w.heap.size + 1) (.slice p3 n3 c3) (.slice p4 n4 c4)) := XB_v3.out.up hB1
  clear XA_v3 XB_v3
  have T1_v4 : Hid (TnC MD MV (.agg #[.slice ps1 ns1 cs1, .slice pt1 nt1 ct1]) w1) := ⟨_, _, _, _, _, _, rfl, hs1.nums, ht1.nums, ht1.cap⟩
  clear hB1 hs1 ht1 xa0 xa1 xaz xb0 xb1 xbz
  obtain ⟨xa0, xa1, _, _⟩ := XA_v4.out
  have xaz := cell_lt xa0
  obtain ⟨xb0, xb1, _, _⟩ := XB_v4.out
  have xbz := cell_lt xb0
  go_wp2_with fail
  generalize hW1 : World.alloc _ _ = W1
  have hC1 : Below w1.heap.size w1 W1 := by rw [← hW1]; exact up_alloc w1 _
  have HB_W1 : Hid (Below w.heap.size w W1) := bstep HB_w1.out hC1
  have XA_v5 : Hid (Cel W1 w.heap.size (.slice p n c) (.slice p2 n2 c2)) := XA_v4.out.up hC1
  have XB_v5 : Hid (Cel W1 (w.heap.size + 1) (.slice p3 n3 c3) (.slice p4 n4 c4)) := XB_v4.out.up hC1
  have T1_v5 : Hid (TnC MD MV (.agg #[.slice ps1 ns1 cs1, .slice pt1 nt1 ct1]) W1) := T1_v4.out.up hC1
  clear XA_v4 XB_v4 T1_v4
  have X1_v5 : Hid (Cel W1 w1.heap.size (.slice ps1 ns1 cs1) (.slice pt1 nt1 ct1)) := by show Cel _ _ _ _; unfold Cel; rw [← hW1]; simp [go_sem]
  clear hW1 hC1 xa0 xa1 xaz xb0 xb1 xbz
  clear cm
  have cm := rrow_tn st (HTa.out W1 HB_W1.out).1.tn (HTa.out W1 HB_W1.out).2.tn HI.out.1 HI.out.2.1 HI.out.2.2.1 HI.out.2.2.2
  rw [HQ.out.1, HQ.out.2.1, HQ.out.2.2] at cm
  obtain ⟨xa0, xa1, _, _⟩ := XA_v5.out
  have xaz := cell_lt xa0
  obtain ⟨xb0, xb1, _, _⟩ := XB_v5.out
  have xbz := cell_lt xb0
  obtain ⟨x10, x11, _, _⟩ := X1_v5.out
  have x1z := cell_lt x10
  go_wp2_with fail
  refine (cm).mono ?_
  rintro e w2 ⟨v2, rfl, ⟨s2, t2, rfl, hs2, ht2⟩, hB2⟩
  obtain ⟨ps2, ns2, cs2, rfl, _⟩ := hs2.nums.lst
  obtain ⟨pt2, nt2, ct2, rfl, _⟩ := ht2.nums.lst
  have HB_w2 : Hid (Below w.heap.size w w2) := bstep HB_W1.out hB2
  have XA_v6 : Hid (Cel w2 w.heap.size (.slice p n c) (.slice p2 n2 c2)) := XA_v5.out.up hB2
  have XB_v6 : Hid (Cel w2 (w.heap.size + 1) (.slice p3 n3 c3) (.slice p4 n4 c4)) := XB_v5.out.up hB2
  have T1_v6 : Hid (TnC MD MV (.agg #[.slice ps1 ns1 cs1, .slice pt1 nt1 ct1]) w2) := T1_v5.out.up hB2
  have X1_v6 : Hid (Cel w2 w1.heap.size (.slice ps1 ns1 cs1) (.slice pt1 nt1 ct1)) := X1_v5.out.up hB2
  clear XA_v5 XB_v5 T1_v5 X1_v5
  have T2_v6 : Hid (TnC MD MV (.agg #[.slice ps2 ns2 cs2, .slice pt2 nt2 ct2]) w2) := ⟨_, _, _, _, _, _, rfl, hs2.nums, ht2.nums, ht2.cap⟩
  clear hB2 hs2 ht2 xa0 xa1 xaz xb0 xb1 xbz x10 x11 x1z
  obtain ⟨xa0, xa1, _, _⟩ := XA_v6.out
  have xaz := cell_lt xa0
  obtain ⟨xb0, xb1, _, _⟩ := XB_v6.out
  have xbz := cell_lt xb0
  obtain ⟨x10, x11, _, _⟩ := X1_v6.out
  have x1z := cell_lt x10
  go_wp2_with fail
  generalize hW2 : World.alloc _ _ = W2
  have hC2 : Below w2.heap.size w2 W2 := by rw [← hW2]; exact up_alloc w2 _
  have HB_W2 : Hid (Below w.heap.size w W2) := bstep HB_w2.out hC2
  have XA_v7 : Hid (Cel W2 w.heap.size (.slice p n c) (.slice p2 n2 c2)) := XA_v6.out.up hC2
  have XB_v7 : Hid (Cel W2 (w.heap.size + 1) (.slice p3 n3 c3) (.slice p4 n4 c4)) := XB_v6.out.up hC2
  have T1_v7 : Hid (TnC MD MV (.agg #[.slice ps1 ns1 cs1, .slice pt1 nt1 ct1]) W2) := T1_v6.out.up hC2
  have X1_v7 : Hid (Cel W2 w1.heap.size (.slice ps1 ns1 cs1) (.slice pt1 nt1 ct1)) := X1_v6.out.up hC2
  have T2_v7 : Hid (TnC MD MV (.agg #[.slice ps2 ns2 cs2, .slice pt2 nt2 ct2]) W2) := T2_v6.out.up hC2
  clear XA_v6 XB_v6 T1_v6 X1_v6 T2_v6
  have X2_v7 : Hid (Cel W2 w2.heap.size (.slice ps2 ns2 cs2) (.slice pt2 nt2 ct2)) := by show Cel _ _ _ _; unfold Cel; rw [← hW2]; simp [go_sem]
  clear hW2 hC2 xa0 xa1 xaz xb0 xb1 xbz x10 x11 x1z
  clear cm
  have ca := alike_tn T1_v7.out.tn T2_v7.out.tn HFF.out.1 HFF.out.2
  rw [decide_eq_true ⟨rfl, rfl⟩] at ca
  obtain ⟨xa0, xa1, _, _⟩ := XA_v7.out
  have xaz := cell_lt xa0
  obtain ⟨xb0, xb1, _, _⟩ := XB_v7.out
  have xbz := cell_lt xb0
  obtain ⟨x10, x11, _, _⟩ := X1_v7.out
  have x1z := cell_lt x10
  obtain ⟨x20, x21, _, _⟩ := X2_v7.out
  have x2z := cell_lt x20
  go_wp2_with fail
  refine (ca).mono ?_
  rintro e wz ⟨rfl, hBwz⟩
  have HB_wz : Hid (Below w.heap.size w wz) := bstep HB_W2.out hBwz
  have XA_v8 : Hid (Cel wz w.heap.size (.slice p n c) (.slice p2 n2 c2)) := XA_v7.out.up hBwz
  have XB_v8 : Hid (Cel wz (w.heap.size + 1) (.slice p3 n3 c3) (.slice p4 n4 c4)) := XB_v7.out.up hBwz
  have T1_v8 : Hid (TnC MD MV (.agg #[.slice ps1 ns1 cs1, .slice pt1 nt1 ct1]) wz) := T1_v7.out.up hBwz
  have X1_v8 : Hid (Cel wz w1.heap.size (.slice ps1 ns1 cs1) (.slice pt1 nt1 ct1)) := X1_v7.out.up hBwz
  have T2_v8 : Hid (TnC MD MV (.agg #[.slice ps2 ns2 cs2, .slice pt2 nt2 ct2]) wz) := T2_v7.out.up hBwz
  have X2_v8 : Hid (Cel wz w2.heap.size (.slice ps2 ns2 cs2) (.slice pt2 nt2 ct2)) := X2_v7.out.up hBwz
  clear XA_v7 XB_v7 T1_v7 X1_v7 T2_v7 X2_v7
  clear hBwz xa0 xa1 xaz xb0 xb1 xbz x10 x11 x1z x20 x21 x2z
  go_wp2
  go_ret
  exact ⟨rfl, HB_wz.out⟩
end Go.Proofs.YtnicknnhboanoaaDoor.Wd
