/- ActAll: any tensor, bent, and a gradient that comes back, are as the document says. -/
import Derived.Test.YtlehlikgehbnfaaActL
import Derived.Test.YtlehlikgehbnfaaActD
import Derived.Test.YtlehlikgehbnfaaActE
namespace Go.Proofs.Ytlehlikgehbnfaa.Wd
open Go.RowKit Fx
set_option linter.unusedVariables false
set_option linter.unusedSimpArgs false
set_option maxRecDepth 8000 in
set_option maxHeartbeats 8000000 in
theorem aall_walk (w : World) (k : Int) (za : Nat → Int) (n c : Nat) (p : Option Addr) (zb : Nat → Int) (n2 c2 : Nat) (p2 : Option Addr) (zc : Nat → Int) (n3 c3 : Nat) (p3 : Option Addr) (zd : Nat → Int) (n4 c4 : Nat) (p4 : Option Addr)
    (hk : -9223372036854775808 ≤ k ∧ k ≤ 9223372036854775807) (r1 : RowN .i64 w p n c za) (r2 : RowN .i64 w p2 n2 c2 zb) (r3 : RowN .i64 w p3 n3 c3 zc) (r4 : RowN .i64 w p4 n4 c4 zd) :
    Calls Try.prog 5 #[.int .i64 k, .agg #[.slice p n c, .slice p2 n2 c2], .agg #[.slice p3 n3 c3, .slice p4 n4 c4]] w fun e w' => e = .returned (.bool true) ∧ Below w.heap.size w w' := by
  have HA : Hid (Nums .i64 w (.slice p n c) (nlst n za) ∧ Nums .i64 w (.slice p2 n2 c2) (nlst n2 zb) ∧ Nums .i64 w (.slice p3 n3 c3) (nlst n3 zc) ∧ Nums .i64 w (.slice p4 n4 c4) (nlst n4 zd)) := ⟨r1.nums, r2.nums, r3.nums, r4.nums⟩
  have HI : Hid (RI (nlst n za) ∧ RI (nlst n2 zb) ∧ RI (nlst n3 zc) ∧ RI (nlst n4 zd)) := ⟨r1.riI, r2.riI, r3.riI, r4.riI⟩
  obtain ⟨d, ed⟩ : ∃ d, nlst n za = d := ⟨_, rfl⟩
  obtain ⟨x, ex⟩ : ∃ x, nlst n2 zb = x := ⟨_, rfl⟩
  obtain ⟨d', ed'⟩ : ∃ d, nlst n3 zc = d := ⟨_, rfl⟩
  obtain ⟨y, ey⟩ : ∃ y, nlst n4 zd = y := ⟨_, rfl⟩
  rw [ed, ex, ed', ey] at HA HI
  clear ed ex ed' ey r1 r2 r3 r4 hk
  obtain ⟨E1, e1⟩ : ∃ E, bentE k d x = E := ⟨_, rfl⟩
  obtain ⟨D1, e2⟩ : ∃ D, bentD k d x = D := ⟨_, rfl⟩
  obtain ⟨V1, e3⟩ : ∃ V, bentV k d x = V := ⟨_, rfl⟩
  obtain ⟨E2, e4⟩ : ∃ E, unbE k d x d' y = E := ⟨_, rfl⟩
  obtain ⟨D2, e5⟩ : ∃ D, unbD k d x d' y = D := ⟨_, rfl⟩
  obtain ⟨V2, e6⟩ : ∃ V, unbV k d x d' y = V := ⟨_, rfl⟩
  have HF : Hid ((Few D1 ∧ Few V1) ∧ Few D2 ∧ Few V2) := ⟨by rw [← e2, ← e3]; exact bent_few k d x, by rw [← e5, ← e6]; exact unb_few k d x d' y⟩
  have f1 : Hid (∀ W, Below w.heap.size w W → Calls Try.prog 13 #[.int .i64 k, .agg #[.slice p n c, .slice p2 n2 c2]] W fun e w' => ∃ v', e = .returned (.tuple #[v', .int .i64 E1]) ∧ TRes w' W.heap.size v' D1 V1 ∧ Below W.heap.size W w') := fun W hW => by
    rw [← e1, ← e2, ← e3]
    exact aall_any k p p2 n c n2 c2 d x HI.out.1 HI.out.2.1 W (HA.out.1.up hW) (HA.out.2.1.up hW)
  have f2 : Hid (∀ W, Below w.heap.size w W → Calls Try.prog 18 #[.int .i64 k, .agg #[.slice p n c, .slice p2 n2 c2]] W fun e w' => ∃ v', e = .returned (.tuple #[v', .int .i64 E1]) ∧ TRes w' W.heap.size v' D1 V1 ∧ Below W.heap.size W w') := fun W hW => by
    rw [← e1, ← e2, ← e3]
    exact rbent_any k p p2 n c n2 c2 d x HI.out.1 HI.out.2.1 W (HA.out.1.up hW) (HA.out.2.1.up hW)
  have f3 : Hid (∀ W, Below w.heap.size w W → Calls Try.prog 12 #[.int .i64 k, .agg #[.slice p n c, .slice p2 n2 c2], .agg #[.slice p3 n3 c3, .slice p4 n4 c4]] W fun e w' => ∃ v', e = .returned (.tuple #[v', .int .i64 E2]) ∧ TRes w' W.heap.size v' D2 V2 ∧ Below W.heap.size W w') := fun W hW => by
    rw [← e4, ← e5, ← e6]
    exact aback_any k p p2 p3 p4 n c n2 c2 n3 c3 n4 c4 d x d' y HI.out.1 HI.out.2.1 HI.out.2.2.1 HI.out.2.2.2 W (HA.out.1.up hW) (HA.out.2.1.up hW) (HA.out.2.2.1.up hW) (HA.out.2.2.2.up hW)
  have f4 : Hid (∀ W, Below w.heap.size w W → Calls Try.prog 19 #[.int .i64 k, .agg #[.slice p n c, .slice p2 n2 c2], .agg #[.slice p3 n3 c3, .slice p4 n4 c4]] W fun e w' => ∃ v', e = .returned (.tuple #[v', .int .i64 E2]) ∧ TRes w' W.heap.size v' D2 V2 ∧ Below W.heap.size W w') := fun W hW => by
    rw [← e4, ← e5, ← e6]
    exact runbent_any k p p2 p3 p4 n c n2 c2 n3 c3 n4 c4 d x d' y HI.out.1 HI.out.2.1 HI.out.2.2.1 HI.out.2.2.2 W (HA.out.1.up hW) (HA.out.2.1.up hW) (HA.out.2.2.1.up hW) (HA.out.2.2.2.up hW)
  clear e1 e2 e3 e4 e5 e6
  haveI : Nonempty World := ⟨w⟩
  go_enter Try.func5, Try.ntmps5
  go_wp2_with fail
  generalize hW0 : World.alloc _ _ = W0
  have HB_W0 : Hid (Below w.heap.size w W0) := by show Below _ _ _; rw [← hW0]; go_grown
  have XA_v0 : Hid (Cel W0 w.heap.size (.slice p n c) (.slice p2 n2 c2)) := by show Cel _ _ _ _; unfold Cel; rw [← hW0]; simp [go_sem]
  have XB_v0 : Hid (Cel W0 (w.heap.size + 1) (.slice p3 n3 c3) (.slice p4 n4 c4)) := by show Cel _ _ _ _; unfold Cel; rw [← hW0]; simp [go_sem]
  clear hW0
  refine (awake9_any W0).mono ?_
  rintro e wa ⟨rfl, hBa⟩
  have HB_wa : Hid (Below w.heap.size w wa) := bstep HB_W0.out hBa
  have XA_v1 : Hid (Cel wa w.heap.size (.slice p n c) (.slice p2 n2 c2)) := XA_v0.out.up hBa
  have XB_v1 : Hid (Cel wa (w.heap.size + 1) (.slice p3 n3 c3) (.slice p4 n4 c4)) := XB_v0.out.up hBa
  clear XA_v0 XB_v0
  clear hBa
  have cg := great9_any p p2 n c n2 c2 300 (by decide) wa
  by_cases hga : 10 < n ∨ 300 < n2
  · rw [decide_eq_true hga] at cg
    obtain ⟨xa0, xa1, _, _⟩ := XA_v1.out
    have xaz := cell_lt xa0
    obtain ⟨xb0, xb1, _, _⟩ := XB_v1.out
    have xbz := cell_lt xb0
    go_wp2_with fail
    refine (cg).mono ?_
    rintro e wb ⟨rfl, hBwb⟩
    have HB_wb : Hid (Below w.heap.size w wb) := bstep HB_wa.out hBwb
    have XA_v2 : Hid (Cel wb w.heap.size (.slice p n c) (.slice p2 n2 c2)) := XA_v1.out.up hBwb
    have XB_v2 : Hid (Cel wb (w.heap.size + 1) (.slice p3 n3 c3) (.slice p4 n4 c4)) := XB_v1.out.up hBwb
    clear XA_v1 XB_v1
    clear hBwb xa0 xa1 xaz xb0 xb1 xbz
    go_wp2
    go_ret
    exact ⟨rfl, HB_wb.out⟩
  rw [decide_eq_false hga] at cg
  obtain ⟨xa0, xa1, _, _⟩ := XA_v1.out
  have xaz := cell_lt xa0
  obtain ⟨xb0, xb1, _, _⟩ := XB_v1.out
  have xbz := cell_lt xb0
  go_wp2_with fail
  refine (cg).mono ?_
  rintro e wb ⟨rfl, hBwb⟩
  have HB_wb : Hid (Below w.heap.size w wb) := bstep HB_wa.out hBwb
  have XA_v2 : Hid (Cel wb w.heap.size (.slice p n c) (.slice p2 n2 c2)) := XA_v1.out.up hBwb
  have XB_v2 : Hid (Cel wb (w.heap.size + 1) (.slice p3 n3 c3) (.slice p4 n4 c4)) := XB_v1.out.up hBwb
  clear XA_v1 XB_v1
  clear hBwb xa0 xa1 xaz xb0 xb1 xbz
  clear cg hga
  have cg := great9_any p3 p4 n3 c3 n4 c4 300 (by decide) wb
  by_cases hga : 10 < n3 ∨ 300 < n4
  · rw [decide_eq_true hga] at cg
    obtain ⟨xa0, xa1, _, _⟩ := XA_v2.out
    have xaz := cell_lt xa0
    obtain ⟨xb0, xb1, _, _⟩ := XB_v2.out
    have xbz := cell_lt xb0
    go_wp2_with fail
    refine (cg).mono ?_
    rintro e wc ⟨rfl, hBwc⟩
    have HB_wc : Hid (Below w.heap.size w wc) := bstep HB_wb.out hBwc
    have XA_v3 : Hid (Cel wc w.heap.size (.slice p n c) (.slice p2 n2 c2)) := XA_v2.out.up hBwc
    have XB_v3 : Hid (Cel wc (w.heap.size + 1) (.slice p3 n3 c3) (.slice p4 n4 c4)) := XB_v2.out.up hBwc
    clear XA_v2 XB_v2
    clear hBwc xa0 xa1 xaz xb0 xb1 xbz
    go_wp2
    go_ret
    exact ⟨rfl, HB_wc.out⟩
  rw [decide_eq_false hga] at cg
  obtain ⟨xa0, xa1, _, _⟩ := XA_v2.out
  have xaz := cell_lt xa0
  obtain ⟨xb0, xb1, _, _⟩ := XB_v2.out
  have xbz := cell_lt xb0
  go_wp2_with fail
  refine (cg).mono ?_
  rintro e wc ⟨rfl, hBwc⟩
  have HB_wc : Hid (Below w.heap.size w wc) := bstep HB_wb.out hBwc
  have XA_v3 : Hid (Cel wc w.heap.size (.slice p n c) (.slice p2 n2 c2)) := XA_v2.out.up hBwc
  have XB_v3 : Hid (Cel wc (w.heap.size + 1) (.slice p3 n3 c3) (.slice p4 n4 c4)) := XB_v2.out.up hBwc
  clear XA_v2 XB_v2
  clear hBwc xa0 xa1 xaz xb0 xb1 xbz
  clear cg hga
  obtain ⟨xa0, xa1, _, _⟩ := XA_v3.out
  have xaz := cell_lt xa0
  obtain ⟨xb0, xb1, _, _⟩ := XB_v3.out
  have xbz := cell_lt xb0
  go_wp2_with fail
  refine (f1.out wc HB_wc.out).mono ?_
  rintro e w5 ⟨v5, rfl, ⟨s5, t5, rfl, hs5, ht5⟩, hB5⟩
  obtain ⟨ps5, ns5, cs5, rfl, _⟩ := hs5.nums.lst
  obtain ⟨pt5, nt5, ct5, rfl, _⟩ := ht5.nums.lst
  have HB_w5 : Hid (Below w.heap.size w w5) := bstep HB_wc.out hB5
  have XA_v4 : Hid (Cel w5 w.heap.size (.slice p n c) (.slice p2 n2 c2)) := XA_v3.out.up hB5
  have XB_v4 : Hid (Cel w5 (w.heap.size + 1) (.slice p3 n3 c3) (.slice p4 n4 c4)) := XB_v3.out.up hB5
  clear XA_v3 XB_v3
  have T5_v4 : Hid (Tn D1 V1 (.agg #[.slice ps5 ns5 cs5, .slice pt5 nt5 ct5]) w5) := ⟨_, _, _, _, _, _, rfl, hs5.nums, ht5.nums⟩
  clear hB5 hs5 ht5 xa0 xa1 xaz xb0 xb1 xbz
  obtain ⟨xa0, xa1, _, _⟩ := XA_v4.out
  have xaz := cell_lt xa0
  obtain ⟨xb0, xb1, _, _⟩ := XB_v4.out
  have xbz := cell_lt xb0
  go_wp2_with fail
  generalize hW5 : World.alloc _ _ = W5
  have hC5 : Below w5.heap.size w5 W5 := by rw [← hW5]; exact up_alloc w5 _
  have HB_W5 : Hid (Below w.heap.size w W5) := bstep HB_w5.out hC5
  have XA_v5 : Hid (Cel W5 w.heap.size (.slice p n c) (.slice p2 n2 c2)) := XA_v4.out.up hC5
  have XB_v5 : Hid (Cel W5 (w.heap.size + 1) (.slice p3 n3 c3) (.slice p4 n4 c4)) := XB_v4.out.up hC5
  have T5_v5 : Hid (Tn D1 V1 (.agg #[.slice ps5 ns5 cs5, .slice pt5 nt5 ct5]) W5) := T5_v4.out.up hC5
  clear XA_v4 XB_v4 T5_v4
  have X5_v5 : Hid (Cel W5 w5.heap.size (.slice ps5 ns5 cs5) (.slice pt5 nt5 ct5)) := by show Cel _ _ _ _; unfold Cel; rw [← hW5]; simp [go_sem]
  clear hW5 hC5 xa0 xa1 xaz xb0 xb1 xbz
  refine (f2.out W5 HB_W5.out).mono ?_
  rintro e w6 ⟨v6, rfl, ⟨s6, t6, rfl, hs6, ht6⟩, hB6⟩
  obtain ⟨ps6, ns6, cs6, rfl, _⟩ := hs6.nums.lst
  obtain ⟨pt6, nt6, ct6, rfl, _⟩ := ht6.nums.lst
  have HB_w6 : Hid (Below w.heap.size w w6) := bstep HB_W5.out hB6
  have XA_v6 : Hid (Cel w6 w.heap.size (.slice p n c) (.slice p2 n2 c2)) := XA_v5.out.up hB6
  have XB_v6 : Hid (Cel w6 (w.heap.size + 1) (.slice p3 n3 c3) (.slice p4 n4 c4)) := XB_v5.out.up hB6
  have T5_v6 : Hid (Tn D1 V1 (.agg #[.slice ps5 ns5 cs5, .slice pt5 nt5 ct5]) w6) := T5_v5.out.up hB6
  have X5_v6 : Hid (Cel w6 w5.heap.size (.slice ps5 ns5 cs5) (.slice pt5 nt5 ct5)) := X5_v5.out.up hB6
  clear XA_v5 XB_v5 T5_v5 X5_v5
  have T6_v6 : Hid (Tn D1 V1 (.agg #[.slice ps6 ns6 cs6, .slice pt6 nt6 ct6]) w6) := ⟨_, _, _, _, _, _, rfl, hs6.nums, ht6.nums⟩
  clear hB6 hs6 ht6 
  obtain ⟨xa0, xa1, _, _⟩ := XA_v6.out
  have xaz := cell_lt xa0
  obtain ⟨xb0, xb1, _, _⟩ := XB_v6.out
  have xbz := cell_lt xb0
  obtain ⟨x50, x51, _, _⟩ := X5_v6.out
  have x5z := cell_lt x50
  go_wp2_with fail
  generalize hW6 : World.alloc _ _ = W6
  have hC6 : Below w6.heap.size w6 W6 := by rw [← hW6]; exact up_alloc w6 _
  have HB_W6 : Hid (Below w.heap.size w W6) := bstep HB_w6.out hC6
  have XA_v7 : Hid (Cel W6 w.heap.size (.slice p n c) (.slice p2 n2 c2)) := XA_v6.out.up hC6
  have XB_v7 : Hid (Cel W6 (w.heap.size + 1) (.slice p3 n3 c3) (.slice p4 n4 c4)) := XB_v6.out.up hC6
  have T5_v7 : Hid (Tn D1 V1 (.agg #[.slice ps5 ns5 cs5, .slice pt5 nt5 ct5]) W6) := T5_v6.out.up hC6
  have X5_v7 : Hid (Cel W6 w5.heap.size (.slice ps5 ns5 cs5) (.slice pt5 nt5 ct5)) := X5_v6.out.up hC6
  have T6_v7 : Hid (Tn D1 V1 (.agg #[.slice ps6 ns6 cs6, .slice pt6 nt6 ct6]) W6) := T6_v6.out.up hC6
  clear XA_v6 XB_v6 T5_v6 X5_v6 T6_v6
  have X6_v7 : Hid (Cel W6 w6.heap.size (.slice ps6 ns6 cs6) (.slice pt6 nt6 ct6)) := by show Cel _ _ _ _; unfold Cel; rw [← hW6]; simp [go_sem]
  clear hW6 hC6 xa0 xa1 xaz xb0 xb1 xbz x50 x51 x5z
  refine (f3.out W6 HB_W6.out).mono ?_
  rintro e w7 ⟨v7, rfl, ⟨s7, t7, rfl, hs7, ht7⟩, hB7⟩
  obtain ⟨ps7, ns7, cs7, rfl, _⟩ := hs7.nums.lst
  obtain ⟨pt7, nt7, ct7, rfl, _⟩ := ht7.nums.lst
  have HB_w7 : Hid (Below w.heap.size w w7) := bstep HB_W6.out hB7
  have XA_v8 : Hid (Cel w7 w.heap.size (.slice p n c) (.slice p2 n2 c2)) := XA_v7.out.up hB7
  have XB_v8 : Hid (Cel w7 (w.heap.size + 1) (.slice p3 n3 c3) (.slice p4 n4 c4)) := XB_v7.out.up hB7
  have T5_v8 : Hid (Tn D1 V1 (.agg #[.slice ps5 ns5 cs5, .slice pt5 nt5 ct5]) w7) := T5_v7.out.up hB7
  have X5_v8 : Hid (Cel w7 w5.heap.size (.slice ps5 ns5 cs5) (.slice pt5 nt5 ct5)) := X5_v7.out.up hB7
  have T6_v8 : Hid (Tn D1 V1 (.agg #[.slice ps6 ns6 cs6, .slice pt6 nt6 ct6]) w7) := T6_v7.out.up hB7
  have X6_v8 : Hid (Cel w7 w6.heap.size (.slice ps6 ns6 cs6) (.slice pt6 nt6 ct6)) := X6_v7.out.up hB7
  clear XA_v7 XB_v7 T5_v7 X5_v7 T6_v7 X6_v7
  have T7_v8 : Hid (Tn D2 V2 (.agg #[.slice ps7 ns7 cs7, .slice pt7 nt7 ct7]) w7) := ⟨_, _, _, _, _, _, rfl, hs7.nums, ht7.nums⟩
  clear hB7 hs7 ht7 
  obtain ⟨xa0, xa1, _, _⟩ := XA_v8.out
  have xaz := cell_lt xa0
  obtain ⟨xb0, xb1, _, _⟩ := XB_v8.out
  have xbz := cell_lt xb0
  obtain ⟨x50, x51, _, _⟩ := X5_v8.out
  have x5z := cell_lt x50
  obtain ⟨x60, x61, _, _⟩ := X6_v8.out
  have x6z := cell_lt x60
  go_wp2_with fail
  generalize hW7 : World.alloc _ _ = W7
  have hC7 : Below w7.heap.size w7 W7 := by rw [← hW7]; exact up_alloc w7 _
  have HB_W7 : Hid (Below w.heap.size w W7) := bstep HB_w7.out hC7
  have XA_v9 : Hid (Cel W7 w.heap.size (.slice p n c) (.slice p2 n2 c2)) := XA_v8.out.up hC7
  have XB_v9 : Hid (Cel W7 (w.heap.size + 1) (.slice p3 n3 c3) (.slice p4 n4 c4)) := XB_v8.out.up hC7
  have T5_v9 : Hid (Tn D1 V1 (.agg #[.slice ps5 ns5 cs5, .slice pt5 nt5 ct5]) W7) := T5_v8.out.up hC7
  have X5_v9 : Hid (Cel W7 w5.heap.size (.slice ps5 ns5 cs5) (.slice pt5 nt5 ct5)) := X5_v8.out.up hC7
  have T6_v9 : Hid (Tn D1 V1 (.agg #[.slice ps6 ns6 cs6, .slice pt6 nt6 ct6]) W7) := T6_v8.out.up hC7
  have X6_v9 : Hid (Cel W7 w6.heap.size (.slice ps6 ns6 cs6) (.slice pt6 nt6 ct6)) := X6_v8.out.up hC7
  have T7_v9 : Hid (Tn D2 V2 (.agg #[.slice ps7 ns7 cs7, .slice pt7 nt7 ct7]) W7) := T7_v8.out.up hC7
  clear XA_v8 XB_v8 T5_v8 X5_v8 T6_v8 X6_v8 T7_v8
  have X7_v9 : Hid (Cel W7 w7.heap.size (.slice ps7 ns7 cs7) (.slice pt7 nt7 ct7)) := by show Cel _ _ _ _; unfold Cel; rw [← hW7]; simp [go_sem]
  clear hW7 hC7 xa0 xa1 xaz xb0 xb1 xbz x50 x51 x5z x60 x61 x6z
  refine (f4.out W7 HB_W7.out).mono ?_
  rintro e w8 ⟨v8, rfl, ⟨s8, t8, rfl, hs8, ht8⟩, hB8⟩
  obtain ⟨ps8, ns8, cs8, rfl, _⟩ := hs8.nums.lst
  obtain ⟨pt8, nt8, ct8, rfl, _⟩ := ht8.nums.lst
  have HB_w8 : Hid (Below w.heap.size w w8) := bstep HB_W7.out hB8
  have XA_v10 : Hid (Cel w8 w.heap.size (.slice p n c) (.slice p2 n2 c2)) := XA_v9.out.up hB8
  have XB_v10 : Hid (Cel w8 (w.heap.size + 1) (.slice p3 n3 c3) (.slice p4 n4 c4)) := XB_v9.out.up hB8
  have T5_v10 : Hid (Tn D1 V1 (.agg #[.slice ps5 ns5 cs5, .slice pt5 nt5 ct5]) w8) := T5_v9.out.up hB8
  have X5_v10 : Hid (Cel w8 w5.heap.size (.slice ps5 ns5 cs5) (.slice pt5 nt5 ct5)) := X5_v9.out.up hB8
  have T6_v10 : Hid (Tn D1 V1 (.agg #[.slice ps6 ns6 cs6, .slice pt6 nt6 ct6]) w8) := T6_v9.out.up hB8
  have X6_v10 : Hid (Cel w8 w6.heap.size (.slice ps6 ns6 cs6) (.slice pt6 nt6 ct6)) := X6_v9.out.up hB8
  have T7_v10 : Hid (Tn D2 V2 (.agg #[.slice ps7 ns7 cs7, .slice pt7 nt7 ct7]) w8) := T7_v9.out.up hB8
  have X7_v10 : Hid (Cel w8 w7.heap.size (.slice ps7 ns7 cs7) (.slice pt7 nt7 ct7)) := X7_v9.out.up hB8
  clear XA_v9 XB_v9 T5_v9 X5_v9 T6_v9 X6_v9 T7_v9 X7_v9
  have T8_v10 : Hid (Tn D2 V2 (.agg #[.slice ps8 ns8 cs8, .slice pt8 nt8 ct8]) w8) := ⟨_, _, _, _, _, _, rfl, hs8.nums, ht8.nums⟩
  clear hB8 hs8 ht8 
  obtain ⟨xa0, xa1, _, _⟩ := XA_v10.out
  have xaz := cell_lt xa0
  obtain ⟨xb0, xb1, _, _⟩ := XB_v10.out
  have xbz := cell_lt xb0
  obtain ⟨x50, x51, _, _⟩ := X5_v10.out
  have x5z := cell_lt x50
  obtain ⟨x60, x61, _, _⟩ := X6_v10.out
  have x6z := cell_lt x60
  obtain ⟨x70, x71, _, _⟩ := X7_v10.out
  have x7z := cell_lt x70
  go_wp2_with fail
  generalize hW8 : World.alloc _ _ = W8
  have hC8 : Below w8.heap.size w8 W8 := by rw [← hW8]; exact up_alloc w8 _
  have HB_W8 : Hid (Below w.heap.size w W8) := bstep HB_w8.out hC8
  have XA_v11 : Hid (Cel W8 w.heap.size (.slice p n c) (.slice p2 n2 c2)) := XA_v10.out.up hC8
  have XB_v11 : Hid (Cel W8 (w.heap.size + 1) (.slice p3 n3 c3) (.slice p4 n4 c4)) := XB_v10.out.up hC8
  have T5_v11 : Hid (Tn D1 V1 (.agg #[.slice ps5 ns5 cs5, .slice pt5 nt5 ct5]) W8) := T5_v10.out.up hC8
  have X5_v11 : Hid (Cel W8 w5.heap.size (.slice ps5 ns5 cs5) (.slice pt5 nt5 ct5)) := X5_v10.out.up hC8
  have T6_v11 : Hid (Tn D1 V1 (.agg #[.slice ps6 ns6 cs6, .slice pt6 nt6 ct6]) W8) := T6_v10.out.up hC8
  have X6_v11 : Hid (Cel W8 w6.heap.size (.slice ps6 ns6 cs6) (.slice pt6 nt6 ct6)) := X6_v10.out.up hC8
  have T7_v11 : Hid (Tn D2 V2 (.agg #[.slice ps7 ns7 cs7, .slice pt7 nt7 ct7]) W8) := T7_v10.out.up hC8
  have X7_v11 : Hid (Cel W8 w7.heap.size (.slice ps7 ns7 cs7) (.slice pt7 nt7 ct7)) := X7_v10.out.up hC8
  have T8_v11 : Hid (Tn D2 V2 (.agg #[.slice ps8 ns8 cs8, .slice pt8 nt8 ct8]) W8) := T8_v10.out.up hC8
  clear XA_v10 XB_v10 T5_v10 X5_v10 T6_v10 X6_v10 T7_v10 X7_v10 T8_v10
  have X8_v11 : Hid (Cel W8 w8.heap.size (.slice ps8 ns8 cs8) (.slice pt8 nt8 ct8)) := by show Cel _ _ _ _; unfold Cel; rw [← hW8]; simp [go_sem]
  clear hW8 hC8 xa0 xa1 xaz xb0 xb1 xbz x50 x51 x5z x60 x61 x6z x70 x71 x7z
  have ca := alike_tn T5_v11.out T6_v11.out HF.out.1.1 HF.out.1.2
  rw [decide_eq_true ⟨rfl, rfl⟩] at ca
  refine ca.mono ?_
  rintro e wy ⟨rfl, hBwy⟩
  have HB_wy : Hid (Below w.heap.size w wy) := bstep HB_W8.out hBwy
  have XA_v12 : Hid (Cel wy w.heap.size (.slice p n c) (.slice p2 n2 c2)) := XA_v11.out.up hBwy
  have XB_v12 : Hid (Cel wy (w.heap.size + 1) (.slice p3 n3 c3) (.slice p4 n4 c4)) := XB_v11.out.up hBwy
  have T5_v12 : Hid (Tn D1 V1 (.agg #[.slice ps5 ns5 cs5, .slice pt5 nt5 ct5]) wy) := T5_v11.out.up hBwy
  have X5_v12 : Hid (Cel wy w5.heap.size (.slice ps5 ns5 cs5) (.slice pt5 nt5 ct5)) := X5_v11.out.up hBwy
  have T6_v12 : Hid (Tn D1 V1 (.agg #[.slice ps6 ns6 cs6, .slice pt6 nt6 ct6]) wy) := T6_v11.out.up hBwy
  have X6_v12 : Hid (Cel wy w6.heap.size (.slice ps6 ns6 cs6) (.slice pt6 nt6 ct6)) := X6_v11.out.up hBwy
  have T7_v12 : Hid (Tn D2 V2 (.agg #[.slice ps7 ns7 cs7, .slice pt7 nt7 ct7]) wy) := T7_v11.out.up hBwy
  have X7_v12 : Hid (Cel wy w7.heap.size (.slice ps7 ns7 cs7) (.slice pt7 nt7 ct7)) := X7_v11.out.up hBwy
  have T8_v12 : Hid (Tn D2 V2 (.agg #[.slice ps8 ns8 cs8, .slice pt8 nt8 ct8]) wy) := T8_v11.out.up hBwy
  have X8_v12 : Hid (Cel wy w8.heap.size (.slice ps8 ns8 cs8) (.slice pt8 nt8 ct8)) := X8_v11.out.up hBwy
  clear XA_v11 XB_v11 T5_v11 X5_v11 T6_v11 X6_v11 T7_v11 X7_v11 T8_v11 X8_v11
  clear hBwy ca
  have ca := alike_tn T7_v12.out T8_v12.out HF.out.2.1 HF.out.2.2
  rw [decide_eq_true ⟨rfl, rfl⟩] at ca
  obtain ⟨xa0, xa1, _, _⟩ := XA_v12.out
  have xaz := cell_lt xa0
  obtain ⟨xb0, xb1, _, _⟩ := XB_v12.out
  have xbz := cell_lt xb0
  obtain ⟨x50, x51, _, _⟩ := X5_v12.out
  have x5z := cell_lt x50
  obtain ⟨x60, x61, _, _⟩ := X6_v12.out
  have x6z := cell_lt x60
  obtain ⟨x70, x71, _, _⟩ := X7_v12.out
  have x7z := cell_lt x70
  obtain ⟨x80, x81, _, _⟩ := X8_v12.out
  have x8z := cell_lt x80
  go_wp2_with fail
  refine (ca).mono ?_
  rintro e wz ⟨rfl, hBwz⟩
  have HB_wz : Hid (Below w.heap.size w wz) := bstep HB_wy.out hBwz
  have XA_v13 : Hid (Cel wz w.heap.size (.slice p n c) (.slice p2 n2 c2)) := XA_v12.out.up hBwz
  have XB_v13 : Hid (Cel wz (w.heap.size + 1) (.slice p3 n3 c3) (.slice p4 n4 c4)) := XB_v12.out.up hBwz
  have T5_v13 : Hid (Tn D1 V1 (.agg #[.slice ps5 ns5 cs5, .slice pt5 nt5 ct5]) wz) := T5_v12.out.up hBwz
  have X5_v13 : Hid (Cel wz w5.heap.size (.slice ps5 ns5 cs5) (.slice pt5 nt5 ct5)) := X5_v12.out.up hBwz
  have T6_v13 : Hid (Tn D1 V1 (.agg #[.slice ps6 ns6 cs6, .slice pt6 nt6 ct6]) wz) := T6_v12.out.up hBwz
  have X6_v13 : Hid (Cel wz w6.heap.size (.slice ps6 ns6 cs6) (.slice pt6 nt6 ct6)) := X6_v12.out.up hBwz
  have T7_v13 : Hid (Tn D2 V2 (.agg #[.slice ps7 ns7 cs7, .slice pt7 nt7 ct7]) wz) := T7_v12.out.up hBwz
  have X7_v13 : Hid (Cel wz w7.heap.size (.slice ps7 ns7 cs7) (.slice pt7 nt7 ct7)) := X7_v12.out.up hBwz
  have T8_v13 : Hid (Tn D2 V2 (.agg #[.slice ps8 ns8 cs8, .slice pt8 nt8 ct8]) wz) := T8_v12.out.up hBwz
  have X8_v13 : Hid (Cel wz w8.heap.size (.slice ps8 ns8 cs8) (.slice pt8 nt8 ct8)) := X8_v12.out.up hBwz
  clear XA_v12 XB_v12 T5_v12 X5_v12 T6_v12 X6_v12 T7_v12 X7_v12 T8_v12 X8_v12
  clear hBwz xa0 xa1 xaz xb0 xb1 xbz x50 x51 x5z x60 x61 x6z x70 x71 x7z x80 x81 x8z
  go_wp2
  go_ret
  exact ⟨rfl, HB_wz.out⟩
end Go.Proofs.Ytlehlikgehbnfaa.Wd
