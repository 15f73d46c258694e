/- The reference's Unbent: what it hands back. -/
import Derived.Test.YtlehlikgehbnfaaActR
import Derived.Test.YtlehlikgehbnfaaActC
import Derived.Test.YtlehlikgehbnfaaFlow
import Derived.Test.YtlehlikgehbnfaaTenP
namespace Go.Proofs.Ytlehlikgehbnfaa.Wd
open Go.RowKit Fx
set_option linter.unusedVariables false
set_option linter.unusedSimpArgs false
set_option maxHeartbeats 2000000 in
theorem runbent_no (k : Int) (p p2 p3 p4 : Option Addr) (n c n2 c2 n3 c3 n4 c4 : Nat) (d x d' y : List Int) (hd : RI d) (hx : RI x) (hd' : RI d') (hy : RI y) (w : World) (h1 : Nums .i64 w (.slice p n c) d) (h2 : Nums .i64 w (.slice p2 n2 c2) x) (h3 : Nums .i64 w (.slice p3 n3 c3) d') (h4 : Nums .i64 w (.slice p4 n4 c4) y) (hno : ¬ (((1 ≤ k ∧ k ≤ 5) ∧ isP d x ∧ isP d' y) ∧ d = d')) :
    Calls Try.prog 19 #[.int .i64 k, .agg #[.slice p n c, .slice p2 n2 c2], .agg #[.slice p3 n3 c3, .slice p4 n4 c4]] w fun e w' => ∃ v', e = .returned (.tuple #[v', .int .i64 (unbE k d x d' y)]) ∧ TRes w' w.heap.size v' (unbD k d x d' y) (unbV k d x d' y) ∧ Below w.heap.size w w' := by
  have cA : ∀ W, Below w.heap.size w W → Calls Try.prog 31 #[.agg #[.slice p n c, .slice p2 n2 c2]] W fun e w' => e = .returned (.bool (decide (isP d x))) ∧ Below W.heap.size W w' := fun W hW => ris_any _ _ d x hd W (h1.up hW) (h2.up hW)
  have cB : ∀ W, Below w.heap.size w W → Calls Try.prog 31 #[.agg #[.slice p3 n3 c3, .slice p4 n4 c4]] W fun e w' => e = .returned (.bool (decide (isP d' y))) ∧ Below W.heap.size W w' := fun W hW => ris_any _ _ d' y hd' W (h3.up hW) (h4.up hW)
  by_cases hk : 1 ≤ k ∧ k ≤ 5
  · have hk1 := hk.1
    have hk2 := hk.2
    by_cases hp : isP d x
    · rw [decide_eq_true hp] at cA
      by_cases hp' : isP d' y
      · rw [decide_eq_true hp'] at cB
        have hP : isP d x ∧ isP d' y := ⟨hp, hp'⟩
        have hne : ¬ d = d' := fun h => hno ⟨⟨hk, hp, hp'⟩, h⟩
        have cQ : ∀ W, Below w.heap.size w W → Calls Try.prog 26 #[.slice p n c, .slice p3 n3 c3] W fun e w' => e = .returned (.bool (decide (d = d'))) ∧ ∃ n, w' = W.drewN n := fun W hW => rsame_any _ _ d d' (by have := hP.1.1.1; rw [ntl_len] at this; omega) W (h1.up hW) (h3.up hW)
        rw [decide_eq_false hne] at cQ
        obtain ⟨q1, q2, q3⟩ := unb_off (k := k) ⟨hk, hp, hp'⟩ hne
        rw [q1, q2, q3]
        clear q1 q2 q3 hP hne hno hp hp' hk h1 h2 h3 h4 hd hx hd' hy
        go_enter Try.func19, Try.ntmps19
        go_wp2_with fail
        generalize hW0 : World.alloc _ _ = W0
        have B0 : Below w.heap.size w W0 := by rw [← hW0]; go_grown
        have XA : Hid (Cel W0 w.heap.size (.slice p n c) (.slice p2 n2 c2)) := by show Cel _ _ _ _; unfold Cel; rw [← hW0]; simp [go_sem]
        have XB : Hid (Cel W0 (w.heap.size + 1) (.slice p3 n3 c3) (.slice p4 n4 c4)) := by show Cel _ _ _ _; unfold Cel; rw [← hW0]; simp [go_sem]
        have XR : Hid (Cel W0 (w.heap.size + 2) (.slice none 0 0) (.slice none 0 0)) := by show Cel _ _ _ _; unfold Cel; rw [← hW0]; simp [go_sem]
        have HB0 : Hid (Below w.heap.size w W0) := B0
        clear hW0 B0
        refine (cA W0 HB0.out).mono ?_
        rintro e w1 ⟨rfl, hB1⟩
        have HB1 : Hid (Below w.heap.size w w1 ∧ Below W0.heap.size W0 w1) := ⟨bstep HB0.out hB1, hB1⟩
        clear hB1 cA
        obtain ⟨b0, b1, _, _⟩ := XB.out.up HB1.out.2
        have z1 := cell_lt b0
        go_wp2_with fail
        refine (cB w1 HB1.out.1).mono ?_
        rintro e w2 ⟨rfl, hB2⟩
        have HB2 : Hid (Below w.heap.size w w2 ∧ Below W0.heap.size W0 w2) := ⟨bstep HB1.out.1 hB2, bstep HB1.out.2 hB2⟩
        clear hB2 cB b0 b1 z1
        obtain ⟨a0, a1, _, _⟩ := XA.out.up HB2.out.2
        obtain ⟨b0, b1, _, _⟩ := XB.out.up HB2.out.2
        have z0 := cell_lt a0
        have z1 := cell_lt b0
        go_wp2_with fail
        refine (cQ w2 HB2.out.1).mono ?_
        rintro e w5 ⟨rfl, mq, rfl⟩
        have HBz : Hid (Below w.heap.size w (w2.drewN mq) ∧ Below W0.heap.size W0 (w2.drewN mq)) := ⟨bstep HB2.out.1 (bdrew _ _), bstep HB2.out.2 (bdrew _ _)⟩
        obtain ⟨wz, hwz⟩ : ∃ wz : World, w2.drewN mq = wz := ⟨_, rfl⟩
        rw [hwz] at HBz ⊢
        clear cQ a0 a1 z0 b0 b1 z1 hwz
        have xr := (XR.out.up (HBz.out).2)
        have BF := below_cell ((HBz.out).1) (w.heap.size + 2) (by omega) (.slice none 0 0) (.slice none 0 0)
        have cf := xr.set (.slice none 0 0) (.slice none 0 0)
        obtain ⟨r0, r1, r2, r3⟩ := xr
        obtain ⟨y0, y1, _, _⟩ := cf
        go_wp2
        exact bodyPost_ret (v := .tuple #[.agg #[.slice none 0 0, .slice none 0 0], .int .i64 4]) (by simp [results, Try.results19, go_sem, y0, y1]) rfl ⟨_, rfl, TRes.none _ _, BF⟩
      · rw [decide_eq_false hp'] at cB
        obtain ⟨q1, q2, q3⟩ := unb_no (k := k) (d := d) (x := x) (d' := d') (y := y) fun h => hp' h.2.2
        rw [q1, q2, q3]
        clear q1 q2 q3 hno hp hp' hk h1 h2 h3 h4 hd hx hd' hy
        go_enter Try.func19, Try.ntmps19
        go_wp2_with fail
        generalize hW0 : World.alloc _ _ = W0
        have B0 : Below w.heap.size w W0 := by rw [← hW0]; go_grown
        have XA : Hid (Cel W0 w.heap.size (.slice p n c) (.slice p2 n2 c2)) := by show Cel _ _ _ _; unfold Cel; rw [← hW0]; simp [go_sem]
        have XB : Hid (Cel W0 (w.heap.size + 1) (.slice p3 n3 c3) (.slice p4 n4 c4)) := by show Cel _ _ _ _; unfold Cel; rw [← hW0]; simp [go_sem]
        have XR : Hid (Cel W0 (w.heap.size + 2) (.slice none 0 0) (.slice none 0 0)) := by show Cel _ _ _ _; unfold Cel; rw [← hW0]; simp [go_sem]
        have HB0 : Hid (Below w.heap.size w W0) := B0
        clear hW0 B0
        refine (cA W0 HB0.out).mono ?_
        rintro e w1 ⟨rfl, hB1⟩
        have HB1 : Hid (Below w.heap.size w w1 ∧ Below W0.heap.size W0 w1) := ⟨bstep HB0.out hB1, hB1⟩
        clear hB1 cA
        obtain ⟨b0, b1, _, _⟩ := XB.out.up HB1.out.2
        have z1 := cell_lt b0
        go_wp2_with fail
        refine (cB w1 HB1.out.1).mono ?_
        rintro e w2 ⟨rfl, hB2⟩
        have HB2 : Hid (Below w.heap.size w w2 ∧ Below W0.heap.size W0 w2) := ⟨bstep HB1.out.1 hB2, bstep HB1.out.2 hB2⟩
        clear hB2 cB b0 b1 z1
        have xr := (XR.out.up (HB2.out).2)
        have BF := below_cell ((HB2.out).1) (w.heap.size + 2) (by omega) (.slice none 0 0) (.slice none 0 0)
        have cf := xr.set (.slice none 0 0) (.slice none 0 0)
        obtain ⟨r0, r1, r2, r3⟩ := xr
        obtain ⟨y0, y1, _, _⟩ := cf
        go_wp2
        exact bodyPost_ret (v := .tuple #[.agg #[.slice none 0 0, .slice none 0 0], .int .i64 1]) (by simp [results, Try.results19, go_sem, y0, y1]) rfl ⟨_, rfl, TRes.none _ _, BF⟩
    · rw [decide_eq_false hp] at cA
      obtain ⟨q1, q2, q3⟩ := unb_no (k := k) (d := d) (x := x) (d' := d') (y := y) fun h => hp h.2.1
      rw [q1, q2, q3]
      clear q1 q2 q3 hno hp hk h1 h2 h3 h4 hd hx hd' hy cB
      go_enter Try.func19, Try.ntmps19
      go_wp2_with fail
      generalize hW0 : World.alloc _ _ = W0
      have B0 : Below w.heap.size w W0 := by rw [← hW0]; go_grown
      have XA : Hid (Cel W0 w.heap.size (.slice p n c) (.slice p2 n2 c2)) := by show Cel _ _ _ _; unfold Cel; rw [← hW0]; simp [go_sem]
      have XB : Hid (Cel W0 (w.heap.size + 1) (.slice p3 n3 c3) (.slice p4 n4 c4)) := by show Cel _ _ _ _; unfold Cel; rw [← hW0]; simp [go_sem]
      have XR : Hid (Cel W0 (w.heap.size + 2) (.slice none 0 0) (.slice none 0 0)) := by show Cel _ _ _ _; unfold Cel; rw [← hW0]; simp [go_sem]
      have HB0 : Hid (Below w.heap.size w W0) := B0
      clear hW0 B0
      refine (cA W0 HB0.out).mono ?_
      rintro e w1 ⟨rfl, hB1⟩
      have HB1 : Hid (Below w.heap.size w w1 ∧ Below W0.heap.size W0 w1) := ⟨bstep HB0.out hB1, hB1⟩
      clear hB1 cA
      have xr := (XR.out.up (HB1.out).2)
      have BF := below_cell ((HB1.out).1) (w.heap.size + 2) (by omega) (.slice none 0 0) (.slice none 0 0)
      have cf := xr.set (.slice none 0 0) (.slice none 0 0)
      obtain ⟨r0, r1, r2, r3⟩ := xr
      obtain ⟨y0, y1, _, _⟩ := cf
      go_wp2
      exact bodyPost_ret (v := .tuple #[.agg #[.slice none 0 0, .slice none 0 0], .int .i64 1]) (by simp [results, Try.results19, go_sem, y0, y1]) rfl ⟨_, rfl, TRes.none _ _, BF⟩
  · obtain ⟨q1, q2, q3⟩ := unb_no (k := k) (d := d) (x := x) (d' := d') (y := y) fun h => hk h.1
    rw [q1, q2, q3]
    clear q1 q2 q3 hno h1 h2 h3 h4 hd hx hd' hy cA cB
    by_cases hk1 : k < 1
    · go_enter Try.func19, Try.ntmps19
      go_wp2
      exact bodyPost_ret (v := .tuple #[.agg #[.slice none 0 0, .slice none 0 0], .int .i64 1]) (by simp [results, Try.results19, go_sem]) rfl ⟨_, rfl, TRes.none _ _, by go_grown⟩
    · have hk2 : 5 < k := by omega
      have hk3 : 1 ≤ k := by omega
      go_enter Try.func19, Try.ntmps19
      go_wp2
      exact bodyPost_ret (v := .tuple #[.agg #[.slice none 0 0, .slice none 0 0], .int .i64 1]) (by simp [results, Try.results19, go_sem]) rfl ⟨_, rfl, TRes.none _ _, by go_grown⟩
set_option maxHeartbeats 4000000 in
theorem runbent_yes (k : Int) (p p2 p3 p4 : Option Addr) (n c n2 c2 n3 c3 n4 c4 : Nat) (d x d' y : List Int) (hd : RI d) (hx : RI x) (hd' : RI d') (hy : RI y) (w : World) (h1 : Nums .i64 w (.slice p n c) d) (h2 : Nums .i64 w (.slice p2 n2 c2) x) (h3 : Nums .i64 w (.slice p3 n3 c3) d') (h4 : Nums .i64 w (.slice p4 n4 c4) y) (hall : ((1 ≤ k ∧ k ≤ 5) ∧ isP d x ∧ isP d' y) ∧ d = d') :
    Calls Try.prog 19 #[.int .i64 k, .agg #[.slice p n c, .slice p2 n2 c2], .agg #[.slice p3 n3 c3, .slice p4 n4 c4]] w fun e w' => ∃ v', e = .returned (.tuple #[v', .int .i64 (unbE k d x d' y)]) ∧ TRes w' w.heap.size v' (unbD k d x d' y) (unbV k d x d' y) ∧ Below w.heap.size w w' := by
  have cA : ∀ W, Below w.heap.size w W → Calls Try.prog 31 #[.agg #[.slice p n c, .slice p2 n2 c2]] W fun e w' => e = .returned (.bool (decide (isP d x))) ∧ Below W.heap.size W w' := fun W hW => ris_any _ _ d x hd W (h1.up hW) (h2.up hW)
  have cB : ∀ W, Below w.heap.size w W → Calls Try.prog 31 #[.agg #[.slice p3 n3 c3, .slice p4 n4 c4]] W fun e w' => e = .returned (.bool (decide (isP d' y))) ∧ Below W.heap.size W w' := fun W hW => ris_any _ _ d' y hd' W (h3.up hW) (h4.up hW)
  have hk1 := hall.1.1.1
  have hk2 := hall.1.1.2
  rw [decide_eq_true hall.1.2.1] at cA
  rw [decide_eq_true hall.1.2.2] at cB
  have hP : isP d x ∧ isP d' y := hall.1.2
  have cQ : ∀ W, Below w.heap.size w W → Calls Try.prog 26 #[.slice p n c, .slice p3 n3 c3] W fun e w' => e = .returned (.bool (decide (d = d'))) ∧ ∃ n, w' = W.drewN n := fun W hW => rsame_any _ _ d d' (by have := hP.1.1.1; rw [ntl_len] at this; omega) W (h1.up hW) (h3.up hW)
  rw [decide_eq_true hall.2] at cQ
  obtain ⟨q1, q2, q3⟩ := unb_yes hall.1 hall.2
  rw [q1, q2, q3]
  have cN : ∀ W, Below w.heap.size w W → Calls Try.prog 32 #[.slice p n c, .int .i64 0] W fun e w' => ∃ v', e = .returned v' ∧ TNew w' W.heap.size v' d (prodN (ntl d)) (List.replicate (prodN (ntl d)) 0) ∧ Below W.heap.size W w' := fun W hW => rnew_any _ d hd hP.1.1 0 W (h1.up hW)
  obtain ⟨V, eV⟩ : ∃ V, ((List.range x.length).map fun i => Fx.mulI (y.getD i 0) (Fx.slopeI k (x.getD i 0))) = V := ⟨_, rfl⟩
  rw [eV, ← hall.2]
  obtain ⟨_, _, _, e4, HX⟩ := h2.lst
  cases e4
  obtain ⟨_, _, _, e4, HY⟩ := h4.lst
  cases e4
  have hxy : x.length = y.length := by rw [hall.1.2.1.2, hall.1.2.2.2, hall.2]
  have hlen : x.length ≤ 4096 := by rw [hall.1.2.1.2]; exact hall.1.2.1.1.2.2
  rw [← hP.1.2] at cN
  rw [HX.out.1] at hlen cN
  obtain rfl : n2 = n4 := by rw [← HX.out.1, ← HY.out.1, hxy]
  obtain ⟨N, eN⟩ : ∃ N, N = n2 := ⟨_, rfl⟩
  obtain rfl := eN
  have hlen' : (N : Int) ≤ 4096 := by omega
  have HL : Hid (V.length = N) := by show _ = _; rw [← eV, List.length_map, List.length_range]; exact HX.out.1
  have HV : Hid (((List.range x.length).map fun i => Fx.mulI (y.getD i 0) (Fx.slopeI k (x.getD i 0))) = V ∧ RI x ∧ RI y ∧ x.length = N ∧ y.length = N ∧ 1 ≤ k ∧ k ≤ 5) := ⟨eV, hx, hy, HX.out.1, HY.out.1, hall.1.1⟩
  haveI : Nonempty World := ⟨w⟩
  clear q1 q2 q3 eV h1 h2 h3 h4 hd hx hd' hy hall hP hxy
  go_enter Try.func19, Try.ntmps19
  go_wp2_with fail
  generalize hW0 : World.alloc _ _ = W0
  have B0 : Below w.heap.size w W0 := by rw [← hW0]; go_grown
  have XA : Hid (Cel W0 w.heap.size (.slice p n c) (.slice p2 N c2)) := by show Cel _ _ _ _; unfold Cel; rw [← hW0]; simp [go_sem]
  have XB : Hid (Cel W0 (w.heap.size + 1) (.slice p3 n3 c3) (.slice p4 N c4)) := by show Cel _ _ _ _; unfold Cel; rw [← hW0]; simp [go_sem]
  have XR : Hid (Cel W0 (w.heap.size + 2) (.slice none 0 0) (.slice none 0 0)) := by show Cel _ _ _ _; unfold Cel; rw [← hW0]; simp [go_sem]
  have HB0 : Hid (Below w.heap.size w W0) := B0
  clear hW0 B0
  refine (cA W0 HB0.out).mono ?_
  rintro e w1 ⟨rfl, hB1⟩
  have HB1 : Hid (Below w.heap.size w w1 ∧ Below W0.heap.size W0 w1) := ⟨bstep HB0.out hB1, hB1⟩
  clear hB1 cA
  obtain ⟨b0, b1, _, _⟩ := XB.out.up HB1.out.2
  have z1 := cell_lt b0
  go_wp2_with fail
  refine (cB w1 HB1.out.1).mono ?_
  rintro e w2 ⟨rfl, hB2⟩
  have HB2 : Hid (Below w.heap.size w w2 ∧ Below W0.heap.size W0 w2) := ⟨bstep HB1.out.1 hB2, bstep HB1.out.2 hB2⟩
  clear hB2 cB b0 b1 z1
  obtain ⟨a0, a1, _, _⟩ := XA.out.up HB2.out.2
  obtain ⟨b0, b1, _, _⟩ := XB.out.up HB2.out.2
  have z0 := cell_lt a0
  have z1 := cell_lt b0
  go_wp2_with fail
  refine (cQ w2 HB2.out.1).mono ?_
  rintro e w5 ⟨rfl, mq, rfl⟩
  have HBz : Hid (Below w.heap.size w (w2.drewN mq) ∧ Below W0.heap.size W0 (w2.drewN mq)) := ⟨bstep HB2.out.1 (bdrew _ _), bstep HB2.out.2 (bdrew _ _)⟩
  obtain ⟨wz, hwz⟩ : ∃ wz : World, w2.drewN mq = wz := ⟨_, rfl⟩
  rw [hwz] at HBz ⊢
  clear cQ a0 a1 z0 b0 b1 z1 hwz
  obtain ⟨a0, a1, _, _⟩ := XA.out.up HBz.out.2
  go_wp2_with fail
  refine (cN wz HBz.out.1).mono ?_
  rintro e w4 ⟨v4, rfl, ⟨s4, g, cg, rfl, hs4, ht4, hOff, hgB⟩, hB4⟩
  obtain ⟨p8, n8, c8, rfl, _⟩ := hs4.nums.lst
  have HOff : Hid (Off g (.slice p8 n8 c8)) := hOff
  go_wp2_with fail
  generalize hW5 : World.alloc _ _ = W5
  obtain ⟨b5, hb5⟩ : ∃ b5, w4.heap.size = b5 := ⟨_, rfl⟩
  have B5 : Below w4.heap.size w4 W5 := by rw [← hW5]; exact up_alloc w4 _
  have XT : Hid (Cel W5 b5 (.slice p8 n8 c8) (.slice (some ⟨g, 0, none⟩) N cg)) := by
    show Cel _ _ _ _
    unfold Cel
    rw [← hW5, ← hb5]
    simp [go_sem]
  have HB5 : Hid (Below w.heap.size w W5 ∧ Below W0.heap.size W0 W5) := ⟨bstep HBz.out.1 (bstep hB4 B5), bstep HBz.out.2 (bstep hB4 B5)⟩
  have HD5 : Hid (OwnK .i64 3 W5 wz.heap.size (.slice p8 n8 c8) d) := hs4.up B5
  have HO5 : Hid (OwnK .i64 23 W5 g (.slice (some ⟨g, 0, none⟩) N cg) (rowF V 0)) := by
    show OwnK _ _ _ _ _ _
    rw [rowF_zero, HL.out]
    exact (ht4.up B5).base
  have hz := cell_lt XR.out.1
  have hgl := ht4.size
  have Hg : Hid (W0.heap.size ≤ g ∧ w.heap.size + 2 < W0.heap.size ∧ g < b5 ∧ wz.heap.size ≤ g ∧ W0.heap.size ≤ wz.heap.size) := ⟨Nat.le_trans HBz.out.2.size hgB, hz, by omega, hgB, HBz.out.2.size⟩
  rw [hb5]
  clear a0 a1 hW5 B5 hb5 hz hgl hs4 ht4 hB4 hgB hOff cN
  go_loopg [9] N (fun gg i wr => ∃ (q : Nat), q ≤ N ∧ gg = N - q ∧ i = .int .i64 (q : Int) ∧ Hid (OwnK .i64 23 wr g (.slice (some ⟨g, 0, none⟩) N cg) (rowF V q)) ∧ Hid (Below w.heap.size w wr ∧ Stay g W5 wr))
  case atStart => exact ⟨0, by omega, by omega, by first | rfl | simp, HO5, HB5.out.1, Stay.refl _ _⟩
  case round =>
    obtain ⟨j, hj, hgg, rfl, HRk, hBS⟩ := hrel
    obtain ⟨R1, hR1⟩ : ∃ R1 : World, R1 = wr := ⟨_, rfl⟩
    subst hR1
    by_cases hjn : j < N
    · have hj' : (j : Int) < (N : Int) := by omega
      have hnb : b5 ≠ g := by have := Hg.out; omega
      have hne0 : w.heap.size ≠ g := by have := Hg.out; omega
      obtain ⟨t0, t1, _, _⟩ := XT.out.stay hBS.out.2 hnb
      obtain ⟨a0, a1, _, _⟩ := (XA.out.up HB5.out.2).stay hBS.out.2 hne0
      have hne1 : w.heap.size + 1 ≠ g := by have := Hg.out; omega
      obtain ⟨b0, b1, _, _⟩ := (XB.out.up HB5.out.2).stay hBS.out.2 hne1
      obtain ⟨q, o, rfl, hc0⟩ := HX.out.2 j hjn
      have hc1 := cell_low hc0 hBS.out.1
      obtain ⟨q', o', rfl, hd0⟩ := HY.out.2 j hjn
      have hd1 := cell_low hd0 hBS.out.1
      have rx := HV.out.2.1.at j (by rw [HV.out.2.2.2.1]; exact hjn)
      have ry := HV.out.2.2.1.at j (by rw [HV.out.2.2.2.2.1]; exact hjn)
      obtain ⟨X, eX⟩ : ∃ X, x.getD j 0 = X := ⟨_, rfl⟩
      obtain ⟨Y, eY⟩ : ∃ Y, y.getD j 0 = Y := ⟨_, rfl⟩
      rw [eX] at hc1 rx
      rw [eY] at hd1 ry
      obtain ⟨SL, eS⟩ : ∃ SL, Fx.slopeI k X = SL := ⟨_, rfl⟩
      obtain ⟨Z, eZ⟩ : ∃ Z, Fx.mulI Y SL = Z := ⟨_, rfl⟩
      have HZ : Hid (V.getD j 0 = Z) := by
        show _ = _
        rw [← HV.out.1, getD_map_range _ _ _ _ (by rw [HV.out.2.2.2.1]; exact hjn), eX, eY, eS, eZ]
      have rs : InR SL := by rw [← eS]; exact slope_rng _ _
      have cs : ∀ W, Calls Try.prog 16 #[.int .i64 k, .int .i64 X] W fun e w' => e = .returned (.int .i64 SL) ∧ Below W.heap.size W w' := fun W => Rf.rslope_any k X HV.out.2.2.2.2.2 rx SL eS W
      have cm : ∀ W, Calls Try.prog 20 #[.int .i64 Y, .int .i64 SL] W fun e w' => e = .returned (.int .i64 Z) ∧ Below W.heap.size W w' := fun W => Rf.mul_ref Y SL ry rs Z eZ W
      have z5 := cell_lt b0
      have z6 := cell_lt hd1
      clear eX eY eS eZ hc0 hd0 rx ry rs hne1
      have z0 := cell_lt a0
      have z1 := cell_lt t0
      have z2 := cell_lt hc1
      have z3 := HRk.out.size
      clear hnb hne0
      go_wp2_with fail
      refine flow 17 62 (by kernel_rfl) rfl rfl (by kernel_rfl) ?_
      apply Exists.intro
      refine ⟨?_, ?_⟩
      · intro F hF
        have hFc := hF.cell
        have hFf := hF.frozen
        simp only [List.take_succ_cons, List.take_zero, List.eraseIdx_cons_succ, List.eraseIdx_cons_zero]
        repeat (go_big_quiet_step (first | (go_at_call 16; with_reducible exact hF.call (cs _)) | (go_at_call 20; with_reducible exact hF.call (cm _))))
        refine wpQuiet_nil ?_
        exact rfl
      · intro W1 hb1
        simp only [List.drop_succ_cons, List.drop_zero]
        have HR2 := HRk.out.up hb1
        obtain ⟨hown, hfz⟩ := HR2.cell (by rw [rowF_len]; exact HL.out) j hjn
        have H5 : Hid (OwnK .i64 23 (W1.setCell ⟨g, j, none⟩ (.int .i64 Z)) g (.slice (some ⟨g, 0, none⟩) N cg) (rowF V (j + 1))) := by
          have := HR2.store (by rw [rowF_len]; exact HL.out) j Z
          have e2 := rowF_set V j (by rw [HL.out]; exact hjn)
          rw [HZ.out] at e2
          rw [e2] at this
          exact this
        have hgw : w.heap.size ≤ g := by have := Hg.out; omega
        have H6 : Hid (Below w.heap.size w (W1.setCell ⟨g, j, none⟩ (.int .i64 Z)) ∧ Stay g W5 (W1.setCell ⟨g, j, none⟩ (.int .i64 Z))) := ⟨(bstep hBS.out.1 hb1).setCell (p := ⟨g, j, none⟩) hgw _, (hBS.out.2.up hb1).set _ _⟩
        clear HR2 hb1 z0 z1 z2 z3 a0 a1 t0 t1 hgw cs cm b0 b1 z5 z6
        go_wp2
        go_roundg (N - (j + 1))
        case measure => omega
        case rel => exact ⟨j + 1, by omega, rfl, by first | rfl | simp, H5, H6⟩
    · obtain rfl : j = N := by omega
      have hfin := HRk.out
      rw [← HL.out, rowF_full, HL.out] at hfin
      have HXR : Hid (Cel W5 (w.heap.size + 2) (.slice none 0 0) (.slice none 0 0)) := XR.out.up HB5.out.2
      have hnb : b5 ≠ g := by have := Hg.out; omega
      obtain ⟨t0, t1, _, _⟩ := XT.out.stay hBS.out.2 hnb
      have hne1 : w.heap.size + 2 ≠ g := by have := Hg.out; omega
      have hfd := HD5.out.stay hBS.out.2 (fun ad n1 c1 e1 => HOff.out ad n1 c1 e1)
      have HF : Hid (TRes (set2 R1 (w.heap.size + 2) (.slice p8 n8 c8) (.slice (some ⟨g, 0, none⟩) j cg)) w.heap.size (.agg #[.slice p8 n8 c8, .slice (some ⟨g, 0, none⟩) j cg]) d V ∧ Below w.heap.size w (set2 R1 (w.heap.size + 2) (.slice p8 n8 c8) (.slice (some ⟨g, 0, none⟩) j cg))) :=
        ⟨(TRes.set (hfd.low Hg.out.2.2.2.2) (hfin.low Hg.out.1) Hg.out.2.1).low HB0.out.size, below_cell hBS.out.1 _ (by omega) _ _⟩
      have xr := HXR.out.stay hBS.out.2 hne1
      have cf := xr.set (.slice p8 n8 c8) (.slice (some ⟨g, 0, none⟩) j cg)
      obtain ⟨r0, r1, r2, r3⟩ := xr
      obtain ⟨y0, y1, _, _⟩ := cf
      clear hfin hfd hne1 hnb
      go_wp2
      exact bodyPost_ret (v := .tuple #[.agg #[.slice p8 n8 c8, .slice (some ⟨g, 0, none⟩) j cg], .int .i64 0]) (by simp [results, Try.results19, go_sem, y0, y1]) rfl ⟨_, rfl, HF.out⟩
theorem runbent_any (k : Int) (p p2 p3 p4 : Option Addr) (n c n2 c2 n3 c3 n4 c4 : Nat) (d x d' y : List Int) (hd : RI d) (hx : RI x) (hd' : RI d') (hy : RI y) (w : World) (h1 : Nums .i64 w (.slice p n c) d) (h2 : Nums .i64 w (.slice p2 n2 c2) x) (h3 : Nums .i64 w (.slice p3 n3 c3) d') (h4 : Nums .i64 w (.slice p4 n4 c4) y) :
    Calls Try.prog 19 #[.int .i64 k, .agg #[.slice p n c, .slice p2 n2 c2], .agg #[.slice p3 n3 c3, .slice p4 n4 c4]] w fun e w' => ∃ v', e = .returned (.tuple #[v', .int .i64 (unbE k d x d' y)]) ∧ TRes w' w.heap.size v' (unbD k d x d' y) (unbV k d x d' y) ∧ Below w.heap.size w w' := by
  by_cases h : ((1 ≤ k ∧ k ≤ 5) ∧ isP d x ∧ isP d' y) ∧ d = d'
  · exact runbent_yes k p p2 p3 p4 n c n2 c2 n3 c3 n4 c4 d x d' y hd hx hd' hy w h1 h2 h3 h4 h
  · exact runbent_no k p p2 p3 p4 n c n2 c2 n3 c3 n4 c4 d x d' y hd hx hd' hy w h1 h2 h3 h4 h
end Go.Proofs.Ytlehlikgehbnfaa.Wd
