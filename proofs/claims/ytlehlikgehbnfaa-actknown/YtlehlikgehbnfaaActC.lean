/- act.Back: what it hands back. -/
import Derived.Test.YtlehlikgehbnfaaActA
import Derived.Test.YtlehlikgehbnfaaTenP
import Derived.Test.YtlehlikgehbnfaaActB
import Derived.Test.YtlehlikgehbnfaaFlow
namespace Go.Proofs.Ytlehlikgehbnfaa.Wd
open Go.RowKit Fx
set_option linter.unusedVariables false
set_option linter.unusedSimpArgs false
def unbE (k : Int) (d x d' y : List Int) : Int := if (1 ≤ k ∧ k ≤ 5) ∧ isP d x ∧ isP d' y then if d = d' then 0 else 4 else 1
def unbD (k : Int) (d x d' y : List Int) : List Int := if ((1 ≤ k ∧ k ≤ 5) ∧ isP d x ∧ isP d' y) ∧ d = d' then d' else []
def unbV (k : Int) (d x d' y : List Int) : List Int := if ((1 ≤ k ∧ k ≤ 5) ∧ isP d x ∧ isP d' y) ∧ d = d' then (List.range x.length).map fun i => Fx.mulI (y.getD i 0) (Fx.slopeI k (x.getD i 0)) else []
theorem unb_no {k : Int} {d x d' y : List Int} (h : ¬ ((1 ≤ k ∧ k ≤ 5) ∧ isP d x ∧ isP d' y)) : unbE k d x d' y = 1 ∧ unbD k d x d' y = [] ∧ unbV k d x d' y = [] := ⟨if_neg h, if_neg fun h' => h h'.1, if_neg fun h' => h h'.1⟩
theorem unb_off {k : Int} {d x d' y : List Int} (h : (1 ≤ k ∧ k ≤ 5) ∧ isP d x ∧ isP d' y) (hd : ¬ d = d') : unbE k d x d' y = 4 ∧ unbD k d x d' y = [] ∧ unbV k d x d' y = [] := ⟨(if_pos h).trans (if_neg hd), if_neg fun h' => hd h'.2, if_neg fun h' => hd h'.2⟩
theorem unb_yes {k : Int} {d x d' y : List Int} (h : (1 ≤ k ∧ k ≤ 5) ∧ isP d x ∧ isP d' y) (hd : d = d') : unbE k d x d' y = 0 ∧ unbD k d x d' y = d' ∧ unbV k d x d' y = (List.range x.length).map fun i => Fx.mulI (y.getD i 0) (Fx.slopeI k (x.getD i 0)) := ⟨(if_pos h).trans (if_pos hd), if_pos ⟨h, hd⟩, if_pos ⟨h, hd⟩⟩
set_option maxHeartbeats 2000000 in
theorem aback_no (k : Int) (p p2 p3 p4 : Option Addr) (n c n2 c2 n3 c3 n4 c4 : Nat) (d x d' y : List Int) (hd : RI d) (hx : RI x) (hd' : RI d') (hy : RI y) (w : World) (h1 : Nums .i64 w (.slice p n c) d) (h2 : Nums .i64 w (.slice p2 n2 c2) x) (h3 : Nums .i64 w (.slice p3 n3 c3) d') (h4 : Nums .i64 w (.slice p4 n4 c4) y) (hno : ¬ (((1 ≤ k ∧ k ≤ 5) ∧ isP d x ∧ isP d' y) ∧ d = d')) :
    Calls Try.prog 12 #[.int .i64 k, .agg #[.slice p n c, .slice p2 n2 c2], .agg #[.slice p3 n3 c3, .slice p4 n4 c4]] w fun e w' => ∃ v', e = .returned (.tuple #[v', .int .i64 (unbE k d x d' y)]) ∧ TRes w' w.heap.size v' (unbD k d x d' y) (unbV k d x d' y) ∧ Below w.heap.size w w' := by
  have cA : ∀ W, Below w.heap.size w W → Calls Try.prog 22 #[.agg #[.slice p n c, .slice p2 n2 c2]] W fun e w' => e = .returned (.bool (decide (isP d x))) ∧ Below W.heap.size W w' := fun W hW => tgood_any _ _ d x hd W (h1.up hW) (h2.up hW)
  have cB : ∀ W, Below w.heap.size w W → Calls Try.prog 22 #[.agg #[.slice p3 n3 c3, .slice p4 n4 c4]] W fun e w' => e = .returned (.bool (decide (isP d' y))) ∧ Below W.heap.size W w' := fun W hW => tgood_any _ _ d' y hd' W (h3.up hW) (h4.up hW)
  by_cases hk : 1 ≤ k ∧ k ≤ 5
  · obtain ⟨K1, K2, e1, e2, f1, f2, cl⟩ := line_yes k hk
    by_cases hp : isP d x
    · rw [decide_eq_true hp] at cA
      by_cases hp' : isP d' y
      · rw [decide_eq_true hp'] at cB
        have hP : isP d x ∧ isP d' y := ⟨hp, hp'⟩
        have hne : ¬ d = d' := fun h => hno ⟨⟨hk, hp, hp'⟩, h⟩
        have cQ : ∀ W, Below w.heap.size w W → Calls Try.prog 23 #[.slice p n c, .slice p3 n3 c3] W fun e w' => e = .returned (.bool (decide (d = d'))) ∧ ∃ n, w' = W.drewN n := fun W hW => equal_any _ _ d d' (by have := hP.1.1.1; rw [ntl_len] at this; omega) W (h1.up hW) (h3.up hW)
        rw [decide_eq_false hne] at cQ
        obtain ⟨q1, q2, q3⟩ := unb_off (k := k) ⟨hk, hp, hp'⟩ hne
        rw [q1, q2, q3]
        clear q1 q2 q3 hP hne hno hp hp' hk f1 f2 e1 e2 h1 h2 h3 h4 hd hx hd' hy
        go_enter Try.func12, Try.ntmps12
        go_wp2_with fail
        generalize hW0 : World.alloc _ _ = W0
        have B0 : Below w.heap.size w W0 := by rw [← hW0]; go_grown
        have XA : Hid (Cel W0 w.heap.size (.slice p n c) (.slice p2 n2 c2)) := by show Cel _ _ _ _; unfold Cel; rw [← hW0]; simp [go_sem]
        have XB : Hid (Cel W0 (w.heap.size + 1) (.slice p3 n3 c3) (.slice p4 n4 c4)) := by show Cel _ _ _ _; unfold Cel; rw [← hW0]; simp [go_sem]
        have XR : Hid (Cel W0 (w.heap.size + 2) (.slice none 0 0) (.slice none 0 0)) := by show Cel _ _ _ _; unfold Cel; rw [← hW0]; simp [go_sem]
        have HB0 : Hid (Below w.heap.size w W0) := B0
        clear hW0 B0
        refine (cl W0).mono ?_
        rintro e w1 ⟨rfl, hB1⟩
        have HB1 : Hid (Below w.heap.size w w1 ∧ Below W0.heap.size W0 w1) := ⟨bstep HB0.out hB1, hB1⟩
        clear hB1 cl
        obtain ⟨a0, a1, _, _⟩ := XA.out.up (HB1.out.2)
        have z0 := cell_lt a0
        obtain ⟨b0, b1, _, _⟩ := XB.out.up (HB1.out.2)
        have z1 := cell_lt b0
        go_wp2_with fail
        generalize hW2 : World.alloc _ _ = W2
        have B2 : Below w1.heap.size w1 W2 := by rw [← hW2]; exact up_alloc w1 _
        have XL : Hid (Cel W2 w1.heap.size (.func (.func K1) #[] #[]) (.func (.func K2) #[] #[])) := by show Cel _ _ _ _; unfold Cel; rw [← hW2]; simp [go_sem]
        have HB2 : Hid (Below w.heap.size w W2 ∧ Below W0.heap.size W0 W2) := ⟨bstep HB1.out.1 B2, bstep HB1.out.2 B2⟩
        have HL : Hid (W0.heap.size ≤ w1.heap.size) := HB1.out.2.size
        obtain ⟨bl, hbl⟩ : ∃ bl, w1.heap.size = bl := ⟨_, rfl⟩
        rw [hbl] at XL HL ⊢
        clear hW2 B2
        refine (cA W2 HB2.out.1).mono ?_
        rintro e w3 ⟨rfl, hB3⟩
        have HB3 : Hid (Below w.heap.size w w3 ∧ Below W0.heap.size W0 w3 ∧ Below W2.heap.size W2 w3) := ⟨bstep HB2.out.1 hB3, bstep HB2.out.2 hB3, hB3⟩
        clear hB3 cA a0 a1 z0 b0 b1 z1
        obtain ⟨b0, b1, _, _⟩ := XB.out.up (HB3.out.2.1)
        have z1 := cell_lt b0
        go_wp2_with fail
        refine (cB w3 HB3.out.1).mono ?_
        rintro e w4 ⟨rfl, hB4⟩
        have HB4 : Hid (Below w.heap.size w w4 ∧ Below W0.heap.size W0 w4 ∧ Below W2.heap.size W2 w4) := ⟨bstep HB3.out.1 hB4, bstep HB3.out.2.1 hB4, bstep HB3.out.2.2 hB4⟩
        clear hB4 cB b0 b1 z1
        obtain ⟨a0, a1, _, _⟩ := XA.out.up (HB4.out.2.1)
        have z0 := cell_lt a0
        obtain ⟨b0, b1, _, _⟩ := XB.out.up (HB4.out.2.1)
        have z1 := cell_lt b0
        go_wp2_with fail
        refine (cQ w4 HB4.out.1).mono ?_
        rintro e w5 ⟨rfl, mq, rfl⟩
        have HB5 : Hid (Below w.heap.size w (w4.drewN mq) ∧ Below W0.heap.size W0 (w4.drewN mq) ∧ Below W2.heap.size W2 (w4.drewN mq)) := ⟨bstep HB4.out.1 (bdrew _ _), bstep HB4.out.2.1 (bdrew _ _), bstep HB4.out.2.2 (bdrew _ _)⟩
        obtain ⟨w5, hw5⟩ : ∃ w5 : World, w4.drewN mq = w5 := ⟨_, rfl⟩
        rw [hw5] at HB5 ⊢
        clear cQ a0 a1 z0 b0 b1 z1 hw5
        have xr := (XR.out.up (And.intro (HB5.out).1 (HB5.out).2.1).2)
        have BF := below_cell ((And.intro (HB5.out).1 (HB5.out).2.1).1) (w.heap.size + 2) (by omega) (.slice none 0 0) (.slice none 0 0)
        have cf := xr.set (.slice none 0 0) (.slice none 0 0)
        obtain ⟨r0, r1, r2, r3⟩ := xr
        obtain ⟨y0, y1, _, _⟩ := cf
        go_wp2
        exact bodyPost_ret (v := .tuple #[.agg #[.slice none 0 0, .slice none 0 0], .int .i64 4]) (by simp [results, Try.results12, go_sem, y0, y1]) rfl ⟨_, rfl, TRes.none _ _, BF⟩
      · rw [decide_eq_false hp'] at cB
        obtain ⟨q1, q2, q3⟩ := unb_no (k := k) (d := d) (x := x) (d' := d') (y := y) fun h => hp' h.2.2
        rw [q1, q2, q3]
        clear q1 q2 q3 hno hp hp' hk f1 f2 e1 e2 h1 h2 h3 h4 hd hx hd' hy
        go_enter Try.func12, Try.ntmps12
        go_wp2_with fail
        generalize hW0 : World.alloc _ _ = W0
        have B0 : Below w.heap.size w W0 := by rw [← hW0]; go_grown
        have XA : Hid (Cel W0 w.heap.size (.slice p n c) (.slice p2 n2 c2)) := by show Cel _ _ _ _; unfold Cel; rw [← hW0]; simp [go_sem]
        have XB : Hid (Cel W0 (w.heap.size + 1) (.slice p3 n3 c3) (.slice p4 n4 c4)) := by show Cel _ _ _ _; unfold Cel; rw [← hW0]; simp [go_sem]
        have XR : Hid (Cel W0 (w.heap.size + 2) (.slice none 0 0) (.slice none 0 0)) := by show Cel _ _ _ _; unfold Cel; rw [← hW0]; simp [go_sem]
        have HB0 : Hid (Below w.heap.size w W0) := B0
        clear hW0 B0
        refine (cl W0).mono ?_
        rintro e w1 ⟨rfl, hB1⟩
        have HB1 : Hid (Below w.heap.size w w1 ∧ Below W0.heap.size W0 w1) := ⟨bstep HB0.out hB1, hB1⟩
        clear hB1 cl
        obtain ⟨a0, a1, _, _⟩ := XA.out.up (HB1.out.2)
        have z0 := cell_lt a0
        obtain ⟨b0, b1, _, _⟩ := XB.out.up (HB1.out.2)
        have z1 := cell_lt b0
        go_wp2_with fail
        generalize hW2 : World.alloc _ _ = W2
        have B2 : Below w1.heap.size w1 W2 := by rw [← hW2]; exact up_alloc w1 _
        have XL : Hid (Cel W2 w1.heap.size (.func (.func K1) #[] #[]) (.func (.func K2) #[] #[])) := by show Cel _ _ _ _; unfold Cel; rw [← hW2]; simp [go_sem]
        have HB2 : Hid (Below w.heap.size w W2 ∧ Below W0.heap.size W0 W2) := ⟨bstep HB1.out.1 B2, bstep HB1.out.2 B2⟩
        have HL : Hid (W0.heap.size ≤ w1.heap.size) := HB1.out.2.size
        obtain ⟨bl, hbl⟩ : ∃ bl, w1.heap.size = bl := ⟨_, rfl⟩
        rw [hbl] at XL HL ⊢
        clear hW2 B2
        refine (cA W2 HB2.out.1).mono ?_
        rintro e w3 ⟨rfl, hB3⟩
        have HB3 : Hid (Below w.heap.size w w3 ∧ Below W0.heap.size W0 w3 ∧ Below W2.heap.size W2 w3) := ⟨bstep HB2.out.1 hB3, bstep HB2.out.2 hB3, hB3⟩
        clear hB3 cA a0 a1 z0 b0 b1 z1
        obtain ⟨b0, b1, _, _⟩ := XB.out.up (HB3.out.2.1)
        have z1 := cell_lt b0
        go_wp2_with fail
        refine (cB w3 HB3.out.1).mono ?_
        rintro e w4 ⟨rfl, hB4⟩
        have HB4 : Hid (Below w.heap.size w w4 ∧ Below W0.heap.size W0 w4 ∧ Below W2.heap.size W2 w4) := ⟨bstep HB3.out.1 hB4, bstep HB3.out.2.1 hB4, bstep HB3.out.2.2 hB4⟩
        clear hB4 cB b0 b1 z1
        have xr := (XR.out.up (And.intro (HB4.out).1 (HB4.out).2.1).2)
        have BF := below_cell ((And.intro (HB4.out).1 (HB4.out).2.1).1) (w.heap.size + 2) (by omega) (.slice none 0 0) (.slice none 0 0)
        have cf := xr.set (.slice none 0 0) (.slice none 0 0)
        obtain ⟨r0, r1, r2, r3⟩ := xr
        obtain ⟨y0, y1, _, _⟩ := cf
        go_wp2
        exact bodyPost_ret (v := .tuple #[.agg #[.slice none 0 0, .slice none 0 0], .int .i64 1]) (by simp [results, Try.results12, go_sem, y0, y1]) rfl ⟨_, rfl, TRes.none _ _, BF⟩
    · rw [decide_eq_false hp] at cA
      obtain ⟨q1, q2, q3⟩ := unb_no (k := k) (d := d) (x := x) (d' := d') (y := y) fun h => hp h.2.1
      rw [q1, q2, q3]
      clear q1 q2 q3 hno hp hk f1 f2 e1 e2 h1 h2 h3 h4 hd hx hd' hy cB
      go_enter Try.func12, Try.ntmps12
      go_wp2_with fail
      generalize hW0 : World.alloc _ _ = W0
      have B0 : Below w.heap.size w W0 := by rw [← hW0]; go_grown
      have XA : Hid (Cel W0 w.heap.size (.slice p n c) (.slice p2 n2 c2)) := by show Cel _ _ _ _; unfold Cel; rw [← hW0]; simp [go_sem]
      have XB : Hid (Cel W0 (w.heap.size + 1) (.slice p3 n3 c3) (.slice p4 n4 c4)) := by show Cel _ _ _ _; unfold Cel; rw [← hW0]; simp [go_sem]
      have XR : Hid (Cel W0 (w.heap.size + 2) (.slice none 0 0) (.slice none 0 0)) := by show Cel _ _ _ _; unfold Cel; rw [← hW0]; simp [go_sem]
      have HB0 : Hid (Below w.heap.size w W0) := B0
      clear hW0 B0
      refine (cl W0).mono ?_
      rintro e w1 ⟨rfl, hB1⟩
      have HB1 : Hid (Below w.heap.size w w1 ∧ Below W0.heap.size W0 w1) := ⟨bstep HB0.out hB1, hB1⟩
      clear hB1 cl
      obtain ⟨a0, a1, _, _⟩ := XA.out.up (HB1.out.2)
      have z0 := cell_lt a0
      obtain ⟨b0, b1, _, _⟩ := XB.out.up (HB1.out.2)
      have z1 := cell_lt b0
      go_wp2_with fail
      generalize hW2 : World.alloc _ _ = W2
      have B2 : Below w1.heap.size w1 W2 := by rw [← hW2]; exact up_alloc w1 _
      have XL : Hid (Cel W2 w1.heap.size (.func (.func K1) #[] #[]) (.func (.func K2) #[] #[])) := by show Cel _ _ _ _; unfold Cel; rw [← hW2]; simp [go_sem]
      have HB2 : Hid (Below w.heap.size w W2 ∧ Below W0.heap.size W0 W2) := ⟨bstep HB1.out.1 B2, bstep HB1.out.2 B2⟩
      have HL : Hid (W0.heap.size ≤ w1.heap.size) := HB1.out.2.size
      obtain ⟨bl, hbl⟩ : ∃ bl, w1.heap.size = bl := ⟨_, rfl⟩
      rw [hbl] at XL HL ⊢
      clear hW2 B2
      refine (cA W2 HB2.out.1).mono ?_
      rintro e w3 ⟨rfl, hB3⟩
      have HB3 : Hid (Below w.heap.size w w3 ∧ Below W0.heap.size W0 w3 ∧ Below W2.heap.size W2 w3) := ⟨bstep HB2.out.1 hB3, bstep HB2.out.2 hB3, hB3⟩
      clear hB3 cA a0 a1 z0 b0 b1 z1
      have xr := (XR.out.up (And.intro (HB3.out).1 (HB3.out).2.1).2)
      have BF := below_cell ((And.intro (HB3.out).1 (HB3.out).2.1).1) (w.heap.size + 2) (by omega) (.slice none 0 0) (.slice none 0 0)
      have cf := xr.set (.slice none 0 0) (.slice none 0 0)
      obtain ⟨r0, r1, r2, r3⟩ := xr
      obtain ⟨y0, y1, _, _⟩ := cf
      go_wp2
      exact bodyPost_ret (v := .tuple #[.agg #[.slice none 0 0, .slice none 0 0], .int .i64 1]) (by simp [results, Try.results12, go_sem, y0, y1]) rfl ⟨_, rfl, TRes.none _ _, BF⟩
  · have cl := line_no k (by omega)
    obtain ⟨q1, q2, q3⟩ := unb_no (k := k) (d := d) (x := x) (d' := d') (y := y) fun h => hk h.1
    rw [q1, q2, q3]
    clear q1 q2 q3 hno h1 h2 h3 h4 hd hx hd' hy hk cA cB
    go_enter Try.func12, Try.ntmps12
    go_wp2_with fail
    generalize hW0 : World.alloc _ _ = W0
    have B0 : Below w.heap.size w W0 := by rw [← hW0]; go_grown
    have XA : Hid (Cel W0 w.heap.size (.slice p n c) (.slice p2 n2 c2)) := by show Cel _ _ _ _; unfold Cel; rw [← hW0]; simp [go_sem]
    have XB : Hid (Cel W0 (w.heap.size + 1) (.slice p3 n3 c3) (.slice p4 n4 c4)) := by show Cel _ _ _ _; unfold Cel; rw [← hW0]; simp [go_sem]
    have XR : Hid (Cel W0 (w.heap.size + 2) (.slice none 0 0) (.slice none 0 0)) := by show Cel _ _ _ _; unfold Cel; rw [← hW0]; simp [go_sem]
    have HB0 : Hid (Below w.heap.size w W0) := B0
    clear hW0 B0
    refine (cl W0).mono ?_
    rintro e w1 ⟨rfl, hB1⟩
    have HB1 : Hid (Below w.heap.size w w1 ∧ Below W0.heap.size W0 w1) := ⟨bstep HB0.out hB1, hB1⟩
    clear hB1 cl
    have xr := (XR.out.up HB1.out.2)
    have hzr := cell_lt xr.1
    have BF := bstep (below_cell HB1.out.1 (w.heap.size + 2) (by omega) (.slice none 0 0) (.slice none 0 0)) (up_alloc _ (.cells #[.nilFunc, .nilFunc] 44))
    have cf := (xr.set (.slice none 0 0) (.slice none 0 0)).up (up_alloc _ (.cells #[.nilFunc, .nilFunc] 44))
    obtain ⟨r0, r1, r2, r3⟩ := xr
    obtain ⟨y0, y1, _, _⟩ := cf
    go_wp2
    exact bodyPost_ret (v := .tuple #[.agg #[.slice none 0 0, .slice none 0 0], .int .i64 1]) (by simp [results, Try.results12, go_sem, y0, y1]) rfl ⟨_, rfl, TRes.none _ _, BF⟩
set_option maxHeartbeats 4000000 in
theorem aback_yes (k : Int) (p p2 p3 p4 : Option Addr) (n c n2 c2 n3 c3 n4 c4 : Nat) (d x d' y : List Int) (hd : RI d) (hx : RI x) (hd' : RI d') (hy : RI y) (w : World) (h1 : Nums .i64 w (.slice p n c) d) (h2 : Nums .i64 w (.slice p2 n2 c2) x) (h3 : Nums .i64 w (.slice p3 n3 c3) d') (h4 : Nums .i64 w (.slice p4 n4 c4) y) (hall : ((1 ≤ k ∧ k ≤ 5) ∧ isP d x ∧ isP d' y) ∧ d = d') :
    Calls Try.prog 12 #[.int .i64 k, .agg #[.slice p n c, .slice p2 n2 c2], .agg #[.slice p3 n3 c3, .slice p4 n4 c4]] w fun e w' => ∃ v', e = .returned (.tuple #[v', .int .i64 (unbE k d x d' y)]) ∧ TRes w' w.heap.size v' (unbD k d x d' y) (unbV k d x d' y) ∧ Below w.heap.size w w' := by
  have cA : ∀ W, Below w.heap.size w W → Calls Try.prog 22 #[.agg #[.slice p n c, .slice p2 n2 c2]] W fun e w' => e = .returned (.bool (decide (isP d x))) ∧ Below W.heap.size W w' := fun W hW => tgood_any _ _ d x hd W (h1.up hW) (h2.up hW)
  have cB : ∀ W, Below w.heap.size w W → Calls Try.prog 22 #[.agg #[.slice p3 n3 c3, .slice p4 n4 c4]] W fun e w' => e = .returned (.bool (decide (isP d' y))) ∧ Below W.heap.size W w' := fun W hW => tgood_any _ _ d' y hd' W (h3.up hW) (h4.up hW)
  have hk := hall.1.1
  obtain ⟨K1, K2, e1, e2, f1, f2, cl⟩ := line_yes k hk
  rw [decide_eq_true hall.1.2.1] at cA
  rw [decide_eq_true hall.1.2.2] at cB
  have hP : isP d x ∧ isP d' y := hall.1.2
  have cQ : ∀ W, Below w.heap.size w W → Calls Try.prog 23 #[.slice p n c, .slice p3 n3 c3] W fun e w' => e = .returned (.bool (decide (d = d'))) ∧ ∃ n, w' = W.drewN n := fun W hW => equal_any _ _ d d' (by have := hP.1.1.1; rw [ntl_len] at this; omega) W (h1.up hW) (h3.up hW)
  rw [decide_eq_true hall.2] at cQ
  obtain ⟨q1, q2, q3⟩ := unb_yes hall.1 hall.2
  rw [q1, q2, q3]
  obtain ⟨V, eV⟩ : ∃ V, ((List.range x.length).map fun i => Fx.mulI (y.getD i 0) (Fx.slopeI k (x.getD i 0))) = V := ⟨_, rfl⟩
  rw [eV]
  have HN : Hid (Nums .i64 w (.slice p3 n3 c3) d') := h3
  obtain ⟨_, _, _, e4, HX⟩ := h2.lst
  cases e4
  obtain ⟨_, _, _, e4, HY⟩ := h4.lst
  cases e4
  have hxy : x.length = y.length := by rw [hall.1.2.1.2, hall.1.2.2.2, hall.2]
  have hlen : x.length ≤ 4096 := by rw [hall.1.2.1.2]; exact hall.1.2.1.1.2.2
  have hd4 : d'.length ≤ 1073741824 := by have := hall.1.2.2.1.1; rw [ntl_len] at this; omega
  rw [hxy, HY.out.1] at hlen
  obtain rfl : n4 = n2 := by rw [← HX.out.1, ← HY.out.1, hxy]
  have hlen' : (n4 : Int) ≤ 4096 := by omega
  have HV : Hid (((List.range x.length).map fun i => Fx.mulI (y.getD i 0) (Fx.slopeI k (x.getD i 0))) = V ∧ V.length = n4 ∧ RI x ∧ RI y ∧ x.length = n4 ∧ y.length = n4 ∧ d'.length ≤ 1073741824) := ⟨eV, by rw [← eV, List.length_map, List.length_range]; exact HX.out.1, hx, hy, HX.out.1, HY.out.1, hd4⟩
  have HC2 : Hid (∀ x W, Calls Try.prog K2 #[.int .i64 x] W fun e w' => e = .returned (.int .i64 (slopeI k x)) ∧ w' = W) := f2
  have HEnt : Hid (∀ args W, (callFunc K2 args).run Try.prog W = .ok (.enter K2 args) W) := e2
  haveI : Nonempty World := ⟨w⟩
  clear q1 q2 q3 eV h1 h2 h3 h4 hd hx hd' hy hk hall hP f1 f2 e1 e2 hxy hd4
  go_enter Try.func12, Try.ntmps12
  go_wp2_with fail
  generalize hW0 : World.alloc _ _ = W0
  have B0 : Below w.heap.size w W0 := by rw [← hW0]; go_grown
  have XA : Hid (Cel W0 w.heap.size (.slice p n c) (.slice p2 n4 c2)) := by show Cel _ _ _ _; unfold Cel; rw [← hW0]; simp [go_sem]
  have XB : Hid (Cel W0 (w.heap.size + 1) (.slice p3 n3 c3) (.slice p4 n4 c4)) := by show Cel _ _ _ _; unfold Cel; rw [← hW0]; simp [go_sem]
  have XR : Hid (Cel W0 (w.heap.size + 2) (.slice none 0 0) (.slice none 0 0)) := by show Cel _ _ _ _; unfold Cel; rw [← hW0]; simp [go_sem]
  have HB0 : Hid (Below w.heap.size w W0) := B0
  clear hW0 B0
  refine (cl W0).mono ?_
  rintro e w1 ⟨rfl, hB1⟩
  have HB1 : Hid (Below w.heap.size w w1 ∧ Below W0.heap.size W0 w1) := ⟨bstep HB0.out hB1, hB1⟩
  clear hB1 cl
  obtain ⟨a0, a1, _, _⟩ := XA.out.up (HB1.out.2)
  have z0 := cell_lt a0
  obtain ⟨b0, b1, _, _⟩ := XB.out.up (HB1.out.2)
  have z1 := cell_lt b0
  go_wp2_with fail
  generalize hW2 : World.alloc _ _ = W2
  have B2 : Below w1.heap.size w1 W2 := by rw [← hW2]; exact up_alloc w1 _
  have XL : Hid (Cel W2 w1.heap.size (.func (.func K1) #[] #[]) (.func (.func K2) #[] #[])) := by show Cel _ _ _ _; unfold Cel; rw [← hW2]; simp [go_sem]
  have HB2 : Hid (Below w.heap.size w W2 ∧ Below W0.heap.size W0 W2) := ⟨bstep HB1.out.1 B2, bstep HB1.out.2 B2⟩
  have HL : Hid (W0.heap.size ≤ w1.heap.size) := HB1.out.2.size
  obtain ⟨bl, hbl⟩ : ∃ bl, w1.heap.size = bl := ⟨_, rfl⟩
  rw [hbl] at XL HL ⊢
  clear hW2 B2
  refine (cA W2 HB2.out.1).mono ?_
  rintro e w3 ⟨rfl, hB3⟩
  have HB3 : Hid (Below w.heap.size w w3 ∧ Below W0.heap.size W0 w3 ∧ Below W2.heap.size W2 w3) := ⟨bstep HB2.out.1 hB3, bstep HB2.out.2 hB3, hB3⟩
  clear hB3 cA a0 a1 z0 b0 b1 z1
  obtain ⟨b0, b1, _, _⟩ := XB.out.up (HB3.out.2.1)
  have z1 := cell_lt b0
  go_wp2_with fail
  refine (cB w3 HB3.out.1).mono ?_
  rintro e w4 ⟨rfl, hB4⟩
  have HB4 : Hid (Below w.heap.size w w4 ∧ Below W0.heap.size W0 w4 ∧ Below W2.heap.size W2 w4) := ⟨bstep HB3.out.1 hB4, bstep HB3.out.2.1 hB4, bstep HB3.out.2.2 hB4⟩
  clear hB4 cB b0 b1 z1
  obtain ⟨a0, a1, _, _⟩ := XA.out.up (HB4.out.2.1)
  have z0 := cell_lt a0
  obtain ⟨b0, b1, _, _⟩ := XB.out.up (HB4.out.2.1)
  have z1 := cell_lt b0
  go_wp2_with fail
  refine (cQ w4 HB4.out.1).mono ?_
  rintro e w5 ⟨rfl, mq, rfl⟩
  have HB5 : Hid (Below w.heap.size w (w4.drewN mq) ∧ Below W0.heap.size W0 (w4.drewN mq) ∧ Below W2.heap.size W2 (w4.drewN mq)) := ⟨bstep HB4.out.1 (bdrew _ _), bstep HB4.out.2.1 (bdrew _ _), bstep HB4.out.2.2 (bdrew _ _)⟩
  obtain ⟨w5, hw5⟩ : ∃ w5 : World, w4.drewN mq = w5 := ⟨_, rfl⟩
  rw [hw5] at HB5 ⊢
  clear cQ a0 a1 z0 b0 b1 z1 hw5
  obtain ⟨a0, a1, _, _⟩ := XA.out.up (HB5.out.2.1)
  have z0 := cell_lt a0
  obtain ⟨b0, b1, _, _⟩ := XB.out.up (HB5.out.2.1)
  have z1 := cell_lt b0
  go_wp2_with (at_make; refine wpList_makeK fixT (by decide) _ rfl (.tmp 40) (.tmp 40) rfl .i64 .i64 n4 n4 n4 rfl rfl rfl rfl (by omega) w.heap.size w HB5.out.1.size HB5.out.1 ?_; intro w6 HO6 B6 B6'; clear B6'; have XA6 := (XA.out.up (bstep HB5.out.2.1 B6)); obtain ⟨a2, a3, _, _⟩ := XA6)
  obtain ⟨g, hg⟩ : ∃ g, w5.heap.size = g := ⟨_, rfl⟩
  have HB6 : Hid (Below w.heap.size w w6 ∧ Below W0.heap.size W0 w6 ∧ Below W2.heap.size W2 w6) := ⟨bstep HB5.out.1 B6, bstep HB5.out.2.1 B6, bstep HB5.out.2.2 B6⟩
  rw [hg] at HO6 ⊢
  have hz := cell_lt XR.out.1
  have Hg : Hid (W0.heap.size ≤ g ∧ w.heap.size + 2 < W0.heap.size ∧ bl < g) := ⟨by rw [← hg]; exact HB5.out.2.1.size, hz, by rw [← hg]; exact Nat.lt_of_lt_of_le (cell_lt XL.out.1) HB5.out.2.2.size⟩
  have HO7 : Hid (OwnK .i64 23 w6 g (.slice (some ⟨g, 0, none⟩) n4 n4) (rowF V 0)) := by
    show OwnK _ _ _ _ _ _
    rw [rowF_zero, HV.out.2.1]
    exact HO6.out
  clear a0 a1 a2 a3 b0 b1 z0 z1 HO6 B6 hg hz
  go_loopg [45] n4 (fun gg i wr => ∃ (q : Nat), q ≤ n4 ∧ gg = n4 - q ∧ i = .int .i64 (q : Int) ∧ Hid (OwnK .i64 23 wr g (.slice (some ⟨g, 0, none⟩) n4 n4) (rowF V q)) ∧ Hid (Below w.heap.size w wr ∧ Stay g w6 wr))
  case atStart => exact ⟨0, by omega, by omega, by first | rfl | simp, HO7, HB6.out.1, Stay.refl _ _⟩
  case round =>
    obtain ⟨j, hj, hg, rfl, HRk, hBS⟩ := hrel
    obtain ⟨R1, hR1⟩ : ∃ R1 : World, R1 = wr := ⟨_, rfl⟩
    subst hR1
    by_cases hjn : j < n4
    · have hj' : (j : Int) < (n4 : Int) := by omega
      obtain ⟨q, o, rfl, hc0⟩ := HX.out.2 j hjn
      have hc1 := cell_low hc0 hBS.out.1
      obtain ⟨q', o', rfl, hd0⟩ := HY.out.2 j hjn
      have hd1 := cell_low hd0 hBS.out.1
      have ry := HV.out.2.2.2.1.at j (by rw [HV.out.2.2.2.2.2.1]; exact hjn)
      obtain ⟨X, eX⟩ : ∃ X, x.getD j 0 = X := ⟨_, rfl⟩
      obtain ⟨Y, eY⟩ : ∃ Y, y.getD j 0 = Y := ⟨_, rfl⟩
      rw [eX] at hc1
      rw [eY] at hd1 ry
      obtain ⟨SL, eS⟩ : ∃ SL, Fx.slopeI k X = SL := ⟨_, rfl⟩
      obtain ⟨Z, eZ⟩ : ∃ Z, Fx.mulI Y SL = Z := ⟨_, rfl⟩
      have HZ : Hid (V.getD j 0 = Z) := by
        show _ = _
        rw [← HV.out.1, getD_map_range _ _ _ _ (by rw [HV.out.2.2.2.2.1]; exact hjn), eX, eY, eS, eZ]
      have rs : InR SL := by rw [← eS]; exact slope_rng _ _
      have cs : ∀ W, Calls Try.prog K2 #[.int .i64 X] W fun e w' => e = .returned (.int .i64 SL) ∧ w' = W := fun W => by rw [← eS]; exact HC2.out X W
      have cm : ∀ W, Calls Try.prog 24 #[.int .i64 Y, .int .i64 SL] W fun e w' => e = .returned (.int .i64 Z) ∧ w' = W := fun W => by rw [← eZ]; exact Fx.mul_any Y SL ry rs W
      have hne : bl ≠ g := by have := Hg.out; omega
      have hne1 : w.heap.size + 1 ≠ g := by have := Hg.out; omega
      obtain ⟨l0, l1, _, _⟩ := (XL.out.up HB6.out.2.2).stay hBS.out.2 hne
      obtain ⟨b0, b1, _, _⟩ := (XB.out.up HB6.out.2.1).stay hBS.out.2 hne1
      have hgw : w.heap.size ≤ g := by have := Hg.out; have := HB0.out.size; omega
      have z0 := cell_lt l0
      have z1 := cell_lt b0
      have z2 := cell_lt hc1
      have z3 := cell_lt hd1
      have z4 := HRk.out.size
      have Hk : Hid (j < V.length) := by show _ < _; rw [HV.out.2.1]; exact hjn
      clear eX eY eS eZ hc0 hd0 hne hne1 ry rs
      go_wp2_with fail
      refine flow 13 69 (by kernel_rfl) rfl rfl (by kernel_rfl) ?_
      apply Exists.intro
      refine ⟨?_, ?_⟩
      · intro F hF
        have hFc := hF.cell
        have hFf := hF.frozen
        simp only [List.take_succ_cons, List.take_zero, List.eraseIdx_cons_succ, List.eraseIdx_cons_zero]
        repeat (go_big_quiet_step (first | (go_at_call 24; with_reducible exact hF.same (cm _)) | (rw [HEnt.out]; exact ⟨rfl, hF.same (cs _)⟩)))
        refine wpQuiet_nil ?_
        exact rfl
      · intro R2 hb2
        simp only [List.drop_succ_cons, List.drop_zero]
        have HR2 := HRk.out.up hb2
        obtain ⟨hown, hfz⟩ := HR2.cell (by rw [rowF_len]; exact HV.out.2.1) j hjn
        have H5 : Hid (OwnK .i64 23 (R2.setCell ⟨g, j, none⟩ (.int .i64 Z)) g (.slice (some ⟨g, 0, none⟩) n4 n4) (rowF V (j + 1))) := by
          have := HR2.store (by rw [rowF_len]; exact HV.out.2.1) j Z
          rw [← HZ.out, rowF_set V j Hk.out] at this
          rw [← HZ.out]
          exact this
        have H6 : Hid (Below w.heap.size w (R2.setCell ⟨g, j, none⟩ (.int .i64 Z)) ∧ Stay g w6 (R2.setCell ⟨g, j, none⟩ (.int .i64 Z))) := ⟨(bstep hBS.out.1 hb2).setCell (p := ⟨g, j, none⟩) hgw _, (hBS.out.2.up hb2).set _ _⟩
        clear HR2 hb2 cs cm z0 z1 z2 z3 z4 l0 l1 b0 b1 hc1 hd1
        go_wp2
        go_roundg (n4 - (j + 1))
        case measure => omega
        case rel => exact ⟨j + 1, by omega, rfl, by first | rfl | simp, H5, H6⟩
    · obtain rfl : j = n4 := by omega
      have hne0 : w.heap.size + 1 ≠ g := by have := Hg.out; omega
      have hne1 : w.heap.size + 2 ≠ g := by have := Hg.out; omega
      obtain ⟨b0, b1, _, _⟩ := (XB.out.up HB6.out.2.1).stay hBS.out.2 hne0
      have xr1 := (XR.out.up HB6.out.2.1).stay hBS.out.2 hne1
      have hfin := HRk.out
      rw [← HV.out.2.1, rowF_full, HV.out.2.1] at hfin
      have HF1 : Hid (OwnK .i64 23 R1 g (.slice (some ⟨g, 0, none⟩) j j) V) := hfin
      have cc := cloneI_any _ d' HV.out.2.2.2.2.2.2 R1 (HN.out.up hBS.out.1)
      have HXR : Hid (Cel R1 (w.heap.size + 2) (.slice none 0 0) (.slice none 0 0)) := xr1
      clear hfin xr1 hne0 hne1
      go_wp2_with fail
      refine cc.mono ?_
      rintro e w7 ⟨v7, rfl, h7, hB7⟩
      obtain ⟨p7, n7, c7, rfl, _⟩ := h7.nums.lst
      have HF : Hid (TRes (set2 w7 (w.heap.size + 2) (.slice p7 n7 c7) (.slice (some ⟨g, 0, none⟩) j j)) w.heap.size (.agg #[.slice p7 n7 c7, .slice (some ⟨g, 0, none⟩) j j]) d' V ∧ Below w.heap.size w (set2 w7 (w.heap.size + 2) (.slice p7 n7 c7) (.slice (some ⟨g, 0, none⟩) j j))) := by
        have hs : g ≤ R1.heap.size := Nat.le_of_lt HF1.out.size
        exact ⟨(TRes.set (h7.low (Nat.le_trans Hg.out.1 hs)) ((HF1.out.up hB7).low Hg.out.1) Hg.out.2.1).low HB0.out.size, below_cell (bstep hBS.out.1 hB7) _ (by omega) _ _⟩
      clear cc h7 b0 b1
      have xr := (HXR.out.up hB7)
      have cf := xr.set (.slice p7 n7 c7) (.slice (some ⟨g, 0, none⟩) j j)
      obtain ⟨r0, r1, r2, r3⟩ := xr
      obtain ⟨y0, y1, _, _⟩ := cf
      go_wp2
      exact bodyPost_ret (v := .tuple #[.agg #[.slice p7 n7 c7, .slice (some ⟨g, 0, none⟩) j j], .int .i64 0]) (by simp [results, Try.results12, go_sem, y0, y1]) rfl ⟨_, rfl, HF.out⟩
theorem aback_any (k : Int) (p p2 p3 p4 : Option Addr) (n c n2 c2 n3 c3 n4 c4 : Nat) (d x d' y : List Int) (hd : RI d) (hx : RI x) (hd' : RI d') (hy : RI y) (w : World) (h1 : Nums .i64 w (.slice p n c) d) (h2 : Nums .i64 w (.slice p2 n2 c2) x) (h3 : Nums .i64 w (.slice p3 n3 c3) d') (h4 : Nums .i64 w (.slice p4 n4 c4) y) :
    Calls Try.prog 12 #[.int .i64 k, .agg #[.slice p n c, .slice p2 n2 c2], .agg #[.slice p3 n3 c3, .slice p4 n4 c4]] w fun e w' => ∃ v', e = .returned (.tuple #[v', .int .i64 (unbE k d x d' y)]) ∧ TRes w' w.heap.size v' (unbD k d x d' y) (unbV k d x d' y) ∧ Below w.heap.size w w' := by
  by_cases h : ((1 ≤ k ∧ k ≤ 5) ∧ isP d x ∧ isP d' y) ∧ d = d'
  · exact aback_yes k p p2 p3 p4 n c n2 c2 n3 c3 n4 c4 d x d' y hd hx hd' hy w h1 h2 h3 h4 h
  · exact aback_no k p p2 p3 p4 n c n2 c2 n3 c3 n4 c4 d x d' y hd hx hd' hy w h1 h2 h3 h4 h
end Go.Proofs.Ytlehlikgehbnfaa.Wd
