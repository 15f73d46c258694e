/- The reference's Dot, total, All, Mean and Flip. -/
import Derived.Test.YthcfeiddbffcfaaDoorRefT
import Derived.Test.YthcfeiddbffcfaaDoorMtD
import Derived.Test.YthcfeiddbffcfaaDoorTenU
namespace Go.Proofs.YthcfeiddbffcfaaDoor.Wd
open Go.RowKit Fx
set_option linter.unusedVariables false
set_option linter.unusedSimpArgs false
set_option maxRecDepth 8000 in
set_option maxHeartbeats 4000000 in
theorem rdot_any (p p2 : Option Addr) (n c n2 c2 : Nat) (x y : List Int) (hx : RI x) (hy : RI y) (m : Nat) (hm : min n n2 = m) (hn : m ≤ 4096) (hn1 : n ≤ 1000000) (hn2 : n2 ≤ 1000000) (w : World) (hv : Nums .i64 w (.slice p n c) x) (hv2 : Nums .i64 w (.slice p2 n2 c2) y) :
    Calls Tryd.prog 25 #[.slice p n c, .slice p2 n2 c2] w fun e w' => e = .returned (.int .i64 (dotI x y)) ∧ Below w.heap.size w w' := by
  obtain ⟨_, _, _, e4, HX⟩ := hv.lst
  cases e4
  obtain ⟨_, _, _, e4, HY⟩ := hv2.lst
  cases e4
  have HD : Hid (dotI x y = rnd (dotS x y m)) := by show _ = _; rw [dotI, HX.out.1, HY.out.1, hm]
  have HI : Hid (RI x ∧ RI y) := ⟨hx, hy⟩
  have HM : Hid (min n n2 = m ∧ m ≤ 4096) := ⟨hm, hn⟩
  have hb1 : (m : Int) ≤ 4096 ∧ (n : Int) ≤ 1000000 ∧ (n2 : Int) ≤ 1000000 := by omega
  obtain ⟨D, eD⟩ : ∃ D, dotI x y = D := ⟨_, rfl⟩
  rw [eD] at HD ⊢
  clear hv hv2 hx hy eD hm
  haveI : Nonempty World := ⟨w⟩
  go_enter Tryd.func25, Tryd.ntmps25
  go_wp2_with fail
  go_loopg [6] m (fun g i wr => ∃ (k : Nat), k ≤ m ∧ g = m - k ∧ i = .int .i64 (k : Int) ∧ Hid (LiesS wr w.heap.size (dotS x y k)) ∧ Hid (Below w.heap.size w wr))
  case atStart => exact ⟨0, by omega, by omega, rfl, liesS_new w _, show Below _ _ _ by go_grown⟩
  case round =>
    obtain ⟨k, hk, hg, rfl, L0, HB⟩ := hrel
    obtain ⟨R1, hR1⟩ : ∃ R1 : World, R1 = wr := ⟨_, rfl⟩
    subst hR1
    by_cases hkn : k < m
    · have hkA : (k : Int) < (n : Int) := by have := HM.out; omega
      have hkB : (k : Int) < (n2 : Int) := by have := HM.out; omega
      obtain ⟨q, o, rfl, hc0⟩ := HX.out.2 k (by omega)
      obtain ⟨q', o', rfl, hc2⟩ := HY.out.2 k (by omega)
      have hc1 := cell_low hc0 HB.out
      have hc3 := cell_low hc2 HB.out
      have lt0 := cell_lt hc1
      have lt2 := cell_lt hc3
      have hX := getD_inR HI.out.1 k
      have hY := getD_inR HI.out.2 k
      have hroom := prods_room2 HI.out.1 HI.out.2 (fun q => q) (fun q => q) k (by have := HM.out; omega) _ _ hX hY
      have hroom : ((dotS x y k).natAbs : Int) + ((x.getD k 0 * y.getD k 0).natAbs : Int) < 115792089237316195423570985008687907853269984665640564039457584007913129639936 := hroom
      have eS : dotS x y (k + 1) = dotS x y k + x.getD k 0 * y.getD k 0 := rfl
      obtain ⟨X, eX⟩ : ∃ X, x.getD k 0 = X := ⟨_, rfl⟩
      obtain ⟨Y, eY⟩ : ∃ Y, y.getD k 0 = Y := ⟨_, rfl⟩
      obtain ⟨S, eS0⟩ : ∃ S, dotS x y k = S := ⟨_, rfl⟩
      rw [eX] at hc1 hX
      rw [eY] at hc3 hY
      rw [eX, eY, eS0] at hroom eS
      rw [eS0] at L0
      have HS : Hid (dotS x y (k + 1) = S + X * Y) := eS
      obtain ⟨r, u0, u1, u2, u3, lt9, q0, q1, q2, q3, q4, z0, z1, z2, z3, z4, hN⟩ := L0.out
      obtain ⟨zp, hp, cTi⟩ := Rf.timesD hX hY
      obtain ⟨pr, b0, b1, b2, b3, rfl, hp⟩ := hp.agg
      obtain ⟨zs, hs, cPl⟩ := Rf.plusD hN hp hroom
      obtain ⟨sr, t0, t1, t2, t3, rfl, hs⟩ := hs.agg
      have HSs : Hid (Rf.IsS (.agg #[.bool sr, .int .u64 t0, .int .u64 t1, .int .u64 t2, .int .u64 t3]) (S + X * Y)) := hs
      clear eX eY eS0 eS hroom hX hY hc0 hc2 hN hp hs
      go_wp2_with fail
      refine flow 11 34 (by kernel_rfl) rfl rfl (by kernel_rfl) ?_
      apply Exists.intro
      refine ⟨?_, ?_⟩
      · intro F hF
        have hFc := hF.cell
        have hFf := hF.frozen
        simp only [List.take_succ_cons, List.take_zero, List.eraseIdx_cons_succ, List.eraseIdx_cons_zero]
        repeat (go_big_quiet_step (first | (go_at_call 40; with_reducible exact hF.call (cTi _)) | (go_at_call 39; with_reducible exact hF.call (cPl _))))
        refine wpQuiet_nil ?_
        exact rfl
      · intro W2 hW2
        simp only [List.drop_succ_cons, List.drop_zero]
        have M := L0.out.up hW2
        have N0 : Hid (LiesS (((((W2.setCell ⟨w.heap.size, 0, none⟩ (.bool sr)).setCell ⟨w.heap.size, 1, none⟩ (.int .u64 t0)).setCell ⟨w.heap.size, 2, none⟩ (.int .u64 t1)).setCell ⟨w.heap.size, 3, none⟩ (.int .u64 t2)).setCell ⟨w.heap.size, 4, none⟩ (.int .u64 t3)) w.heap.size (S + X * Y)) := M.set HSs.out
        have B2 : Hid (Below w.heap.size w (((((W2.setCell ⟨w.heap.size, 0, none⟩ (.bool sr)).setCell ⟨w.heap.size, 1, none⟩ (.int .u64 t0)).setCell ⟨w.heap.size, 2, none⟩ (.int .u64 t1)).setCell ⟨w.heap.size, 3, none⟩ (.int .u64 t2)).setCell ⟨w.heap.size, 4, none⟩ (.int .u64 t3))) := below_set5 (HB.out.trans (hW2.mono HB.out.size)) _ (Nat.le_refl _) _ _ _ _ _
        obtain ⟨r', v0, v1, v2, v3, lt9', q0', q1', q2', q3', q4', z0', z1', z2', z3', z4', _⟩ := M
        clear hW2 cTi cPl q0 q1 q2 q3 q4 z0 z1 z2 z3 z4 lt9 L0 HB hc1 hc3 lt0 lt2
        go_wp2
        go_roundg (m - (k + 1))
        case measure => omega
        case rel => exact ⟨k + 1, by omega, rfl, by first | rfl | simp, by rw [HS.out]; exact N0, B2⟩
    · obtain rfl : k = m := by omega
      obtain ⟨S, eS0⟩ : ∃ S, dotS x y k = S := ⟨_, rfl⟩
      rw [eS0] at L0 HD
      obtain ⟨r, u0, u1, u2, u3, lt9, q0, q1, q2, q3, q4, z0, z1, z2, z3, z4, hN⟩ := L0.out
      obtain ⟨zh, hh, cHa⟩ := Rf.halvedD hN
      obtain ⟨hr, b0, b1, b2, b3, rfl, hh⟩ := hh.agg
      have cHe : ∀ W, Calls Tryd.prog 41 #[.agg #[.bool hr, .int .u64 b0, .int .u64 b1, .int .u64 b2, .int .u64 b3]] W fun e w' => e = .returned (.int .i64 D) ∧ Below W.heap.size W w' := fun W => by
        rw [HD.out]
        exact Rf.heldS _ _ hh W
      clear eS0 hN hh HD
      by_cases hkA : (k : Int) < (n : Int)
      · have hkB : ¬ (k : Int) < (n2 : Int) := by have := HM.out; omega
        go_wp2_with fail
        refine (cHa _).mono ?_
        rintro e w6 ⟨rfl, hB6⟩
        have HB6 : Hid (Below w.heap.size w w6) := bstep HB.out hB6
        clear hB6 cHa
        go_wp2_with fail
        refine (cHe _).mono ?_
        rintro e w7 ⟨rfl, hB7⟩
        have HB7 : Hid (Below w.heap.size w w7) := bstep HB6.out hB7
        clear hB7
        go_wp2
        go_ret
        exact ⟨rfl, HB7.out⟩
      · go_wp2_with fail
        refine (cHa _).mono ?_
        rintro e w6 ⟨rfl, hB6⟩
        have HB6 : Hid (Below w.heap.size w w6) := bstep HB.out hB6
        clear hB6 cHa
        go_wp2_with fail
        refine (cHe _).mono ?_
        rintro e w7 ⟨rfl, hB7⟩
        have HB7 : Hid (Below w.heap.size w w7) := bstep HB6.out hB7
        clear hB7
        go_wp2
        go_ret
        exact ⟨rfl, HB7.out⟩
/-- One of the reference's numbers, whatever the world. -/
def IsSW (S : Int) (v : Value) (W : World) : Prop := Rf.IsS v S
set_option maxRecDepth 8000 in
set_option maxHeartbeats 4000000 in
theorem rtotal_any (p p2 : Option Addr) (n c n2 c2 : Nat) (x : List Int) (hx : RI x) (hn : n2 ≤ 4096) (w : World) (hv : Nums .i64 w (.slice p2 n2 c2) x) :
    Calls Tryd.prog 48 #[.agg #[.slice p n c, .slice p2 n2 c2]] w fun e w' => ∃ z, e = .returned z ∧ IsSW (totalI x) z w' ∧ Below w.heap.size w w' := by
  obtain ⟨_, _, _, e4, HX⟩ := hv.lst
  cases e4
  have HS0 : Hid (totalI x = sumI (fun q => x.getD q 0) n2) := by show _ = _; rw [totalI, HX.out.1]
  have HI : Hid (RI x) := hx
  have hn1 : (n2 : Int) ≤ 4096 := by omega
  obtain ⟨T, eT⟩ : ∃ T, totalI x = T := ⟨_, rfl⟩
  rw [eT] at HS0 ⊢
  clear hv hx eT
  haveI : Nonempty World := ⟨w⟩
  go_enter Tryd.func48, Tryd.ntmps48
  go_wp2_with fail
  go_loopg [4] n2 (fun g i wr => ∃ (k : Nat), k ≤ n2 ∧ g = n2 - k ∧ i = .int .i64 (k : Int) ∧ Hid (Cel wr w.heap.size (.slice p n c) (.slice p2 n2 c2)) ∧ Hid (LiesS wr (w.heap.size + 1) 0) ∧ Hid (LiesS wr (w.heap.size + 1 + 1) (sumI (fun q => x.getD q 0) k)) ∧ Hid (Below w.heap.size w wr))
  case atStart =>
    refine ⟨0, by omega, by omega, rfl, ?_, ?_, ?_, show Below _ _ _ by go_grown⟩
    · show Cel _ _ _ _
      unfold Cel
      simp [go_sem]
    · show LiesS _ _ _
      refine ⟨false, 0, 0, 0, 0, by simp, by simp [go_sem], by simp [go_sem], by simp [go_sem], by simp [go_sem], by simp [go_sem], by simp [go_sem], by simp [go_sem], by simp [go_sem], by simp [go_sem], by simp [go_sem], Rf.zeroS⟩
    · show LiesS _ _ _
      refine ⟨false, 0, 0, 0, 0, by simp, by simp [go_sem], by simp [go_sem], by simp [go_sem], by simp [go_sem], by simp [go_sem], by simp [go_sem], by simp [go_sem], by simp [go_sem], by simp [go_sem], by simp [go_sem], Rf.zeroS⟩
  case round =>
    obtain ⟨k, hk, hg, rfl, XA, LR, L0, HB⟩ := hrel
    obtain ⟨R1, hR1⟩ : ∃ R1 : World, R1 = wr := ⟨_, rfl⟩
    subst hR1
    obtain ⟨a0, a1, _, _⟩ := XA.out
    have a9 := cell_lt a0
    by_cases hkn : k < n2
    · have hkA : (k : Int) < (n2 : Int) := by omega
      obtain ⟨q, o, rfl, hc0⟩ := HX.out.2 k (by omega)
      have hc1 := cell_low hc0 HB.out
      have lt0 := cell_lt hc1
      have hX := getD_inR HI.out k
      have hroom := sums_room HI.out (fun q => q) k (by omega) _ hX
      have eS : sumI (fun q => x.getD q 0) (k + 1) = sumI (fun q => x.getD q 0) k + x.getD k 0 := rfl
      obtain ⟨X, eX⟩ : ∃ X, x.getD k 0 = X := ⟨_, rfl⟩
      obtain ⟨S, eS0⟩ : ∃ S, sumI (fun q => x.getD q 0) k = S := ⟨_, rfl⟩
      rw [eX] at hc1 hX
      have hroom : (S.natAbs : Int) + (X.natAbs : Int) < 115792089237316195423570985008687907853269984665640564039457584007913129639936 := by rw [← eS0, ← eX]; exact hroom
      rw [eX, eS0] at eS
      rw [eS0] at L0
      have HS : Hid (sumI (fun q => x.getD q 0) (k + 1) = S + X) := eS
      obtain ⟨r, u0, u1, u2, u3, lt9, q0, q1, q2, q3, q4, z0, z1, z2, z3, z4, hN⟩ := L0.out
      obtain ⟨zp, hp, cFr⟩ := Rf.fromD hX
      obtain ⟨pr, b0, b1, b2, b3, rfl, hp⟩ := hp.agg
      obtain ⟨zs, hs, cPl⟩ := Rf.plusD hN hp hroom
      obtain ⟨sr, t0, t1, t2, t3, rfl, hs⟩ := hs.agg
      have HSs : Hid (Rf.IsS (.agg #[.bool sr, .int .u64 t0, .int .u64 t1, .int .u64 t2, .int .u64 t3]) (S + X)) := hs
      clear eX eS0 eS hroom hX hc0 hN hp hs
      go_wp2_with fail
      refine flow 8 22 (by kernel_rfl) rfl rfl (by kernel_rfl) ?_
      apply Exists.intro
      refine ⟨?_, ?_⟩
      · intro F hF
        have hFc := hF.cell
        have hFf := hF.frozen
        simp only [List.take_succ_cons, List.take_zero, List.eraseIdx_cons_succ, List.eraseIdx_cons_zero]
        repeat (go_big_quiet_step (first | (go_at_call 46; with_reducible exact hF.call (cFr _)) | (go_at_call 39; with_reducible exact hF.call (cPl _))))
        refine wpQuiet_nil ?_
        exact rfl
      · intro W2 hW2
        simp only [List.drop_succ_cons, List.drop_zero]
        have M := L0.out.up hW2
        have N0 : Hid (LiesS (((((W2.setCell ⟨w.heap.size + 1 + 1, 0, none⟩ (.bool sr)).setCell ⟨w.heap.size + 1 + 1, 1, none⟩ (.int .u64 t0)).setCell ⟨w.heap.size + 1 + 1, 2, none⟩ (.int .u64 t1)).setCell ⟨w.heap.size + 1 + 1, 3, none⟩ (.int .u64 t2)).setCell ⟨w.heap.size + 1 + 1, 4, none⟩ (.int .u64 t3)) (w.heap.size + 1 + 1) (S + X)) := M.set HSs.out
        have NR : Hid (LiesS (((((W2.setCell ⟨w.heap.size + 1 + 1, 0, none⟩ (.bool sr)).setCell ⟨w.heap.size + 1 + 1, 1, none⟩ (.int .u64 t0)).setCell ⟨w.heap.size + 1 + 1, 2, none⟩ (.int .u64 t1)).setCell ⟨w.heap.size + 1 + 1, 3, none⟩ (.int .u64 t2)).setCell ⟨w.heap.size + 1 + 1, 4, none⟩ (.int .u64 t3)) (w.heap.size + 1) 0) := (LR.out.up hW2).stay (stay_set5 _ _ _ _ _ _) (by omega)
        have NA : Hid (Cel (((((W2.setCell ⟨w.heap.size + 1 + 1, 0, none⟩ (.bool sr)).setCell ⟨w.heap.size + 1 + 1, 1, none⟩ (.int .u64 t0)).setCell ⟨w.heap.size + 1 + 1, 2, none⟩ (.int .u64 t1)).setCell ⟨w.heap.size + 1 + 1, 3, none⟩ (.int .u64 t2)).setCell ⟨w.heap.size + 1 + 1, 4, none⟩ (.int .u64 t3)) w.heap.size (.slice p n c) (.slice (some ⟨q, o, none⟩) n2 c2)) := (XA.out.up hW2).stay (stay_set5 _ _ _ _ _ _) (by omega)
        have B2 : Hid (Below w.heap.size w (((((W2.setCell ⟨w.heap.size + 1 + 1, 0, none⟩ (.bool sr)).setCell ⟨w.heap.size + 1 + 1, 1, none⟩ (.int .u64 t0)).setCell ⟨w.heap.size + 1 + 1, 2, none⟩ (.int .u64 t1)).setCell ⟨w.heap.size + 1 + 1, 3, none⟩ (.int .u64 t2)).setCell ⟨w.heap.size + 1 + 1, 4, none⟩ (.int .u64 t3))) := below_set5 (HB.out.trans (hW2.mono HB.out.size)) _ (by omega) _ _ _ _ _
        obtain ⟨r', v0, v1, v2, v3, lt9', q0', q1', q2', q3', q4', z0', z1', z2', z3', z4', _⟩ := M
        clear hW2 cFr cPl q0 q1 q2 q3 q4 z0 z1 z2 z3 z4 lt9 L0 HB hc1 lt0 a0 a1 a9 XA LR
        go_wp2
        go_roundg (n2 - (k + 1))
        case measure => omega
        case rel => exact ⟨k + 1, by omega, rfl, by first | rfl | simp, NA, NR, by rw [HS.out]; exact N0, B2⟩
    · obtain rfl : k = n2 := by omega
      rw [← HS0.out] at L0
      obtain ⟨r, u0, u1, u2, u3, lt9, q0, q1, q2, q3, q4, z0, z1, z2, z3, z4, hN⟩ := L0.out
      have HN : Hid (IsSW T (.agg #[.bool r, .int .u64 u0, .int .u64 u1, .int .u64 u2, .int .u64 u3]) w) := hN
      have cf := LR.out.set hN
      have BF := below_set5 HB.out (w.heap.size + 1) (by omega) (.bool r) (.int .u64 u0) (.int .u64 u1) (.int .u64 u2) (.int .u64 u3)
      obtain ⟨r', v0, v1, v2, v3, lt9', q0', q1', q2', q3', q4', z0', z1', z2', z3', z4', _⟩ := LR.out
      obtain ⟨g0, g1, g2, g3, g4⟩ := Rf.five R1 (w.heap.size + 1) (.bool r) (.int .u64 u0) (.int .u64 u1) (.int .u64 u2) (.int .u64 u3) q0' q1' q2' q3' q4'
      clear cf hN
      go_wp2
      exact bodyPost_ret (v := .agg #[.bool r, .int .u64 u0, .int .u64 u1, .int .u64 u2, .int .u64 u3]) (by simp [results, Tryd.results48, go_sem, g0, g1, g2, g3, g4]) rfl ⟨_, rfl, HN.out, BF⟩
set_option maxHeartbeats 2000000 in
theorem rall_any (p p2 : Option Addr) (n c n2 c2 : Nat) (x : List Int) (hx : RI x) (hn : n2 ≤ 4096) (w : World) (hv : Nums .i64 w (.slice p2 n2 c2) x) :
    Calls Tryd.prog 23 #[.agg #[.slice p n c, .slice p2 n2 c2]] w fun e w' => e = .returned (.int .i64 (hold (totalI x))) ∧ Below w.heap.size w w' := by
  have cT : ∀ W, Below w.heap.size w W → Calls Tryd.prog 48 #[.agg #[.slice p n c, .slice p2 n2 c2]] W fun e w' => ∃ z, e = .returned z ∧ IsSW (totalI x) z w' ∧ Below W.heap.size W w' := fun W hW => rtotal_any p p2 n c n2 c2 x hx hn W (hv.up hW)
  have cH : Hid (∀ W v, IsSW (totalI x) v W → Calls Tryd.prog 41 #[v] W fun e w' => e = .returned (.int .i64 (hold (totalI x))) ∧ Below W.heap.size W w') := fun W v h => Rf.heldS v _ h W
  obtain ⟨T, eT⟩ : ∃ T, totalI x = T := ⟨_, rfl⟩
  rw [eT] at cT cH ⊢
  obtain ⟨H, eH⟩ : ∃ H, hold T = H := ⟨_, rfl⟩
  rw [eH] at cH ⊢
  clear hv hx eT eH
  go_enter Tryd.func23, Tryd.ntmps23
  go_wp2_with fail
  refine (cT _ (up_alloc w _)).mono ?_
  rintro e w1 ⟨z, rfl, hz, hB1⟩
  have HB1 : Hid (Below w.heap.size w w1) := bstep (up_alloc w _) hB1
  have HZ : Hid (IsSW T z w1) := hz
  clear hB1 hz
  go_wp2_with fail
  refine (cH.out w1 z HZ.out).mono ?_
  rintro e w2 ⟨rfl, hB2⟩
  have HB2 : Hid (Below w.heap.size w w2) := bstep HB1.out hB2
  clear hB2
  go_wp2
  go_ret
  exact ⟨rfl, HB2.out⟩
set_option maxRecDepth 8000 in
set_option maxHeartbeats 2000000 in
theorem rmean_any (p p2 : Option Addr) (n c n2 c2 : Nat) (x : List Int) (hx : RI x) (hn : 1 ≤ n2 ∧ n2 ≤ 4096) (w : World) (hv : Nums .i64 w (.slice p2 n2 c2) x) :
    Calls Tryd.prog 24 #[.agg #[.slice p n c, .slice p2 n2 c2]] w fun e w' => e = .returned (.int .i64 (meanI x)) ∧ Below w.heap.size w w' := by
  obtain ⟨_, _, _, e4, HX⟩ := hv.lst
  cases e4
  have cT : Hid (∀ W, Below w.heap.size w W → Calls Tryd.prog 48 #[.agg #[.slice p n c, .slice p2 n2 c2]] W fun e w' => ∃ z, e = .returned z ∧ IsSW (totalI x) z w' ∧ Below W.heap.size W w') := fun W hW => rtotal_any p p2 n c n2 c2 x hx hn.2 W (hv.up hW)
  have cD : Hid (∀ W v, IsSW (totalI x) v W → Calls Tryd.prog 49 #[v, .int .i64 (n2 : Int)] W fun e w' => ∃ z, e = .returned z ∧ IsSW (rqI (totalI x) n2) z w' ∧ Below W.heap.size W w') := fun W v h => by
    obtain ⟨z, hz, cz⟩ := Rf.dividedD h (n := (n2 : Int)) (by unfold InR; omega) (by omega)
    refine (cz W).mono ?_
    rintro e w' ⟨rfl, hb⟩
    exact ⟨_, rfl, hz, hb⟩
  have cH : Hid (∀ W v, IsSW (rqI (totalI x) n2) v W → Calls Tryd.prog 41 #[v] W fun e w' => e = .returned (.int .i64 (meanI x)) ∧ Below W.heap.size W w') := fun W v h => by
    rw [meanI, HX.out.1]
    exact Rf.heldS v _ h W
  obtain ⟨M, eM⟩ : ∃ M, meanI x = M := ⟨_, rfl⟩
  rw [eM] at cH ⊢
  have hn2' : (n2 : Int) ≤ 4096 := by omega
  clear hv hx eM
  haveI : Nonempty World := ⟨w⟩
  go_enter Tryd.func24, Tryd.ntmps24
  go_wp2_with fail
  refine name_world (fun W0 hW0 => ?_)
  have HB0 : Hid (Below w.heap.size w W0) := by show Below _ _ _; rw [hW0]; exact up_alloc w _
  have XA : Hid (Cel W0 w.heap.size (.slice p n c) (.slice p2 n2 c2)) := by show Cel _ _ _ _; unfold Cel; rw [hW0]; simp [go_sem]
  clear hW0
  obtain ⟨a0, a1, _, _⟩ := XA.out
  have a9 := cell_lt a0
  refine rel [⟨1, 4, IsSW (totalI x)⟩, ⟨5, 8, IsSW (rqI (totalI x) n2)⟩] 7 10 (by kernel_rfl) rfl rfl (by kernel_rfl) (by rfl) ?_ ?_
  · intro e he v W W' h hb
    simp only [List.mem_cons, List.not_mem_nil, or_false] at he
    rcases he with rfl | rfl
    · exact h
    · exact h
  apply Exists.intro
  refine ⟨fun x => ?_, ?_, ?_⟩
  · simp only [List.take_succ_cons, List.take_zero]
    refine relQuiet rfl rfl ?_
    apply Exists.intro
    refine ⟨fun F hF hf K hK => ?_, ?_⟩
    · have hFc := hF.cell
      have hFf := hF.frozen
      go_big_quiet_op
      first | exact hK | (apply Exists.intro; refine ⟨fun _ => ?_, ?_⟩; (· fail); exact hK)
    (try simp only [Act.put, List.setIfInBounds_toArray, List.set_cons_zero, List.set_cons_succ])
    refine relTold rfl rfl ?_ ?_
    · intro F hF hf d
      have hFc := hF.cell
      have hFf := hF.frozen
      simp [yieldsR, yieldsUpon, go_sem]
      refine (cT.out (F d) (bstep HB0.out (hF.below d))).mono ?_
      rintro e' w8 ⟨v8, rfl, h8, hb8⟩
      exact ⟨_, rfl, h8, hb8⟩
    (try simp only [Act.put, List.setIfInBounds_toArray, List.set_cons_zero, List.set_cons_succ])
    refine relQuiet rfl rfl ?_
    apply Exists.intro
    refine ⟨fun F hF hf K hK => ?_, ?_⟩
    · have hFc := hF.cell
      have hFf := hF.frozen
      go_big_quiet_op
      first | exact hK | (apply Exists.intro; refine ⟨fun _ => ?_, ?_⟩; (· fail); exact hK)
    (try simp only [Act.put, List.setIfInBounds_toArray, List.set_cons_zero, List.set_cons_succ])
    refine relQuiet rfl rfl ?_
    apply Exists.intro
    refine ⟨fun F hF hf K hK => ?_, ?_⟩
    · have hFc := hF.cell
      have hFf := hF.frozen
      go_big_quiet_op
      first | exact hK | (apply Exists.intro; refine ⟨fun _ => ?_, ?_⟩; (· fail); exact hK)
    (try simp only [Act.put, List.setIfInBounds_toArray, List.set_cons_zero, List.set_cons_succ])
    refine relQuiet rfl rfl ?_
    apply Exists.intro
    refine ⟨fun F hF hf K hK => ?_, ?_⟩
    · have hFc := hF.cell
      have hFf := hF.frozen
      go_big_quiet_op
      first | exact hK | (apply Exists.intro; refine ⟨fun _ => ?_, ?_⟩; (· fail); exact hK)
    (try simp only [Act.put, List.setIfInBounds_toArray, List.set_cons_zero, List.set_cons_succ])
    refine relTold rfl rfl ?_ ?_
    · intro F hF hf d
      have hFc := hF.cell
      have hFf := hF.frozen
      have h9 := hf _ List.mem_cons_self (by rfl) d
      simp [yieldsR, yieldsUpon, go_sem]
      refine (cD.out (F d) _ h9).mono ?_
      rintro e' w8 ⟨v8, rfl, h8, hb8⟩
      exact ⟨_, rfl, h8, hb8⟩
    (try simp only [Act.put, List.setIfInBounds_toArray, List.set_cons_zero, List.set_cons_succ])
    refine relQuiet rfl rfl ?_
    apply Exists.intro
    refine ⟨fun F hF hf K hK => ?_, ?_⟩
    · have hFc := hF.cell
      have hFf := hF.frozen
      go_big_quiet_op
      first | exact hK | (apply Exists.intro; refine ⟨fun _ => ?_, ?_⟩; (· exact hF.call (cH.out _ _ (hf _ (List.mem_cons_of_mem _ List.mem_cons_self) (by rfl) w))); exact hK)
    (try simp only [Act.put, List.setIfInBounds_toArray, List.set_cons_zero, List.set_cons_succ])
    refine relEnd ?_
    exact rfl
  · exact fun x => rfl
  · intro w9 xs hB9 hf
    simp only [List.drop_succ_cons, List.drop_zero]
    have HB9 : Hid (Below w.heap.size w w9) := bstep HB0.out hB9
    clear hf hB9
    go_wp2
    go_ret
    exact ⟨rfl, HB9.out⟩
set_option maxHeartbeats 4000000 in
theorem rflip_any (p p2 : Option Addr) (n c n2 c2 : Nat) (d x : List Int) (hd : RI d) (w : World) (h1 : Nums .i64 w (.slice p n c) d) (h2 : Nums .i64 w (.slice p2 n2 c2) x) :
    Calls Tryd.prog 20 #[.agg #[.slice p n c, .slice p2 n2 c2]] w fun e w' => ∃ v', e = .returned (.tuple #[v', .int .i64 (flE d x)]) ∧ TRes w' w.heap.size v' (flD d x) (flV d x) ∧ Below w.heap.size w w' := by
  have cA : ∀ W, Below w.heap.size w W → Calls Tryd.prog 22 #[.agg #[.slice p n c, .slice p2 n2 c2]] W fun e w' => e = .returned (.bool (decide (isP d x))) ∧ Below W.heap.size W w' := fun W hW => ris_any _ _ d x hd W (h1.up hW) (h2.up hW)
  have cT : Hid (∀ W v, Below w.heap.size w W → LitN [1, 0] v W → Calls Tryd.prog 43 #[.agg #[.slice p n c, .slice p2 n2 c2], v] W fun e w' => ∃ v', e = .returned (.tuple #[v', .int .i64 (turnE d x [1, 0])]) ∧ TRes w' W.heap.size v' (turnD d x [1, 0]) (turnV d x [1, 0]) ∧ Below W.heap.size W w') := fun W v hW hv => by
    obtain ⟨g, rfl, hn⟩ := hv
    exact rturn_any p p2 _ n c n2 c2 _ _ d x [1, 0] hd (fun y hy => by simp at hy; omega) W (h1.up hW) (h2.up hW) hn (by simp)
  obtain ⟨_, _, _, e4, HD⟩ := h1.lst
  cases e4
  have hlen : d.length = n := HD.out.1
  by_cases hp : isP d x
  · rw [decide_eq_true hp] at cA
    have hn4 : n ≤ 4 := by have := hp.1.1; rw [ntl_len] at this; omega
    have hn4' : (n : Int) ≤ 4 := by omega
    by_cases hq : n = 2
    · subst hq
      obtain ⟨e1, e2, e3⟩ := fl_two hp hlen
      rw [e1, e2, e3]
      obtain ⟨E, eE⟩ : ∃ E, turnE d x [1, 0] = E := ⟨_, rfl⟩
      obtain ⟨D, eD⟩ : ∃ D, turnD d x [1, 0] = D := ⟨_, rfl⟩
      obtain ⟨V, eV⟩ : ∃ V, turnV d x [1, 0] = V := ⟨_, rfl⟩
      rw [eE, eD, eV] at cT ⊢
      clear e1 e2 e3 eE eD eV hp h1 h2 hd HD hlen
      go_enter Tryd.func20, Tryd.ntmps20
      go_wp2_with fail
      generalize hW0 : World.alloc _ _ = W0
      have B0 : Below w.heap.size w W0 := by rw [← hW0]; go_grown
      have XA : Hid (Cel W0 w.heap.size (.slice p 2 c) (.slice p2 n2 c2)) := by show Cel _ _ _ _; unfold Cel; rw [← hW0]; simp [go_sem]
      have XR : Hid (Cel W0 (w.heap.size + 1) (.slice none 0 0) (.slice none 0 0)) := by show Cel _ _ _ _; unfold Cel; rw [← hW0]; simp [go_sem]
      have HB0 : Hid (Below w.heap.size w W0) := B0
      clear hW0 B0
      refine (cA W0 HB0.out).mono ?_
      rintro e w1 ⟨rfl, hB1⟩
      have HB1 : Hid (Below w.heap.size w w1 ∧ Below W0.heap.size W0 w1) := ⟨bstep HB0.out hB1, hB1⟩
      clear hB1
      obtain ⟨a0, a1, _, _⟩ := XA.out.up HB1.out.2
      go_wp2_with fail
      generalize hW2 : World.alloc _ _ = W2
      have hB2 : Below w1.heap.size w1 W2 := by rw [← hW2]; exact up_alloc w1 _
      have HL : Hid (LitN [1, 0] (.slice (some ⟨w1.heap.size, 0, none⟩) 2 2) W2) := ⟨_, rfl, by rw [← hW2]; exact nums_lit (k := .i64) w1 [1, 0] 2 (0, 0) rfl⟩
      have HB2 : Hid (Below w.heap.size w W2 ∧ Below W0.heap.size W0 W2) := ⟨bstep HB1.out.1 hB2, bstep HB1.out.2 hB2⟩
      clear hW2 hB2 a0 a1
      refine (cT.out W2 _ HB2.out.1 HL.out).mono ?_
      rintro e w6 ⟨v6, rfl, ⟨s6, t6, rfl, hs6, ht6⟩, hB6⟩
      obtain ⟨p6, n6, c6, rfl, _⟩ := hs6.nums.lst
      obtain ⟨p7, n7, c7, rfl, _⟩ := ht6.nums.lst
      have hz := cell_lt XR.out.1
      have hs2 := HB2.out.2.size
      have HF : Hid (TRes (set2 w6 (w.heap.size + 1) (.slice p6 n6 c6) (.slice p7 n7 c7)) w.heap.size (.agg #[.slice p6 n6 c6, .slice p7 n7 c7]) D V ∧ Below w.heap.size w (set2 w6 (w.heap.size + 1) (.slice p6 n6 c6) (.slice p7 n7 c7))) := by
        exact ⟨(TRes.set hs6 ht6 (by omega)).low HB2.out.1.size, below_cell (bstep HB2.out.1 hB6) _ (by omega) _ _⟩
      have xr := (XR.out.up (bstep HB2.out.2 hB6))
      have cf := xr.set (.slice p6 n6 c6) (.slice p7 n7 c7)
      obtain ⟨r0, r1, r2, r3⟩ := xr
      obtain ⟨y0, y1, _, _⟩ := cf
      clear hs6 ht6 hB6
      go_wp2
      exact bodyPost_ret (v := .tuple #[.agg #[.slice p6 n6 c6, .slice p7 n7 c7], .int .i64 E]) (by simp [results, Tryd.results20, go_sem, y0, y1]) rfl ⟨_, rfl, HF.out⟩
    · have hne : ((n : Int) != 2) = true := by simp; omega
      have hne' : ¬ ((n : Int) = 2) := by omega
      unfold flE flD flV
      rw [if_pos hp, if_neg (by omega), if_neg (by omega), if_neg (by omega)]
      clear h1 h2 hd hp HD hlen cT
      go_enter Tryd.func20, Tryd.ntmps20
      go_wp2_with fail
      generalize hW0 : World.alloc _ _ = W0
      have B0 : Below w.heap.size w W0 := by rw [← hW0]; go_grown
      have XA : Hid (Cel W0 w.heap.size (.slice p n c) (.slice p2 n2 c2)) := by show Cel _ _ _ _; unfold Cel; rw [← hW0]; simp [go_sem]
      have XR : Hid (Cel W0 (w.heap.size + 1) (.slice none 0 0) (.slice none 0 0)) := by show Cel _ _ _ _; unfold Cel; rw [← hW0]; simp [go_sem]
      have HB0 : Hid (Below w.heap.size w W0) := B0
      clear hW0 B0
      refine (cA W0 HB0.out).mono ?_
      rintro e w1 ⟨rfl, hB1⟩
      have HB1 : Hid (Below w.heap.size w w1 ∧ Below W0.heap.size W0 w1) := ⟨bstep HB0.out hB1, hB1⟩
      clear hB1
      obtain ⟨a0, a1, _, _⟩ := XA.out.up HB1.out.2
      have xr := (XR.out.up HB1.out.2)
      have BF := below_cell (HB1.out.1) (w.heap.size + 1) (by omega) (.slice none 0 0) (.slice none 0 0)
      have cf := xr.set (.slice none 0 0) (.slice none 0 0)
      obtain ⟨r0, r1, r2, r3⟩ := xr
      obtain ⟨y0, y1, _, _⟩ := cf
      go_wp2
      exact bodyPost_ret (v := .tuple #[.agg #[.slice none 0 0, .slice none 0 0], .int .i64 4]) (by simp [results, Tryd.results20, go_sem, y0, y1]) rfl ⟨_, rfl, TRes.none _ _, BF⟩
  · rw [decide_eq_false hp] at cA
    unfold flE flD flV
    rw [if_neg hp, if_neg (fun h => hp h.1), if_neg (fun h => hp h.1)]
    clear h1 h2 hd hp HD hlen cT
    go_enter Tryd.func20, Tryd.ntmps20
    go_wp2_with fail
    generalize hW0 : World.alloc _ _ = W0
    have B0 : Below w.heap.size w W0 := by rw [← hW0]; go_grown
    have XR : Hid (Cel W0 (w.heap.size + 1) (.slice none 0 0) (.slice none 0 0)) := by show Cel _ _ _ _; unfold Cel; rw [← hW0]; simp [go_sem]
    have HB0 : Hid (Below w.heap.size w W0) := B0
    clear hW0 B0
    refine (cA W0 HB0.out).mono ?_
    rintro e w1 ⟨rfl, hB1⟩
    have HB1 : Hid (Below w.heap.size w w1 ∧ Below W0.heap.size W0 w1) := ⟨bstep HB0.out hB1, hB1⟩
    clear hB1
    have xr := (XR.out.up HB1.out.2)
    have BF := below_cell (HB1.out.1) (w.heap.size + 1) (by omega) (.slice none 0 0) (.slice none 0 0)
    have cf := xr.set (.slice none 0 0) (.slice none 0 0)
    obtain ⟨r0, r1, r2, r3⟩ := xr
    obtain ⟨y0, y1, _, _⟩ := cf
    go_wp2
    exact bodyPost_ret (v := .tuple #[.agg #[.slice none 0 0, .slice none 0 0], .int .i64 1]) (by simp [results, Tryd.results20, go_sem, y0, y1]) rfl ⟨_, rfl, TRes.none _ _, BF⟩
end Go.Proofs.YthcfeiddbffcfaaDoor.Wd
