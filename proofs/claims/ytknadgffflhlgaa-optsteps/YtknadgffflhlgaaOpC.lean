/- A step: where all fits, number by number; where it doesn't. -/
import Derived.Test.YtknadgffflhlgaaOpB
namespace Go.Proofs.Ytknadgffflhlgaa.Wd
open Go.RowKit Fx
set_option linter.unusedVariables false
set_option linter.unusedSimpArgs false
set_option maxRecDepth 8000
set_option maxHeartbeats 8000000
/-- Three numbers in a block. -/
def Cel3 (W : World) (b : Nat) (x y z : Int) : Prop := W.cell? ⟨b, 0, none⟩ = some (.int .i64 x) ∧ W.cell? ⟨b, 1, none⟩ = some (.int .i64 y) ∧ W.cell? ⟨b, 2, none⟩ = some (.int .i64 z)
theorem Cel3.up {W W' : World} {b : Nat} {x y z : Int} (h : Cel3 W b x y z) (hB : Below W.heap.size W W') : Cel3 W' b x y z := ⟨cell_low h.1 hB, cell_low h.2.1 hB, cell_low h.2.2 hB⟩
theorem Cel3.but {x y b : Nat} {W W' : World} {p q r : Int} (h : Cel3 W b p q r) (hs : But2 x y W W') (hx : b ≠ x) (hy : b ≠ y) : Cel3 W' b p q r := ⟨hs.cell h.1 hx hy, hs.cell h.2.1 hx hy, hs.cell h.2.2 hx hy⟩
theorem celX {V W0 : World} {b : Nat} {x y z : Int} (h : V = W0) (h2 : V.cell? ⟨b, 0, none⟩ = some (.int .i64 x) ∧ V.cell? ⟨b, 1, none⟩ = some (.int .i64 y) ∧ V.cell? ⟨b, 2, none⟩ = some (.int .i64 z)) : Hid (Cel3 W0 b x y z) := h ▸ h2
/-- Each of these names a function of the code: the numbers of a step. -/
theorem over_at {a1 a2 A m D : Int} (h1 : A / 18446744073709551616 = a1) (h2 : A % 18446744073709551616 = a2) (hA : InW A) (hm : InR m) (e : ovI A m = D) : Hid (∀ W, Calls Try.prog 22 #[.agg #[.int .i64 a1, .int .u64 a2], .int .i64 m] W fun e w' => e = .returned (.int .i64 D) ∧ Below W.heap.size W w') := fun W => by
  have := Wd.over_any A m hA hm W
  unfold wd at this
  rw [h1, h2, e] at this
  exact this
theorem within_at {d b D : Int} (hd : InR d) (hb : InR b) (h0 : 0 ≤ b) (e : bnd b d = D) : Hid (∀ W, Calls Try.prog 21 #[.int .i64 d, .int .i64 b] W fun e w' => e = .returned (.int .i64 D) ∧ Below W.heap.size W w') := fun W => by
  refine (within_any d b hd hb h0 W).mono ?_
  rintro e w ⟨rfl, rfl⟩
  rw [e]
  exact ⟨rfl, Below.refl _ _⟩
theorem mul_st {a b c : Int} (ha : InR a) (hb : InR b) (e : mulI a b = c) : Hid (∀ W, Calls Try.prog 24 #[.int .i64 a, .int .i64 b] W fun e w' => e = .returned (.int .i64 c) ∧ Below W.heap.size W w') := fun W => by
  refine (Fx.mul_any a b ha hb W).mono ?_
  rintro e w ⟨rfl, rfl⟩
  rw [e]
  exact ⟨rfl, Below.refl _ _⟩
theorem add_st {a b c : Int} (ha : InR a) (hb : InR b) (e : hold (a + b) = c) : Hid (∀ W, Calls Try.prog 23 #[.int .i64 a, .int .i64 b] W fun e w' => e = .returned (.int .i64 c) ∧ Below W.heap.size W w') := fun W => by
  refine (Fx.add_any a b ha hb W).mono ?_
  rintro e w ⟨rfl, rfl⟩
  rw [e]
  exact ⟨rfl, Below.refl _ _⟩
theorem sub_st {a b c : Int} (ha : InR a) (hb : InR b) (e : hold (a - b) = c) : Hid (∀ W, Calls Try.prog 25 #[.int .i64 a, .int .i64 b] W fun e w' => e = .returned (.int .i64 c) ∧ Below W.heap.size W w') := fun W => by
  refine (Fx.sub_any a b ha hb W).mono ?_
  rintro e w ⟨rfl, rfl⟩
  rw [e]
  exact ⟨rfl, Below.refl _ _⟩
theorem getD_R {l : List Int} (h : RI l) (i : Nat) (hi : i < l.length) : InR (l.getD i 0) := h _ (by rw [List.getD_eq_getElem?_getD, List.getElem?_eq_getElem hi]; exact List.getElem_mem _)
theorem getD_W {l : List Int} (h : ∀ y, y ∈ l → InW y) (i : Nat) (hi : i < l.length) : InW (l.getD i 0) := h _ (by rw [List.getD_eq_getElem?_getD, List.getElem?_eq_getElem hi]; exact List.getElem_mem _)
theorem apply_shape (p1 p2 pg : Option Addr) (n1 c1 n2 c2 ng cg : Nat) (many ss kk bb : Int) (w : World) (hne : ¬ (n1 = n2 ∧ n1 = ng)) :
    Calls Try.prog 12 #[.agg #[.slice p1 n1 c1, .slice p2 n2 c2], .slice pg ng cg, .int .i64 many, .agg #[.int .i64 ss, .int .i64 kk, .int .i64 bb]] w fun e w' => ∃ v, e = .returned (.tuple #[v, .int .i64 4]) ∧ SRes w' v [] [] ∧ Below w.heap.size w w' := by
  by_cases e1 : n1 = n2
  case pos =>
    subst e1
    have e2 : n1 ≠ ng := fun h => hne ⟨rfl, h⟩
    have e2' : ((n1 : Int) != (ng : Int)) = true := by simpa using (show (n1 : Int) ≠ (ng : Int) by omega)
    clear hne
    go_enter Try.func12, Try.ntmps12
    go_wp2
    exact bodyPost_ret (v := .tuple #[.agg #[.slice none 0 0, .slice none 0 0], .int .i64 4]) (by simp [results, Try.results12, go_sem]) rfl ⟨_, rfl, ⟨_, _, _, _, _, _, rfl, OwnK.nil _ _ _ _, OwnK.nil _ _ _ _⟩, by go_grown⟩
  case neg =>
    have e1' : ((n1 : Int) != (n2 : Int)) = true := by simpa using (show (n1 : Int) ≠ (n2 : Int) by omega)
    clear hne
    go_enter Try.func12, Try.ntmps12
    go_wp2
    exact bodyPost_ret (v := .tuple #[.agg #[.slice none 0 0, .slice none 0 0], .int .i64 4]) (by simp [results, Try.results12, go_sem]) rfl ⟨_, rfl, ⟨_, _, _, _, _, _, rfl, OwnK.nil _ _ _ _, OwnK.nil _ _ _ _⟩, by go_grown⟩
theorem apply_arg (p1 p2 pg : Option Addr) (n c1 c2 cg : Nat) (many ss kk bb : Int) (w : World) (hbad : many < 1 ∨ bb < 0) :
    Calls Try.prog 12 #[.agg #[.slice p1 n c1, .slice p2 n c2], .slice pg n cg, .int .i64 many, .agg #[.int .i64 ss, .int .i64 kk, .int .i64 bb]] w fun e w' => ∃ v, e = .returned (.tuple #[v, .int .i64 1]) ∧ SRes w' v [] [] ∧ Below w.heap.size w w' := by
  by_cases e1 : many < 1
  case pos =>
    clear hbad
    go_enter Try.func12, Try.ntmps12
    go_wp2
    exact bodyPost_ret (v := .tuple #[.agg #[.slice none 0 0, .slice none 0 0], .int .i64 1]) (by simp [results, Try.results12, go_sem]) rfl ⟨_, rfl, ⟨_, _, _, _, _, _, rfl, OwnK.nil _ _ _ _, OwnK.nil _ _ _ _⟩, by go_grown⟩
  case neg =>
    have e2 : bb < 0 := by omega
    have e1' : 1 ≤ many := by omega
    clear hbad e1
    go_enter Try.func12, Try.ntmps12
    go_wp2
    exact bodyPost_ret (v := .tuple #[.agg #[.slice none 0 0, .slice none 0 0], .int .i64 1]) (by simp [results, Try.results12, go_sem]) rfl ⟨_, rfl, ⟨_, _, _, _, _, _, rfl, OwnK.nil _ _ _ _, OwnK.nil _ _ _ _⟩, by go_grown⟩
theorem apply_ok (p1 p2 pg : Option Addr) (n c1 c2 cg : Nat) (P M G : List Int) (many ss kk bb : Int) (hn : n ≤ 1048576) (hP : RI P) (hM : RI M) (hm : InR many) (hs : InR ss) (hk : InR kk) (hb : InR bb) (m1 : 1 ≤ many) (b0 : 0 ≤ bb) (lP : P.length = n) (lM : M.length = n) (w : World)
    (h1 : Nums .i64 w (.slice p1 n c1) P) (h2 : Nums .i64 w (.slice p2 n c2) M) (h3 : WdR w pg n G) :
    Calls Try.prog 12 #[.agg #[.slice p1 n c1, .slice p2 n c2], .slice pg n cg, .int .i64 many, .agg #[.int .i64 ss, .int .i64 kk, .int .i64 bb]] w fun e w' => ∃ v, e = .returned (.tuple #[v, .int .i64 0]) ∧ SRes w' v (opP P M G many ss bb kk) (opM M G many bb kk) ∧ Below w.heap.size w w' := by
  haveI : Nonempty World := ⟨w⟩
  obtain ⟨P', eP⟩ : ∃ P', opP P M G many ss bb kk = P' := ⟨_, rfl⟩
  obtain ⟨M', eM⟩ : ∃ M', opM M G many bb kk = M' := ⟨_, rfl⟩
  rw [eP, eM]
  obtain ⟨_, _, _, q1, HP⟩ := h1.lst
  cases q1
  obtain ⟨_, _, _, q2, HM⟩ := h2.lst
  cases q2
  have HG : Hid (WdR w pg n G) := h3
  have HK : Hid (RI P ∧ RI M ∧ InR many ∧ InR ss ∧ InR kk ∧ InR bb ∧ P'.length = n ∧ M'.length = n ∧ (∀ i, i < n → P'.getD i 0 = pS ss (P.getD i 0) (mS kk (M.getD i 0) (opD G many bb i))) ∧ (∀ i, i < n → M'.getD i 0 = mS kk (M.getD i 0) (opD G many bb i)) ∧ n ≤ 1048576) :=
    ⟨hP, hM, hm, hs, hk, hb, by rw [← eP, opP_len, h3.1], by rw [← eM, opM_len, h3.1], fun i hi => by rw [← eP, opP_at _ _ _ _ _ _ _ _ (by rw [h3.1]; exact hi)], fun i hi => by rw [← eM, opM_at _ _ _ _ _ _ (by rw [h3.1]; exact hi)], hn⟩
  clear eP eM h1 h2 h3 hP hM hm hs hk hb hn lP lM
  go_enter Try.func12, Try.ntmps12
  go_wp2_with fail
  generalize hW0 : World.alloc _ _ = W0
  have HB0 := hidB (w := w) hW0 (by go_grown)
  have XA : Hid (Cel W0 w.heap.size (.slice p1 n c1) (.slice p2 n c2)) := celW hW0 (by simp [go_sem])
  have XB : Hid (Cel3 W0 (w.heap.size + 1) ss kk bb) := celX hW0 (by simp [go_sem])
  have XR : Hid (Cel W0 (w.heap.size + 1 + 1) (.slice none 0 0) (.slice none 0 0)) := celW hW0 (by simp [go_sem])
  clear hW0
  refine (ofsize_any n HK.out.2.2.2.2.2.2.2.2.2.2 W0).mono ?_
  rintro e w1 ⟨g, g', rfl, hB1, hne, ho, ho'⟩
  go_wp2_with fail
  generalize hW5 : World.alloc _ _ = W5
  obtain ⟨b5, hb5⟩ : ∃ b5, w1.heap.size = b5 := ⟨_, rfl⟩
  have B5 : Below w1.heap.size w1 W5 := by rw [← hW5]; exact up_alloc w1 _
  have XT : Hid (Cel W5 b5 (.slice (some ⟨g, 0, none⟩) n n) (.slice (some ⟨g', 0, none⟩) n n)) := by
    show Cel _ _ _ _
    unfold Cel
    rw [← hW5, ← hb5]
    simp [go_sem]
  have kg := ho.size
  have kg' := ho'.size
  have kb := ho.block g rfl
  have kb' := ho'.block g' rfl
  have kr := cell_lt XR.out.1
  have HX5 : Hid (Cel W5 w.heap.size (.slice p1 n c1) (.slice p2 n c2) ∧ Cel3 W5 (w.heap.size + 1) ss kk bb ∧ Cel W5 (w.heap.size + 1 + 1) (.slice none 0 0) (.slice none 0 0)) := ⟨XA.out.up (bstep hB1 B5), XB.out.up (bstep hB1 B5), XR.out.up (bstep hB1 B5)⟩
  have HB5 : Hid (Below w.heap.size w W5) := bstep HB0.out (bstep hB1 B5)
  have HO5 : Hid (OwnK .i64 27 W5 W0.heap.size (.slice (some ⟨g, 0, none⟩) n n) (rowF P' 0) ∧ OwnK .i64 27 W5 W0.heap.size (.slice (some ⟨g', 0, none⟩) n n) (rowF M' 0)) := by
    show _ ∧ _
    rw [rowF_zero, rowF_zero, HK.out.2.2.2.2.2.2.1, HK.out.2.2.2.2.2.2.2.1]
    exact ⟨ho.up B5, ho'.up B5⟩
  have Hg : Hid (W0.heap.size ≤ g ∧ w.heap.size + 1 + 1 < W0.heap.size ∧ g ≠ g' ∧ W0.heap.size ≤ g' ∧ g < b5 ∧ g' < b5) := ⟨kb, kr, hne, kb', by omega, by omega⟩
  rw [hb5]
  clear hW5 B5 hb5 ho ho' hne hB1 kg kg' kb kb' kr
  go_loopg [42] n (fun gg i wr => ∃ (k : Nat), k ≤ n ∧ gg = n - k ∧ i = .int .i64 (k : Int) ∧ Hid (OwnK .i64 27 wr W0.heap.size (.slice (some ⟨g, 0, none⟩) n n) (rowF P' k) ∧ OwnK .i64 27 wr W0.heap.size (.slice (some ⟨g', 0, none⟩) n n) (rowF M' k)) ∧ Hid (Below w.heap.size w wr ∧ But2 g g' W5 wr))
  case atStart => exact ⟨0, by omega, by omega, by first | rfl | simp, HO5, HB5.out, But2.refl _ _ _⟩
  case round =>
    obtain ⟨k, hk, hgg, rfl, HR, HB⟩ := hrel
    obtain ⟨R1, eR1⟩ : ∃ R1 : World, R1 = wr := ⟨_, rfl⟩
    subst eR1
    have n0 : b5 ≠ g ∧ b5 ≠ g' ∧ w.heap.size ≠ g ∧ w.heap.size ≠ g' ∧ w.heap.size + 1 ≠ g ∧ w.heap.size + 1 ≠ g' ∧ w.heap.size + 1 + 1 ≠ g ∧ w.heap.size + 1 + 1 ≠ g' := by have := Hg.out; omega
    have HXR : Hid (Cel R1 w.heap.size (.slice p1 n c1) (.slice p2 n c2) ∧ Cel3 R1 (w.heap.size + 1) ss kk bb ∧ Cel R1 (w.heap.size + 1 + 1) (.slice none 0 0) (.slice none 0 0) ∧ Cel R1 b5 (.slice (some ⟨g, 0, none⟩) n n) (.slice (some ⟨g', 0, none⟩) n n)) := ⟨HX5.out.1.but HB.out.2 n0.2.2.1 n0.2.2.2.1, HX5.out.2.1.but HB.out.2 n0.2.2.2.2.1 n0.2.2.2.2.2.1, HX5.out.2.2.but HB.out.2 n0.2.2.2.2.2.2.1 n0.2.2.2.2.2.2.2, XT.out.but HB.out.2 n0.1 n0.2.1⟩
    by_cases hkn : k < n
    · have hk' : (k : Int) < (n : Int) := by omega
      obtain ⟨qP, oP, rfl, cP0⟩ := HP.out.2 k hkn
      obtain ⟨qM, oM, rfl, cM0⟩ := HM.out.2 k hkn
      obtain ⟨qG, oG, rfl, cG0, cG1⟩ := HG.out.2.2 k hkn
      obtain ⟨A, eA⟩ : ∃ x, G.getD k 0 = x := ⟨_, rfl⟩
      obtain ⟨a1, e1⟩ : ∃ x, A / 18446744073709551616 = x := ⟨_, rfl⟩
      obtain ⟨a2, e2⟩ : ∃ x, A % 18446744073709551616 = x := ⟨_, rfl⟩
      obtain ⟨D0, e3⟩ : ∃ x, ovI A many = x := ⟨_, rfl⟩
      obtain ⟨D, e4⟩ : ∃ x, bnd bb D0 = x := ⟨_, rfl⟩
      obtain ⟨X, e5⟩ : ∃ x, M.getD k 0 = x := ⟨_, rfl⟩
      obtain ⟨KX, e6⟩ : ∃ x, mulI kk X = x := ⟨_, rfl⟩
      obtain ⟨MM, e7⟩ : ∃ x, hold (KX + D) = x := ⟨_, rfl⟩
      obtain ⟨Y, e8⟩ : ∃ x, P.getD k 0 = x := ⟨_, rfl⟩
      obtain ⟨SM, e9⟩ : ∃ x, mulI ss MM = x := ⟨_, rfl⟩
      obtain ⟨PP, e0⟩ : ∃ x, hold (Y - SM) = x := ⟨_, rfl⟩
      have hD : opD G many bb k = D := by unfold opD; rw [eA, e3, e4]
      have HV : Hid (P'.getD k 0 = PP ∧ M'.getD k 0 = MM) := ⟨by rw [HK.out.2.2.2.2.2.2.2.2.1 k hkn, hD, e5, e8]; unfold mS pS; rw [e6, e7, e9, e0], by rw [HK.out.2.2.2.2.2.2.2.2.2.1 k hkn, hD, e5]; unfold mS; rw [e6, e7]⟩
      have rA : InW A := by rw [← eA]; exact getD_W HG.out.2.1 k (by rw [HG.out.1]; exact hkn)
      have rX : InR X := by rw [← e5]; exact getD_R HK.out.2.1 k (by rw [HM.out.1]; exact hkn)
      have rY : InR Y := by rw [← e8]; exact getD_R HK.out.1 k (by rw [HP.out.1]; exact hkn)
      have rD0 : InR D0 := by rw [← e3]; exact ovI_R _ _
      have rD : InR D := by rw [← e4]; exact bnd_R HK.out.2.2.2.2.2.1 rD0
      have rKX : InR KX := by rw [← e6]; exact hold_rng _
      have rMM : InR MM := by rw [← e7]; exact hold_rng _
      have rSM : InR SM := by rw [← e9]; exact hold_rng _
      have cO := over_at e1 e2 rA HK.out.2.2.1 e3
      have cW := within_at rD0 HK.out.2.2.2.2.2.1 b0 e4
      have cM1 := mul_st HK.out.2.2.2.2.1 rX e6
      have cA1 := add_st rKX rD e7
      have cM2 := mul_st HK.out.2.2.2.1 rMM e9
      have cS1 := sub_st rY rSM e0
      rw [eA, e1] at cG0
      rw [eA, e2] at cG1
      rw [e5] at cM0
      rw [e8] at cP0
      have HC : Hid (w.cell? ⟨qP, oP + k, none⟩ = some (.int .i64 Y) ∧ w.cell? ⟨qM, oM + k, none⟩ = some (.int .i64 X)) := ⟨cP0, cM0⟩
      have HN0 : Hid (b5 ≠ g ∧ b5 ≠ g' ∧ w.heap.size ≠ g ∧ w.heap.size ≠ g' ∧ w.heap.size + 1 ≠ g ∧ w.heap.size + 1 ≠ g' ∧ w.heap.size + 1 + 1 ≠ g ∧ w.heap.size + 1 + 1 ≠ g') := n0
      have g0 := cell_low cG0 HB.out.1
      have g1 := cell_low cG1 HB.out.1
      have zg := cell_lt g0
      obtain ⟨x0, x1, x2⟩ := HXR.out.2.1
      have zx := cell_lt x2
      clear eA e1 e2 e3 e4 e5 e6 e7 e8 e9 e0 hD rA rX rY rD0 rD rKX rMM rSM cG0 cG1 cM0 cP0 n0
      go_wp2_with fail
      refine flow 9 88 (by kernel_rfl) rfl rfl (by kernel_rfl) ?_
      apply Exists.intro
      refine ⟨?_, ?_⟩
      · intro F hF
        have hFc := hF.cell
        have hFf := hF.frozen
        simp only [List.take_succ_cons, List.take_zero, List.eraseIdx_cons_succ, List.eraseIdx_cons_zero]
        repeat (go_big_quiet_step (first | with_reducible exact hF.call (cO.out _) | with_reducible exact hF.call (cW.out _)))
        refine wpQuiet_nil ?_
        exact rfl
      · intro W1 hb1
        simp only [List.drop_succ_cons, List.drop_zero]
        have HB1 := hid2 hb1 hb1
        obtain ⟨mP, mM⟩ := HC.out
        have y1 := cell_low mM (bstep HB.out.1 hb1)
        have zy := cell_lt y1
        obtain ⟨a0, a1_, _, _⟩ := HXR.out.1.up hb1
        have za := cell_lt a0
        obtain ⟨t0, t1, _, _⟩ := HXR.out.2.2.2.up hb1
        have zt := cell_lt t0
        have x0' := cell_low x0 hb1
        have x1' := cell_low x1 hb1
        have x2' := cell_low x2 hb1
        have zx' := cell_lt x0'
        clear g0 g1 zg x0 x1 x2 zx hb1 mP mM
        go_wp2_with fail
        refine flow 14 88 (by kernel_rfl) rfl rfl (by kernel_rfl) ?_
        apply Exists.intro
        refine ⟨?_, ?_⟩
        · intro F hF
          have hFc := hF.cell
          have hFf := hF.frozen
          simp only [List.take_succ_cons, List.take_zero, List.eraseIdx_cons_succ, List.eraseIdx_cons_zero]
          repeat (go_big_quiet_step (first | with_reducible exact hF.call (cM1.out _) | with_reducible exact hF.call (cA1.out _)))
          refine wpQuiet_nil ?_
          exact rfl
        · intro W2 hb2
          simp only [List.drop_succ_cons, List.drop_zero]
          have hb12 := bstep HB1.out.1 hb2
          obtain ⟨hown, hfz⟩ := (HR.out.2.up hb12).cell (by rw [rowF_len]; exact HK.out.2.2.2.2.2.2.2.1) k hkn
          have h5 := (HR.out.2.up hb12).store (by rw [rowF_len]; exact HK.out.2.2.2.2.2.2.2.1) k MM
          have e5 := rowF_set M' k (by rw [HK.out.2.2.2.2.2.2.2.1]; exact hkn)
          rw [HV.out.2] at e5
          rw [e5] at h5
          have h6 := (HR.out.1.up hb12).stay ((Stay.refl g' W2).set k (.int .i64 MM)) (off_at Hg.out.2.2.1)
          have hm := set_same (x := .int .i64 MM) hown
          have h7 := (bstep HB.out.1 hb12).setCell (p := ⟨g', k, none⟩) (show w.heap.size ≤ g' by have := Hg.out; have := HB0.out.size; omega) (.int .i64 MM)
          have h8 := (HB.out.2.up hb12).set (b := g') (o := k) (v := .int .i64 MM) (.inr rfl)
          obtain ⟨R3, eR3⟩ : ∃ R3, W2.setCell ⟨g', k, none⟩ (.int .i64 MM) = R3 := ⟨_, rfl⟩
          rw [eR3] at h5 h6 hm h7 h8
          have H3 : Hid (OwnK .i64 27 R3 W0.heap.size (.slice (some ⟨g, 0, none⟩) n n) (rowF P' k) ∧ OwnK .i64 27 R3 W0.heap.size (.slice (some ⟨g', 0, none⟩) n n) (rowF M' (k + 1)) ∧ Below w.heap.size w R3 ∧ But2 g g' W5 R3 ∧ R3.cell? ⟨g', k, none⟩ = some (.int .i64 MM)) := ⟨h6, h5, h7, h8, hm⟩
          clear h5 h6 h7 h8 hm e5 hb12 hb2 y1 zy a0 a1_ za t0 t1 zt x0' x1' x2' zx' cO cW cM1 cA1
          go_wp2_with fail
          have hm := H3.out.2.2.2.2
          have zm := cell_lt hm
          obtain ⟨mP, mM⟩ := HC.out
          have y1 := cell_low mP H3.out.2.2.1
          have zy := cell_lt y1
          obtain ⟨a0, a1_, _, _⟩ := HX5.out.1.but H3.out.2.2.2.1 HN0.out.2.2.1 HN0.out.2.2.2.1
          have za := cell_lt a0
          obtain ⟨t0, t1, _, _⟩ := XT.out.but H3.out.2.2.2.1 HN0.out.1 HN0.out.2.1
          have zt := cell_lt t0
          obtain ⟨x0, x1, x2⟩ := HX5.out.2.1.but H3.out.2.2.2.1 HN0.out.2.2.2.2.1 HN0.out.2.2.2.2.2.1
          have zx := cell_lt x0
          clear mP mM hown hfz
          refine flow 18 88 (by kernel_rfl) rfl rfl (by kernel_rfl) ?_
          apply Exists.intro
          refine ⟨?_, ?_⟩
          · intro F hF
            have hFc := hF.cell
            have hFf := hF.frozen
            simp only [List.take_succ_cons, List.take_zero, List.eraseIdx_cons_succ, List.eraseIdx_cons_zero]
            repeat (go_big_quiet_step (first | with_reducible exact hF.call (cM2.out _) | with_reducible exact hF.call (cS1.out _)))
            refine wpQuiet_nil ?_
            exact rfl
          · intro W4 hb4
            simp only [List.drop_succ_cons, List.drop_zero]
            obtain ⟨hown, hfz⟩ := (H3.out.1.up hb4).cell (by rw [rowF_len]; exact HK.out.2.2.2.2.2.2.1) k hkn
            have h5 := (H3.out.1.up hb4).store (by rw [rowF_len]; exact HK.out.2.2.2.2.2.2.1) k PP
            have e5 := rowF_set P' k (by rw [HK.out.2.2.2.2.2.2.1]; exact hkn)
            rw [HV.out.1] at e5
            rw [e5] at h5
            have h6 := (H3.out.2.1.up hb4).stay ((Stay.refl g W4).set k (.int .i64 PP)) (off_at (Ne.symm Hg.out.2.2.1))
            have h7 := (bstep H3.out.2.2.1 hb4).setCell (p := ⟨g, k, none⟩) (show w.heap.size ≤ g by have := Hg.out; have := HB0.out.size; omega) (.int .i64 PP)
            have h8 := (H3.out.2.2.2.1.up hb4).set (b := g) (o := k) (v := .int .i64 PP) (.inl rfl)
            have H9 : Hid ((OwnK .i64 27 (W4.setCell ⟨g, k, none⟩ (.int .i64 PP)) W0.heap.size (.slice (some ⟨g, 0, none⟩) n n) (rowF P' (k + 1)) ∧ OwnK .i64 27 (W4.setCell ⟨g, k, none⟩ (.int .i64 PP)) W0.heap.size (.slice (some ⟨g', 0, none⟩) n n) (rowF M' (k + 1))) ∧ Below w.heap.size w (W4.setCell ⟨g, k, none⟩ (.int .i64 PP)) ∧ But2 g g' W5 (W4.setCell ⟨g, k, none⟩ (.int .i64 PP))) := ⟨⟨h5, h6⟩, h7, h8⟩
            clear h5 h6 h7 h8 e5 hb4 y1 zy a0 a1_ za t0 t1 zt x0 x1 x2 zx hm zm cM2 cS1
            have hn2 : (n : Int) ≤ 1048576 := by have := HK.out.2.2.2.2.2.2.2.2.2.2; omega
            go_wp2
            go_roundg (n - (k + 1))
            case measure => omega
            case rel => exact ⟨k + 1, by omega, rfl, by first | rfl | simp, H9.out.1, H9.out.2⟩
    · obtain rfl : k = n := by omega
      have hP := HR.out.1
      have hM := HR.out.2
      have fP := rowF_full P'
      have fM := rowF_full M'
      rw [HK.out.2.2.2.2.2.2.1] at fP
      rw [HK.out.2.2.2.2.2.2.2.1] at fM
      rw [fP] at hP
      rw [fM] at hM
      have HF : Hid (SRes (set2 R1 (w.heap.size + 1 + 1) (.slice (some ⟨g, 0, none⟩) k k) (.slice (some ⟨g', 0, none⟩) k k)) (.agg #[.slice (some ⟨g, 0, none⟩) k k, .slice (some ⟨g', 0, none⟩) k k]) P' M' ∧ Below w.heap.size w (set2 R1 (w.heap.size + 1 + 1) (.slice (some ⟨g, 0, none⟩) k k) (.slice (some ⟨g', 0, none⟩) k k))) := by
        have s2 := Stay.set2 (g := w.heap.size + 1 + 1) R1 (.slice (some ⟨g, 0, none⟩) k k) (.slice (some ⟨g', 0, none⟩) k k)
        exact ⟨⟨_, _, _, _, _, _, rfl, (hP.stay s2 (off_at (Ne.symm n0.2.2.2.2.2.2.1))).low (Nat.zero_le _), (hM.stay s2 (off_at (Ne.symm n0.2.2.2.2.2.2.2))).low (Nat.zero_le _)⟩, below_cell HB.out.1 _ (by omega) _ _⟩
      have xr := HXR.out.2.2.1
      have cf := xr.set (.slice (some ⟨g, 0, none⟩) k k) (.slice (some ⟨g', 0, none⟩) k k)
      obtain ⟨r0, r1, r2, r3⟩ := xr
      obtain ⟨y0, y1, _, _⟩ := cf
      obtain ⟨t0, t1, _, _⟩ := HXR.out.2.2.2
      clear hP hM fP fM n0
      go_wp2
      exact bodyPost_ret (v := .tuple #[.agg #[.slice (some ⟨g, 0, none⟩) k k, .slice (some ⟨g', 0, none⟩) k k], .int .i64 0]) (by simp [results, Try.results12, go_sem, y0, y1]) rfl ⟨_, rfl, HF.out.1, HF.out.2⟩
end Go.Proofs.Ytknadgffflhlgaa.Wd
