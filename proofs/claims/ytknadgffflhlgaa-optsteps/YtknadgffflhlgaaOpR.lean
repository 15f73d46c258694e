/- The reference's step; what a trainer begins with; the law's own rate and same. -/
import Derived.Test.YtknadgffflhlgaaOpV
import Derived.Test.YtknadgffflhlgaaApt
import Derived.Test.YtknadgffflhlgaaSeg
import Derived.Test.YtknadgffflhlgaaTap
import Derived.Test.YtknadgffflhlgaaRefJ
import Derived.Test.YtknadgffflhlgaaWRefC
import Derived.Deep.CutBlock
namespace Go.Proofs.Ytknadgffflhlgaa.Wd
open Go.RowKit Fx
set_option linter.unusedVariables false
set_option linter.unusedSimpArgs false
set_option maxRecDepth 8000
set_option maxHeartbeats 8000000
theorem Cel.low {B b : Nat} {W W' : World} {s t : Value} (h : Cel W b s t) (hB : Below B W W') (hb : b < B) : Cel W' b s t := by
  have e := hB.block b hb
  unfold Cel World.cell? World.frozen? at *
  simp only [e]
  exact h
theorem Cel3.low {B b : Nat} {W W' : World} {x y z : Int} (h : Cel3 W b x y z) (hB : Below B W W') (hb : b < B) : Cel3 W' b x y z := by
  have e := hB.block b hb
  unfold Cel3 World.cell? at *
  simp only [e]
  exact h
/-- A row that grew in a drawn region. -/
def OwnP (e : TypeId) (B H : Nat) (r : Option Nat) (n : Nat) (l : List Int) (v : Value) (W : World) : Prop := ∃ g c, v = .slice (some ⟨g, 0, none⟩) n c ∧ OwnK .i64 e W B v l ∧ (r = some g ∨ H ≤ g)
theorem OwnP.up {e : TypeId} {B H : Nat} {r : Option Nat} {n : Nat} {l : List Int} {v : Value} {W W' : World} (h : OwnP e B H r n l v W) (hB : Below W.heap.size W W') : OwnP e B H r n l v W' := by
  obtain ⟨g, c, e1, h1, h2⟩ := h
  exact ⟨g, c, e1, h1.up hB, h2⟩
theorem rover_at {a1 a2 A m D : Int} (h1 : A / 18446744073709551616 = a1) (h2 : A % 18446744073709551616 = a2) (hA : InW A) (hm : InR m) (e : ovI A m = D) : Hid (∀ W, Calls Try.prog 26 #[.agg #[.int .i64 a1, .int .u64 a2], .int .i64 m] W fun e w' => e = .returned (.int .i64 D) ∧ Below W.heap.size W w') := fun W => by
  have := over_ref A m hA hm W
  unfold wd at this
  rw [h1, h2, e] at this
  exact this
theorem rapply_shape (p1 p2 pg : Option Addr) (n1 c1 n2 c2 ng cg : Nat) (many ss kk bb : Int) (w : World) (hne : ¬ (n1 = n2 ∧ n1 = ng)) :
    Calls Try.prog 13 #[.agg #[.slice p1 n1 c1, .slice p2 n2 c2], .slice pg ng cg, .int .i64 many, .agg #[.int .i64 ss, .int .i64 kk, .int .i64 bb]] w fun e w' => ∃ v, e = .returned (.tuple #[v, .int .i64 4]) ∧ SRes w' v [] [] ∧ Below w.heap.size w w' := by
  by_cases e1 : n1 = n2
  case pos =>
    subst e1
    have e2 : n1 ≠ ng := fun h => hne ⟨rfl, h⟩
    have e2' : ((n1 : Int) != (ng : Int)) = true := by simpa using (show (n1 : Int) ≠ (ng : Int) by omega)
    clear hne
    go_enter Try.func13, Try.ntmps13
    go_wp2
    exact bodyPost_ret (v := .tuple #[.agg #[.slice none 0 0, .slice none 0 0], .int .i64 4]) (by simp [results, Try.results13, go_sem]) rfl ⟨_, rfl, ⟨_, _, _, _, _, _, rfl, OwnK.nil _ _ _ _, OwnK.nil _ _ _ _⟩, by go_grown⟩
  case neg =>
    have e1' : ((n1 : Int) != (n2 : Int)) = true := by simpa using (show (n1 : Int) ≠ (n2 : Int) by omega)
    clear hne
    go_enter Try.func13, Try.ntmps13
    go_wp2
    exact bodyPost_ret (v := .tuple #[.agg #[.slice none 0 0, .slice none 0 0], .int .i64 4]) (by simp [results, Try.results13, go_sem]) rfl ⟨_, rfl, ⟨_, _, _, _, _, _, rfl, OwnK.nil _ _ _ _, OwnK.nil _ _ _ _⟩, by go_grown⟩
theorem rapply_arg (p1 p2 pg : Option Addr) (n c1 c2 cg : Nat) (many ss kk bb : Int) (w : World) (hbad : many < 1 ∨ bb < 0) :
    Calls Try.prog 13 #[.agg #[.slice p1 n c1, .slice p2 n c2], .slice pg n cg, .int .i64 many, .agg #[.int .i64 ss, .int .i64 kk, .int .i64 bb]] w fun e w' => ∃ v, e = .returned (.tuple #[v, .int .i64 1]) ∧ SRes w' v [] [] ∧ Below w.heap.size w w' := by
  by_cases e1 : many < 1
  case pos =>
    clear hbad
    go_enter Try.func13, Try.ntmps13
    go_wp2
    exact bodyPost_ret (v := .tuple #[.agg #[.slice none 0 0, .slice none 0 0], .int .i64 1]) (by simp [results, Try.results13, go_sem]) rfl ⟨_, rfl, ⟨_, _, _, _, _, _, rfl, OwnK.nil _ _ _ _, OwnK.nil _ _ _ _⟩, by go_grown⟩
  case neg =>
    have e2 : bb < 0 := by omega
    have e1' : 1 ≤ many := by omega
    clear hbad e1
    go_enter Try.func13, Try.ntmps13
    go_wp2
    exact bodyPost_ret (v := .tuple #[.agg #[.slice none 0 0, .slice none 0 0], .int .i64 1]) (by simp [results, Try.results13, go_sem]) rfl ⟨_, rfl, ⟨_, _, _, _, _, _, rfl, OwnK.nil _ _ _ _, OwnK.nil _ _ _ _⟩, by go_grown⟩
theorem rapply_ok (p1 p2 pg : Option Addr) (n c1 c2 cg : Nat) (P M G : List Int) (many ss kk bb : Int) (hn : n ≤ 1048576) (hP : RI P) (hM : RI M) (hm : InR many) (hs : InR ss) (hk : InR kk) (hb : InR bb) (m1 : 1 ≤ many) (b0 : 0 ≤ bb) (lP : P.length = n) (lM : M.length = n) (w : World)
    (h1 : Nums .i64 w (.slice p1 n c1) P) (h2 : Nums .i64 w (.slice p2 n c2) M) (h3 : WdR w pg n G) :
    Calls Try.prog 13 #[.agg #[.slice p1 n c1, .slice p2 n c2], .slice pg n cg, .int .i64 many, .agg #[.int .i64 ss, .int .i64 kk, .int .i64 bb]] w fun e w' => ∃ v, e = .returned (.tuple #[v, .int .i64 0]) ∧ SRes w' v (opP P M G many ss bb kk) (opM M G many bb kk) ∧ Below w.heap.size w w' := by
  haveI : Nonempty World := ⟨w⟩
  obtain ⟨P', eP⟩ : ∃ P', opP P M G many ss bb kk = P' := ⟨_, rfl⟩
  obtain ⟨M', eM⟩ : ∃ M', opM M G many bb kk = M' := ⟨_, rfl⟩
  rw [eP, eM]
  obtain ⟨_, _, _, q1, HP⟩ := h1.lst
  cases q1
  obtain ⟨_, _, _, q2, HM⟩ := h2.lst
  cases q2
  have HG : Hid (WdR w pg n G) := h3
  have HK : Hid (RI P ∧ RI M ∧ InR many ∧ InR ss ∧ InR kk ∧ InR bb ∧ P'.length = n ∧ M'.length = n ∧ (∀ i, i < n → P'.getD i 0 = pS ss (P.getD i 0) (mS kk (M.getD i 0) (opD G many bb i))) ∧ (∀ i, i < n → M'.getD i 0 = mS kk (M.getD i 0) (opD G many bb i)) ∧ n ≤ 1048576) :=
    ⟨hP, hM, hm, hs, hk, hb, by rw [← eP, opP_len, h3.1], by rw [← eM, opM_len, h3.1], fun i hi => by rw [← eP, opP_at _ _ _ _ _ _ _ _ (by rw [h3.1]; exact hi)], fun i hi => by rw [← eM, opM_at _ _ _ _ _ _ (by rw [h3.1]; exact hi)], hn⟩
  clear eP eM h1 h2 h3 hP hM hm hs hk hb lP lM
  go_enter Try.func13, Try.ntmps13
  go_wp2_with fail
  obtain ⟨b10, hb10⟩ : ∃ b, w.heap.size + 1 + 1 + 1 = b := ⟨_, rfl⟩
  generalize hW5 : World.alloc _ _ = W5
  have HX5 : Hid (Cel W5 w.heap.size (.slice p1 n c1) (.slice p2 n c2) ∧ Cel3 W5 (w.heap.size + 1) ss kk bb ∧ Cel W5 (w.heap.size + 1 + 1) (.slice none 0 0) (.slice none 0 0) ∧ Cel W5 b10 (.slice none 0 0) (.slice none 0 0) ∧ Below w.heap.size w W5 ∧ w.heap.size + 1 + 1 < b10 ∧ b10 + 1 ≤ W5.heap.size) := ⟨celW (V := _) hW5 (by simp [go_sem]), celX hW5 (by simp [go_sem]), celW hW5 (by simp [go_sem]), celW hW5 (by rw [← hb10]; simp [go_sem]), hidB hW5 (by go_grown), by omega, by rw [← hW5, ← hb10]; simp⟩
  (try rw [hb10])
  clear hW5 hb10
  go_loopg [11] n (fun gg i wr => ∃ (k : Nat) (vp vm : Value), k ≤ n ∧ gg = n - k ∧ i = .int .i64 (k : Int) ∧ Hid (OwnK .i64 27 wr (b10 + 1) vp (P'.take k) ∧ OwnK .i64 27 wr (b10 + 1) vm (M'.take k) ∧ Ap vp vm) ∧ Hid (Cel wr b10 vp vm) ∧ Hid (Below b10 W5 wr))
  case atStart => exact ⟨0, .slice none 0 0, .slice none 0 0, by omega, by omega, by first | rfl | simp, ⟨OwnK.nil _ _ _ _, OwnK.nil _ _ _ _, fun g h => by cases h.1⟩, HX5.out.2.2.2.1, ⟨rfl, rfl, rfl, Nat.le_refl _, fun _ _ => rfl⟩⟩
  case round =>
    obtain ⟨k, vp, vm, hk_, hgg, rfl, HR, HT, HB⟩ := hrel
    obtain ⟨R1, eR1⟩ : ∃ R1 : World, R1 = wr := ⟨_, rfl⟩
    subst eR1
    have HXR : Hid (Cel R1 w.heap.size (.slice p1 n c1) (.slice p2 n c2) ∧ Cel3 R1 (w.heap.size + 1) ss kk bb ∧ Cel R1 (w.heap.size + 1 + 1) (.slice none 0 0) (.slice none 0 0) ∧ Below w.heap.size w R1 ∧ b10 + 1 ≤ R1.heap.size) := by
      have h5 := HX5.out
      have hs := HB.out.size
      exact ⟨h5.1.low HB.out (by omega), h5.2.1.low HB.out (by omega), h5.2.2.1.low HB.out (by omega), h5.2.2.2.2.1.trans (HB.out.mono (by omega)), by omega⟩
    by_cases hkn : k < n
    · have hk' : (k : Int) < (n : Int) := by omega
      obtain ⟨qP, oP, rfl, cP0⟩ := HP.out.2 k hkn
      obtain ⟨qM, oM, rfl, cM0⟩ := HM.out.2 k hkn
      obtain ⟨qG, oG, rfl, cG0, cG1⟩ := HG.out.2.2 k hkn
      obtain ⟨A, eA⟩ : ∃ x, G.getD k 0 = x := ⟨_, rfl⟩
      obtain ⟨a1, e1⟩ : ∃ x, A / 18446744073709551616 = x := ⟨_, rfl⟩
      obtain ⟨a2, e2⟩ : ∃ x, A % 18446744073709551616 = x := ⟨_, rfl⟩
      obtain ⟨D0, e3⟩ : ∃ x, ovI A many = x := ⟨_, rfl⟩
      obtain ⟨D, e4⟩ : ∃ x, bnd bb D0 = x := ⟨_, rfl⟩
      obtain ⟨X, e5⟩ : ∃ x, M.getD k 0 = x := ⟨_, rfl⟩
      obtain ⟨KX, e6⟩ : ∃ x, mulI kk X = x := ⟨_, rfl⟩
      obtain ⟨MM, e7⟩ : ∃ x, hold (KX + D) = x := ⟨_, rfl⟩
      obtain ⟨Y, e8⟩ : ∃ x, P.getD k 0 = x := ⟨_, rfl⟩
      obtain ⟨SM, e9⟩ : ∃ x, mulI ss MM = x := ⟨_, rfl⟩
      obtain ⟨PP, e0⟩ : ∃ x, hold (Y - SM) = x := ⟨_, rfl⟩
      have hD : opD G many bb k = D := by unfold opD; rw [eA, e3, e4]
      have hVP : P'.getD k 0 = PP := by rw [HK.out.2.2.2.2.2.2.2.2.1 k hkn, hD, e5, e8]; unfold mS pS; rw [e6, e7, e9, e0]
      have hVM : M'.getD k 0 = MM := by rw [HK.out.2.2.2.2.2.2.2.2.2.1 k hkn, hD, e5]; unfold mS; rw [e6, e7]
      have push : ∀ (l : List Int) (x : Int), l.length = n → l.getD k 0 = x → l.take (k + 1) = l.take k ++ [x] := fun l x h1 h2 => by
        rw [List.take_add_one, ← h2, List.getD_eq_getElem?_getD, List.getElem?_eq_getElem (by omega)]
        rfl
      have HLT : Hid (P'.take (k + 1) = P'.take k ++ [PP] ∧ M'.take (k + 1) = M'.take k ++ [MM]) := ⟨push _ _ HK.out.2.2.2.2.2.2.1 hVP, push _ _ HK.out.2.2.2.2.2.2.2.1 hVM⟩
      have HLK : Hid ((P'.take k).length + 1 ≤ 1073741824 ∧ (M'.take k).length + 1 ≤ 1073741824 ∧ (P'.take k).length = k) := by
        have h1 := HK.out.2.2.2.2.2.2
        refine ⟨?_, ?_, ?_⟩ <;> rw [List.length_take] <;> omega
      have rA : InW A := by rw [← eA]; exact getD_W HG.out.2.1 k (by rw [HG.out.1]; exact hkn)
      have rX : InR X := by rw [← e5]; exact getD_R HK.out.2.1 k (by rw [HM.out.1]; exact hkn)
      have rY : InR Y := by rw [← e8]; exact getD_R HK.out.1 k (by rw [HP.out.1]; exact hkn)
      have rD0 : InR D0 := by rw [← e3]; exact ovI_R _ _
      have rD : InR D := by rw [← e4]; exact bnd_R HK.out.2.2.2.2.2.1 rD0
      have rKX : InR KX := by rw [← e6]; exact hold_rng _
      have rMM : InR MM := by rw [← e7]; exact hold_rng _
      have rSM : InR SM := by rw [← e9]; exact hold_rng _
      have cO := rover_at e1 e2 rA HK.out.2.2.1 e3
      have cM1 : Hid (∀ W, Calls Try.prog 28 #[.int .i64 kk, .int .i64 X] W fun e w' => e = .returned (.int .i64 KX) ∧ Below W.heap.size W w') := fun W => Rf.mul_ref kk X HK.out.2.2.2.2.1 rX KX e6 W
      have cA1 : Hid (∀ W, Calls Try.prog 27 #[.int .i64 KX, .int .i64 D] W fun e w' => e = .returned (.int .i64 MM) ∧ Below W.heap.size W w') := fun W => Rf.add_ref KX D rKX rD MM e7 W
      have cM2 : Hid (∀ W, Calls Try.prog 28 #[.int .i64 ss, .int .i64 MM] W fun e w' => e = .returned (.int .i64 SM) ∧ Below W.heap.size W w') := fun W => Rf.mul_ref ss MM HK.out.2.2.2.1 rMM SM e9 W
      have cS1 : Hid (∀ W, Calls Try.prog 18 #[.int .i64 Y, .int .i64 SM] W fun e w' => e = .returned (.int .i64 PP) ∧ Below W.heap.size W w') := fun W => Rf.sub_ref Y SM rY rSM PP e0 W
      have ways : (0 < bb ∧ bb < D0 ∧ D = bb) ∨ (0 < bb ∧ D0 < -bb ∧ D = -bb) ∨ (¬ 0 < bb ∧ D = D0) ∨ (0 < bb ∧ -bb ≤ D0 ∧ D0 ≤ bb ∧ D = D0) := by
        unfold bnd at e4
        split at e4
        · omega
        · split at e4 <;> omega
      rw [eA, e1] at cG0
      rw [eA, e2] at cG1
      rw [e5] at cM0
      rw [e8] at cP0
      have HC : Hid (w.cell? ⟨qP, oP + k, none⟩ = some (.int .i64 Y) ∧ w.cell? ⟨qM, oM + k, none⟩ = some (.int .i64 X)) := ⟨cP0, cM0⟩
      have kP := cell_lt cP0
      have g0 := cell_low cG0 HXR.out.2.2.2.1
      have g1 := cell_low cG1 HXR.out.2.2.2.1
      have zg := cell_lt g0
      have hx5 := HX5.out.2.2.2.2.2.1
      clear eA e1 e2 e3 e4 e5 e6 e7 e8 e9 e0 hD hVP hVM push rA rX rY rD0 rD rKX rMM rSM cG0 cG1 cM0 cP0
      go_wp2_with fail
      refine (cO.out R1).mono ?_
      rintro e w2 ⟨rfl, hb2⟩
      have H2 : Hid (b10 + 1 ≤ R1.heap.size ∧ Below R1.heap.size R1 w2) := ⟨HXR.out.2.2.2.2, hb2⟩
      obtain ⟨x0, x1, x2⟩ := HXR.out.2.1.up hb2
      have zx := cell_lt x0
      obtain ⟨a0, a1, _, _⟩ := HXR.out.1.up hb2
      have za := cell_lt a0
      have y1 := cell_low HC.out.2 (bstep HXR.out.2.2.2.1 hb2)
      have zy := cell_lt y1
      clear g0 g1 zg hb2 cO HXR
      have rb : bb ≤ 9223372036854775807 := HK.out.2.2.2.2.2.1.2
      rcases ways with ⟨v1, v2, rfl⟩ | ⟨v1, v2, rfl⟩ | ⟨v1, rfl⟩ | ⟨v1, v2, v3, rfl⟩
      · have v3 : ¬ D < -D := by omega
        go_wp2_with fail
        refine flow 10 107 (by kernel_rfl) rfl rfl (by kernel_rfl) ?_
        apply Exists.intro
        refine ⟨?_, ?_⟩
        · intro F hF
          have hFc := hF.cell
          have hFf := hF.frozen
          simp only [List.take_succ_cons, List.take_zero, List.eraseIdx_cons_succ, List.eraseIdx_cons_zero]
          repeat (go_big_quiet_step (first | with_reducible exact hF.call (cM1.out _) | with_reducible exact hF.call (cA1.out _)))
          refine wpQuiet_nil ?_
          exact rfl
        · intro W1 hb1
          simp only [List.drop_succ_cons, List.drop_zero]
          have hb12 := bstep H2.out.2 hb1
          obtain ⟨t0, t1, t2, t3⟩ := HT.out.up hb12
          have hU := up_alloc W1 (.cells #[.int .i64 MM] 27)
          have H5 : Hid (OwnK .i64 27 (W1.alloc (.cells #[.int .i64 MM] 27)) (b10 + 1) vm (M'.take k) ∧ OwnK .i64 27 (W1.alloc (.cells #[.int .i64 MM] 27)) (b10 + 1) vp (P'.take k) ∧ Ap vm vp ∧ Cel (W1.alloc (.cells #[.int .i64 MM] 27)) b10 vp vm ∧ Nums .i64 (W1.alloc (.cells #[.int .i64 MM] 27)) (.slice (some ⟨W1.heap.size, 0, none⟩) 1 1) [MM] ∧ Below b10 W5 (W1.alloc (.cells #[.int .i64 MM] 27)) ∧ b10 + 1 ≤ (W1.alloc (.cells #[.int .i64 MM] 27)).heap.size) := ⟨(HR.out.2.1.up hb12).up hU, (HR.out.1.up hb12).up hU, HR.out.2.2.symm, (HT.out.up hb12).up hU, nums_lit (k := .i64) W1 [MM] 1 (0, 0) rfl, HB.out.trans ((bstep hb12 hU).mono (Nat.le_of_succ_le H2.out.1)), Nat.le_trans HX5.out.2.2.2.2.2.2 (HB.out.trans ((bstep hb12 hU).mono (Nat.le_of_succ_le H2.out.1))).size⟩
          have kt := cell_lt t0
          clear hb1 hb12 hU a0 a1 x0 x1 x2 y1 zy za zx cM1 cA1 HR HB HT H2
          go_wp2_with (at_builtin; refine wpList_append_apart fixT (by decide) rfl (.tmp 86) (.tmp 88) rfl (b10 + 1) _ (M'.take k) rfl H5.out.1 _ MM _ rfl H5.out.2.2.2.2.1 HLK.out.2.1 H5.out.2.2.2.2.2.2 _ (Below.refl _ _) _ _ H5.out.2.1 H5.out.2.2.1 ?_; intro vm2 w6 H6 hB6; have hs6 := hB6.size; obtain ⟨pm, nm, cm, rfl, _⟩ := H6.out.1.nums.lst; have z6 := H5.out.2.2.2.1.low hB6 (Nat.lt_succ_self _); have HB6 := hid2 hB6 hB6; clear hB6; obtain ⟨z0, z1, z2, z3⟩ := z6)
          have s3 := (Stay.refl b10 w6).set 1 (.slice pm nm cm)
          have m3 := H6.out.1.stay s3 (H6.out.1.off (Nat.lt_succ_self _))
          have p3 := H6.out.2.1.stay s3 (H6.out.2.1.off (Nat.lt_succ_self _))
          have c3 : Cel (w6.setCell ⟨b10, 1, none⟩ (.slice pm nm cm)) b10 vp (.slice pm nm cm) := ⟨by rw [set_off (by omega)]; exact z0, set_same z1, by simp [z2], by simp [z3]⟩
          have b3 := (H5.out.2.2.2.2.2.1.trans (HB6.out.1.mono (Nat.le_succ _))).setCell (p := ⟨b10, 1, none⟩) (Nat.le_refl _) (.slice pm nm cm)
          have i3 : b10 + 1 ≤ (w6.setCell ⟨b10, 1, none⟩ (.slice pm nm cm)).heap.size := by
            have := H5.out.2.2.2.2.2.2
            have e : (w6.setCell ⟨b10, 1, none⟩ (.slice pm nm cm)).heap.size = w6.heap.size := by simp
            omega
          generalize eR3 : w6.setCell ⟨b10, 1, none⟩ (.slice pm nm cm) = R3 at m3 p3 c3 b3 i3 ⊢
          obtain ⟨vm2, evm⟩ : ∃ v, Value.slice pm nm cm = v := ⟨_, rfl⟩
          rw [evm] at m3 c3
          have HRW : Hid (OwnK .i64 27 R3 (b10 + 1) vp (P'.take k) ∧ b10 + 1 ≤ R3.heap.size ∧ ∀ z, vp.ownBlock = some z → z < R3.heap.size) := ⟨p3, i3, fun z hz => p3.lt hz⟩
          have HQ : Hid (b10 + 1 ≤ R3.heap.size ∧ (∀ W, R3.grownBy W vp.ownBlock → Below (b10 + 1) R3 W) ∧ Cel R3 b10 vp vm2 ∧ OwnK .i64 27 R3 (b10 + 1) vm2 (M'.take k ++ [MM]) ∧ Ap vp vm2 ∧ Below b10 W5 R3) := ⟨i3, fun W hW => Below.grown (Below.refl _ _) hW i3 fun q hq => p3.block q hq, c3, m3, by have := H6.out.2.2.symm; rw [evm] at this; exact this, b3⟩
          obtain ⟨t0, t1, t2, t3⟩ := c3
          obtain ⟨a0, _, _, _⟩ := HX5.out.1.low b3 (by omega)
          obtain ⟨x0, _, _⟩ := HX5.out.2.1.low b3 (by omega)
          have y1 := (b3.cell (p := ⟨qP, oP + k, none⟩) (show qP < b10 by omega)).trans ((HX5.out.2.2.2.2.1.cell (p := ⟨qP, oP + k, none⟩) kP).trans HC.out.1)
          clear eR3 evm s3 m3 p3 b3 i3 H6 HB6 H5 z0 z1 z2 z3 hs6 kt
          refine from_region (by kernel_rfl) ?_
          refine seg (fun q W => match q with | false => Below R3.heap.size R3 W | true => R3.grownBy W vp.ownBlock) (fun W W' => W.grownBy W' vp.ownBlock) 13 [⟨12, 103, LitS 27 R3.heap.size [.int .i64 PP]⟩, ⟨13, 104, OwnP 27 (b10 + 1) R3.heap.size vp.ownBlock (k + 1) (P'.take k ++ [PP])⟩] 0 15 107 rfl rfl (by kernel_rfl) (by rfl) ?_ ?_ ?_ ?_ ?_ ?_
          · intro q W W' h hb
            cases q
            · exact bstep h hb
            · exact grown_up h hb
          · exact ⟨rfl, rfl, rfl, Nat.le_refl _, fun _ _ => rfl⟩
          · exact .inl ⟨_, List.mem_cons_of_mem _ List.mem_cons_self, rfl⟩
          · intro e he v W W' h hb
            simp only [List.mem_cons, List.not_mem_nil, or_false] at he
            rcases he with rfl | rfl
            · exact LitS.up h hb
            · exact OwnP.up h hb
          · intro e he hne v W W' h hc ht
            simp only [List.mem_cons, List.not_mem_nil, or_false] at he
            rcases he with rfl | rfl
            · exact LitS.grown h ht HRW.out.2.2
            · exact absurd rfl hne
          apply Exists.intro
          refine ⟨fun x => ?_, ?_, ?_⟩
          · simp only [List.drop_succ_cons, List.drop_zero, List.take_succ_cons, List.take_zero]
            refine segQuiet rfl rfl ?_
            apply Exists.intro
            refine ⟨fun b' F hF hf K hK => ?_, ?_⟩
            · have hFc := hF.cls
              have hall : ∀ d, Below (b10 + 1) R3 (F d) := fun d => by
                cases b'
                · exact (hFc d).mono HQ.out.1
                · exact HQ.out.2.1 _ (hFc d)
              have q0 : ∀ d, (F d).cell? ⟨b10, 0, none⟩ = some vp := fun d => ((hall d).cell (p := ⟨b10, 0, none⟩) (show b10 < b10 + 1 by omega)).trans t0
              have q1 : ∀ d, (F d).cell? ⟨w.heap.size, 0, none⟩ = some (.slice (some ⟨qP, oP, none⟩) n c1) := fun d => ((hall d).cell (p := ⟨w.heap.size, 0, none⟩) (show w.heap.size < b10 + 1 by omega)).trans a0
              have q2 : ∀ d, (F d).cell? ⟨qP, oP + k, none⟩ = some (.int .i64 Y) := fun d => ((hall d).cell (p := ⟨qP, oP + k, none⟩) (show qP < b10 + 1 by omega)).trans y1
              have q3 : ∀ d, (F d).cell? ⟨w.heap.size + 1, 0, none⟩ = some (.int .i64 ss) := fun d => ((hall d).cell (p := ⟨w.heap.size + 1, 0, none⟩) (show w.heap.size + 1 < b10 + 1 by omega)).trans x0
              clear hFc hall
              go_big_quiet_op
              first | exact hK | (apply Exists.intro; refine ⟨fun _ => ?_, ?_⟩; (· fail); exact hK)
            (try simp only [Act.put, List.setIfInBounds_toArray, List.set_cons_zero, List.set_cons_succ])
            refine segQuiet rfl rfl ?_
            apply Exists.intro
            refine ⟨fun b' F hF hf K hK => ?_, ?_⟩
            · have hFc := hF.cls
              have hall : ∀ d, Below (b10 + 1) R3 (F d) := fun d => by
                cases b'
                · exact (hFc d).mono HQ.out.1
                · exact HQ.out.2.1 _ (hFc d)
              have q0 : ∀ d, (F d).cell? ⟨b10, 0, none⟩ = some vp := fun d => ((hall d).cell (p := ⟨b10, 0, none⟩) (show b10 < b10 + 1 by omega)).trans t0
              have q1 : ∀ d, (F d).cell? ⟨w.heap.size, 0, none⟩ = some (.slice (some ⟨qP, oP, none⟩) n c1) := fun d => ((hall d).cell (p := ⟨w.heap.size, 0, none⟩) (show w.heap.size < b10 + 1 by omega)).trans a0
              have q2 : ∀ d, (F d).cell? ⟨qP, oP + k, none⟩ = some (.int .i64 Y) := fun d => ((hall d).cell (p := ⟨qP, oP + k, none⟩) (show qP < b10 + 1 by omega)).trans y1
              have q3 : ∀ d, (F d).cell? ⟨w.heap.size + 1, 0, none⟩ = some (.int .i64 ss) := fun d => ((hall d).cell (p := ⟨w.heap.size + 1, 0, none⟩) (show w.heap.size + 1 < b10 + 1 by omega)).trans x0
              clear hFc hall
              go_big_quiet_op
              first | exact hK | (apply Exists.intro; refine ⟨fun _ => ?_, ?_⟩; (· fail); exact hK)
            (try simp only [Act.put, List.setIfInBounds_toArray, List.set_cons_zero, List.set_cons_succ])
            refine segQuiet rfl rfl ?_
            apply Exists.intro
            refine ⟨fun b' F hF hf K hK => ?_, ?_⟩
            · have hFc := hF.cls
              have hall : ∀ d, Below (b10 + 1) R3 (F d) := fun d => by
                cases b'
                · exact (hFc d).mono HQ.out.1
                · exact HQ.out.2.1 _ (hFc d)
              have q0 : ∀ d, (F d).cell? ⟨b10, 0, none⟩ = some vp := fun d => ((hall d).cell (p := ⟨b10, 0, none⟩) (show b10 < b10 + 1 by omega)).trans t0
              have q1 : ∀ d, (F d).cell? ⟨w.heap.size, 0, none⟩ = some (.slice (some ⟨qP, oP, none⟩) n c1) := fun d => ((hall d).cell (p := ⟨w.heap.size, 0, none⟩) (show w.heap.size < b10 + 1 by omega)).trans a0
              have q2 : ∀ d, (F d).cell? ⟨qP, oP + k, none⟩ = some (.int .i64 Y) := fun d => ((hall d).cell (p := ⟨qP, oP + k, none⟩) (show qP < b10 + 1 by omega)).trans y1
              have q3 : ∀ d, (F d).cell? ⟨w.heap.size + 1, 0, none⟩ = some (.int .i64 ss) := fun d => ((hall d).cell (p := ⟨w.heap.size + 1, 0, none⟩) (show w.heap.size + 1 < b10 + 1 by omega)).trans x0
              clear hFc hall
              go_big_quiet_op
              first | exact hK | (apply Exists.intro; refine ⟨fun _ => ?_, ?_⟩; (· fail); exact hK)
            (try simp only [Act.put, List.setIfInBounds_toArray, List.set_cons_zero, List.set_cons_succ])
            refine segQuiet rfl rfl ?_
            apply Exists.intro
            refine ⟨fun b' F hF hf K hK => ?_, ?_⟩
            · have hFc := hF.cls
              have hall : ∀ d, Below (b10 + 1) R3 (F d) := fun d => by
                cases b'
                · exact (hFc d).mono HQ.out.1
                · exact HQ.out.2.1 _ (hFc d)
              have q0 : ∀ d, (F d).cell? ⟨b10, 0, none⟩ = some vp := fun d => ((hall d).cell (p := ⟨b10, 0, none⟩) (show b10 < b10 + 1 by omega)).trans t0
              have q1 : ∀ d, (F d).cell? ⟨w.heap.size, 0, none⟩ = some (.slice (some ⟨qP, oP, none⟩) n c1) := fun d => ((hall d).cell (p := ⟨w.heap.size, 0, none⟩) (show w.heap.size < b10 + 1 by omega)).trans a0
              have q2 : ∀ d, (F d).cell? ⟨qP, oP + k, none⟩ = some (.int .i64 Y) := fun d => ((hall d).cell (p := ⟨qP, oP + k, none⟩) (show qP < b10 + 1 by omega)).trans y1
              have q3 : ∀ d, (F d).cell? ⟨w.heap.size + 1, 0, none⟩ = some (.int .i64 ss) := fun d => ((hall d).cell (p := ⟨w.heap.size + 1, 0, none⟩) (show w.heap.size + 1 < b10 + 1 by omega)).trans x0
              clear hFc hall
              go_big_quiet_op
              first | exact hK | (apply Exists.intro; refine ⟨fun _ => ?_, ?_⟩; (· fail); exact hK)
            (try simp only [Act.put, List.setIfInBounds_toArray, List.set_cons_zero, List.set_cons_succ])
            refine segQuiet rfl rfl ?_
            apply Exists.intro
            refine ⟨fun b' F hF hf K hK => ?_, ?_⟩
            · have hFc := hF.cls
              have hall : ∀ d, Below (b10 + 1) R3 (F d) := fun d => by
                cases b'
                · exact (hFc d).mono HQ.out.1
                · exact HQ.out.2.1 _ (hFc d)
              have q0 : ∀ d, (F d).cell? ⟨b10, 0, none⟩ = some vp := fun d => ((hall d).cell (p := ⟨b10, 0, none⟩) (show b10 < b10 + 1 by omega)).trans t0
              have q1 : ∀ d, (F d).cell? ⟨w.heap.size, 0, none⟩ = some (.slice (some ⟨qP, oP, none⟩) n c1) := fun d => ((hall d).cell (p := ⟨w.heap.size, 0, none⟩) (show w.heap.size < b10 + 1 by omega)).trans a0
              have q2 : ∀ d, (F d).cell? ⟨qP, oP + k, none⟩ = some (.int .i64 Y) := fun d => ((hall d).cell (p := ⟨qP, oP + k, none⟩) (show qP < b10 + 1 by omega)).trans y1
              have q3 : ∀ d, (F d).cell? ⟨w.heap.size + 1, 0, none⟩ = some (.int .i64 ss) := fun d => ((hall d).cell (p := ⟨w.heap.size + 1, 0, none⟩) (show w.heap.size + 1 < b10 + 1 by omega)).trans x0
              clear hFc hall
              go_big_quiet_op
              first | exact hK | (apply Exists.intro; refine ⟨fun _ => ?_, ?_⟩; (· fail); exact hK)
            (try simp only [Act.put, List.setIfInBounds_toArray, List.set_cons_zero, List.set_cons_succ])
            refine segQuiet rfl rfl ?_
            apply Exists.intro
            refine ⟨fun b' F hF hf K hK => ?_, ?_⟩
            · have hFc := hF.cls
              have hall : ∀ d, Below (b10 + 1) R3 (F d) := fun d => by
                cases b'
                · exact (hFc d).mono HQ.out.1
                · exact HQ.out.2.1 _ (hFc d)
              have q0 : ∀ d, (F d).cell? ⟨b10, 0, none⟩ = some vp := fun d => ((hall d).cell (p := ⟨b10, 0, none⟩) (show b10 < b10 + 1 by omega)).trans t0
              have q1 : ∀ d, (F d).cell? ⟨w.heap.size, 0, none⟩ = some (.slice (some ⟨qP, oP, none⟩) n c1) := fun d => ((hall d).cell (p := ⟨w.heap.size, 0, none⟩) (show w.heap.size < b10 + 1 by omega)).trans a0
              have q2 : ∀ d, (F d).cell? ⟨qP, oP + k, none⟩ = some (.int .i64 Y) := fun d => ((hall d).cell (p := ⟨qP, oP + k, none⟩) (show qP < b10 + 1 by omega)).trans y1
              have q3 : ∀ d, (F d).cell? ⟨w.heap.size + 1, 0, none⟩ = some (.int .i64 ss) := fun d => ((hall d).cell (p := ⟨w.heap.size + 1, 0, none⟩) (show w.heap.size + 1 < b10 + 1 by omega)).trans x0
              clear hFc hall
              go_big_quiet_op
              first | exact hK | (apply Exists.intro; refine ⟨fun _ => ?_, ?_⟩; (· fail); exact hK)
            (try simp only [Act.put, List.setIfInBounds_toArray, List.set_cons_zero, List.set_cons_succ])
            refine segQuiet rfl rfl ?_
            apply Exists.intro
            refine ⟨fun b' F hF hf K hK => ?_, ?_⟩
            · have hFc := hF.cls
              have hall : ∀ d, Below (b10 + 1) R3 (F d) := fun d => by
                cases b'
                · exact (hFc d).mono HQ.out.1
                · exact HQ.out.2.1 _ (hFc d)
              have q0 : ∀ d, (F d).cell? ⟨b10, 0, none⟩ = some vp := fun d => ((hall d).cell (p := ⟨b10, 0, none⟩) (show b10 < b10 + 1 by omega)).trans t0
              have q1 : ∀ d, (F d).cell? ⟨w.heap.size, 0, none⟩ = some (.slice (some ⟨qP, oP, none⟩) n c1) := fun d => ((hall d).cell (p := ⟨w.heap.size, 0, none⟩) (show w.heap.size < b10 + 1 by omega)).trans a0
              have q2 : ∀ d, (F d).cell? ⟨qP, oP + k, none⟩ = some (.int .i64 Y) := fun d => ((hall d).cell (p := ⟨qP, oP + k, none⟩) (show qP < b10 + 1 by omega)).trans y1
              have q3 : ∀ d, (F d).cell? ⟨w.heap.size + 1, 0, none⟩ = some (.int .i64 ss) := fun d => ((hall d).cell (p := ⟨w.heap.size + 1, 0, none⟩) (show w.heap.size + 1 < b10 + 1 by omega)).trans x0
              clear hFc hall
              go_big_quiet_op
              first | exact hK | (apply Exists.intro; refine ⟨fun _ => ?_, ?_⟩; (· fail); exact hK)
            (try simp only [Act.put, List.setIfInBounds_toArray, List.set_cons_zero, List.set_cons_succ])
            refine segQuiet rfl rfl ?_
            apply Exists.intro
            refine ⟨fun b' F hF hf K hK => ?_, ?_⟩
            · have hFc := hF.cls
              have hall : ∀ d, Below (b10 + 1) R3 (F d) := fun d => by
                cases b'
                · exact (hFc d).mono HQ.out.1
                · exact HQ.out.2.1 _ (hFc d)
              have q0 : ∀ d, (F d).cell? ⟨b10, 0, none⟩ = some vp := fun d => ((hall d).cell (p := ⟨b10, 0, none⟩) (show b10 < b10 + 1 by omega)).trans t0
              have q1 : ∀ d, (F d).cell? ⟨w.heap.size, 0, none⟩ = some (.slice (some ⟨qP, oP, none⟩) n c1) := fun d => ((hall d).cell (p := ⟨w.heap.size, 0, none⟩) (show w.heap.size < b10 + 1 by omega)).trans a0
              have q2 : ∀ d, (F d).cell? ⟨qP, oP + k, none⟩ = some (.int .i64 Y) := fun d => ((hall d).cell (p := ⟨qP, oP + k, none⟩) (show qP < b10 + 1 by omega)).trans y1
              have q3 : ∀ d, (F d).cell? ⟨w.heap.size + 1, 0, none⟩ = some (.int .i64 ss) := fun d => ((hall d).cell (p := ⟨w.heap.size + 1, 0, none⟩) (show w.heap.size + 1 < b10 + 1 by omega)).trans x0
              clear hFc hall
              go_big_quiet_op
              first | exact hK | (apply Exists.intro; refine ⟨fun _ => ?_, ?_⟩; (· fail); exact hK)
            (try simp only [Act.put, List.setIfInBounds_toArray, List.set_cons_zero, List.set_cons_succ])
            refine segQuiet rfl rfl ?_
            apply Exists.intro
            refine ⟨fun b' F hF hf K hK => ?_, ?_⟩
            · have hFc := hF.cls
              have hall : ∀ d, Below (b10 + 1) R3 (F d) := fun d => by
                cases b'
                · exact (hFc d).mono HQ.out.1
                · exact HQ.out.2.1 _ (hFc d)
              have q0 : ∀ d, (F d).cell? ⟨b10, 0, none⟩ = some vp := fun d => ((hall d).cell (p := ⟨b10, 0, none⟩) (show b10 < b10 + 1 by omega)).trans t0
              have q1 : ∀ d, (F d).cell? ⟨w.heap.size, 0, none⟩ = some (.slice (some ⟨qP, oP, none⟩) n c1) := fun d => ((hall d).cell (p := ⟨w.heap.size, 0, none⟩) (show w.heap.size < b10 + 1 by omega)).trans a0
              have q2 : ∀ d, (F d).cell? ⟨qP, oP + k, none⟩ = some (.int .i64 Y) := fun d => ((hall d).cell (p := ⟨qP, oP + k, none⟩) (show qP < b10 + 1 by omega)).trans y1
              have q3 : ∀ d, (F d).cell? ⟨w.heap.size + 1, 0, none⟩ = some (.int .i64 ss) := fun d => ((hall d).cell (p := ⟨w.heap.size + 1, 0, none⟩) (show w.heap.size + 1 < b10 + 1 by omega)).trans x0
              clear hFc hall
              go_big_quiet_op
              first | exact hK | (apply Exists.intro; refine ⟨fun _ => ?_, ?_⟩; (· fail); exact hK)
            (try simp only [Act.put, List.setIfInBounds_toArray, List.set_cons_zero, List.set_cons_succ])
            refine segQuiet rfl rfl ?_
            apply Exists.intro
            refine ⟨fun b' F hF hf K hK => ?_, ?_⟩
            · have hFc := hF.cls
              have hall : ∀ d, Below (b10 + 1) R3 (F d) := fun d => by
                cases b'
                · exact (hFc d).mono HQ.out.1
                · exact HQ.out.2.1 _ (hFc d)
              have q0 : ∀ d, (F d).cell? ⟨b10, 0, none⟩ = some vp := fun d => ((hall d).cell (p := ⟨b10, 0, none⟩) (show b10 < b10 + 1 by omega)).trans t0
              have q1 : ∀ d, (F d).cell? ⟨w.heap.size, 0, none⟩ = some (.slice (some ⟨qP, oP, none⟩) n c1) := fun d => ((hall d).cell (p := ⟨w.heap.size, 0, none⟩) (show w.heap.size < b10 + 1 by omega)).trans a0
              have q2 : ∀ d, (F d).cell? ⟨qP, oP + k, none⟩ = some (.int .i64 Y) := fun d => ((hall d).cell (p := ⟨qP, oP + k, none⟩) (show qP < b10 + 1 by omega)).trans y1
              have q3 : ∀ d, (F d).cell? ⟨w.heap.size + 1, 0, none⟩ = some (.int .i64 ss) := fun d => ((hall d).cell (p := ⟨w.heap.size + 1, 0, none⟩) (show w.heap.size + 1 < b10 + 1 by omega)).trans x0
              clear hFc hall
              go_big_quiet_op
              first | exact hK | (apply Exists.intro; refine ⟨fun _ => ?_, ?_⟩; (· fail); exact hK)
            (try simp only [Act.put, List.setIfInBounds_toArray, List.set_cons_zero, List.set_cons_succ])
            refine segQuiet rfl rfl ?_
            apply Exists.intro
            refine ⟨fun b' F hF hf K hK => ?_, ?_⟩
            · have hFc := hF.cls
              have hall : ∀ d, Below (b10 + 1) R3 (F d) := fun d => by
                cases b'
                · exact (hFc d).mono HQ.out.1
                · exact HQ.out.2.1 _ (hFc d)
              have q0 : ∀ d, (F d).cell? ⟨b10, 0, none⟩ = some vp := fun d => ((hall d).cell (p := ⟨b10, 0, none⟩) (show b10 < b10 + 1 by omega)).trans t0
              have q1 : ∀ d, (F d).cell? ⟨w.heap.size, 0, none⟩ = some (.slice (some ⟨qP, oP, none⟩) n c1) := fun d => ((hall d).cell (p := ⟨w.heap.size, 0, none⟩) (show w.heap.size < b10 + 1 by omega)).trans a0
              have q2 : ∀ d, (F d).cell? ⟨qP, oP + k, none⟩ = some (.int .i64 Y) := fun d => ((hall d).cell (p := ⟨qP, oP + k, none⟩) (show qP < b10 + 1 by omega)).trans y1
              have q3 : ∀ d, (F d).cell? ⟨w.heap.size + 1, 0, none⟩ = some (.int .i64 ss) := fun d => ((hall d).cell (p := ⟨w.heap.size + 1, 0, none⟩) (show w.heap.size + 1 < b10 + 1 by omega)).trans x0
              clear hFc hall
              go_big_quiet_op
              first | exact hK | (apply Exists.intro; refine ⟨fun _ => ?_, ?_⟩; (· with_reducible exact hF.call (cM2.out _)); exact hK)
            (try simp only [Act.put, List.setIfInBounds_toArray, List.set_cons_zero, List.set_cons_succ])
            refine segQuiet rfl rfl ?_
            apply Exists.intro
            refine ⟨fun b' F hF hf K hK => ?_, ?_⟩
            · have hFc := hF.cls
              have hall : ∀ d, Below (b10 + 1) R3 (F d) := fun d => by
                cases b'
                · exact (hFc d).mono HQ.out.1
                · exact HQ.out.2.1 _ (hFc d)
              have q0 : ∀ d, (F d).cell? ⟨b10, 0, none⟩ = some vp := fun d => ((hall d).cell (p := ⟨b10, 0, none⟩) (show b10 < b10 + 1 by omega)).trans t0
              have q1 : ∀ d, (F d).cell? ⟨w.heap.size, 0, none⟩ = some (.slice (some ⟨qP, oP, none⟩) n c1) := fun d => ((hall d).cell (p := ⟨w.heap.size, 0, none⟩) (show w.heap.size < b10 + 1 by omega)).trans a0
              have q2 : ∀ d, (F d).cell? ⟨qP, oP + k, none⟩ = some (.int .i64 Y) := fun d => ((hall d).cell (p := ⟨qP, oP + k, none⟩) (show qP < b10 + 1 by omega)).trans y1
              have q3 : ∀ d, (F d).cell? ⟨w.heap.size + 1, 0, none⟩ = some (.int .i64 ss) := fun d => ((hall d).cell (p := ⟨w.heap.size + 1, 0, none⟩) (show w.heap.size + 1 < b10 + 1 by omega)).trans x0
              clear hFc hall
              go_big_quiet_op
              first | exact hK | (apply Exists.intro; refine ⟨fun _ => ?_, ?_⟩; (· with_reducible exact hF.call (cS1.out _)); exact hK)
            (try simp only [Act.put, List.setIfInBounds_toArray, List.set_cons_zero, List.set_cons_succ])
            refine segTold rfl (by decide) rfl ?_ ?_
            · intro b' F hF hf d
              have hFc := hF.cls
              have hcls : R3.heap.size ≤ (F d).heap.size := by
                cases b'
                · exact (hFc d).size
                · exact (hFc d).size
              simp [yieldsR, yieldsUpon, go_sem]
              exact ⟨⟨(F d).heap.size, rfl, heap_alloc_new (F d) _, hcls⟩, up_alloc _ _⟩
            (try simp only [Act.put, List.setIfInBounds_toArray, List.set_cons_zero, List.set_cons_succ])
            refine segBusy rfl rfl rfl ?_ ?_
            · intro W hW hf
              have h7 := hf _ List.mem_cons_self (by rfl) W
              obtain ⟨g7, e7, hg7, _⟩ := h7
              simp only [] at e7
              obtain ⟨g8, c8, w8, hr8, ho8, hgr8, hl8⟩ := app_one fixT (by decide) 23 W (b10 + 1) vp (P'.take k) (HRW.out.1.up hW) g7 PP hg7 HLK.out.1 (Nat.le_trans HRW.out.2.1 (Below.size hW))
              rw [HLK.out.2.2] at hr8 ho8
              simp [leavesR, leavesUpon, execOp, resolve, invoke, builtin, Act.eval, e7, hr8, Result.andThen]
              exact ⟨⟨g8, c8, rfl, ho8, hl8.imp id fun h => Nat.le_trans (Below.size hW) h⟩, grown_trans (below_grown _ hW) hgr8, hgr8⟩
            (try simp only [Act.put, List.setIfInBounds_toArray, List.set_cons_zero, List.set_cons_succ])
            refine segQuiet rfl rfl ?_
            apply Exists.intro
            refine ⟨fun b' F hF hf K hK => ?_, ?_⟩
            · have hFc := hF.cls
              have hall : ∀ d, Below (b10 + 1) R3 (F d) := fun d => by
                cases b'
                · exact (hFc d).mono HQ.out.1
                · exact HQ.out.2.1 _ (hFc d)
              have q0 : ∀ d, (F d).cell? ⟨b10, 0, none⟩ = some vp := fun d => ((hall d).cell (p := ⟨b10, 0, none⟩) (show b10 < b10 + 1 by omega)).trans t0
              have q1 : ∀ d, (F d).cell? ⟨w.heap.size, 0, none⟩ = some (.slice (some ⟨qP, oP, none⟩) n c1) := fun d => ((hall d).cell (p := ⟨w.heap.size, 0, none⟩) (show w.heap.size < b10 + 1 by omega)).trans a0
              have q2 : ∀ d, (F d).cell? ⟨qP, oP + k, none⟩ = some (.int .i64 Y) := fun d => ((hall d).cell (p := ⟨qP, oP + k, none⟩) (show qP < b10 + 1 by omega)).trans y1
              have q3 : ∀ d, (F d).cell? ⟨w.heap.size + 1, 0, none⟩ = some (.int .i64 ss) := fun d => ((hall d).cell (p := ⟨w.heap.size + 1, 0, none⟩) (show w.heap.size + 1 < b10 + 1 by omega)).trans x0
              clear hFc hall
              go_big_quiet_op
              first | exact hK | (apply Exists.intro; refine ⟨fun _ => ?_, ?_⟩; (· fail); exact hK)
            (try simp only [Act.put, List.setIfInBounds_toArray, List.set_cons_zero, List.set_cons_succ])
            refine segEnd ?_
            exact rfl
          · exact fun x => rfl
          · intro w8 xs8 hC8 hf8
            refine from_list 15 (by kernel_rfl) ?_
            simp only [List.drop_succ_cons, List.drop_zero]
            have h8 := hf8 _ (List.mem_cons_of_mem _ List.mem_cons_self)
            obtain ⟨x5, e5⟩ : ∃ z, xs8 12 = z := ⟨_, rfl⟩
            obtain ⟨x6, e6⟩ : ∃ z, xs8 13 = z := ⟨_, rfl⟩
            simp only [e6] at h8
            simp only [e5, e6]
            obtain ⟨g8, c8, rfl, ho8, hl8⟩ := h8
            have hC9 : R3.grownBy w8 vp.ownBlock := hC8
            have h9 := HQ.out.2.1 _ hC9
            have z9 : Cel w8 b10 vp vm2 := HQ.out.2.2.1.low h9 (by omega)
            obtain ⟨z0, z1, z2, z3⟩ := z9
            have hM8 := HQ.out.2.2.2.1.grown hC9 HQ.out.2.2.2.2.1
            have s8 := (Stay.refl b10 w8).set 0 (.slice (some ⟨g8, 0, none⟩) (k + 1) c8)
            have H9 : Hid (OwnK .i64 27 (w8.setCell ⟨b10, 0, none⟩ (.slice (some ⟨g8, 0, none⟩) (k + 1) c8)) (b10 + 1) (.slice (some ⟨g8, 0, none⟩) (k + 1) c8) (P'.take (k + 1)) ∧ OwnK .i64 27 (w8.setCell ⟨b10, 0, none⟩ (.slice (some ⟨g8, 0, none⟩) (k + 1) c8)) (b10 + 1) vm2 (M'.take (k + 1)) ∧ Ap (.slice (some ⟨g8, 0, none⟩) (k + 1) c8) vm2) := ⟨by
              rw [HLT.out.1]
              exact ho8.stay s8 (ho8.off (by omega)), by
              rw [HLT.out.2]
              exact hM8.stay s8 (hM8.off (by omega)), fun g hg => by
              obtain ⟨g1, g2⟩ := hg
              cases g1
              rcases hl8 with hl8 | hl8
              · exact HQ.out.2.2.2.2.1 _ ⟨hl8, g2⟩
              · have q9 : g8 < R3.heap.size := HQ.out.2.2.2.1.lt g2
                omega⟩
            have H10 : Hid (Cel (w8.setCell ⟨b10, 0, none⟩ (.slice (some ⟨g8, 0, none⟩) (k + 1) c8)) b10 (.slice (some ⟨g8, 0, none⟩) (k + 1) c8) vm2) := ⟨set_same z0, by rw [set_off (by omega)]; exact z1, by simp [z2], by simp [z3]⟩
            have H11 : Hid (Below b10 W5 (w8.setCell ⟨b10, 0, none⟩ (.slice (some ⟨g8, 0, none⟩) (k + 1) c8))) := (HQ.out.2.2.2.2.2.trans (h9.mono (Nat.le_succ _))).setCell (p := ⟨b10, 0, none⟩) (Nat.le_refl _) _
            clear hf8 hC8 ho8 hl8 hC9 h9 hM8 s8 e5 e6 t0 t1 t2 t3 a0 y1 x0 cM2 cS1 z1 HQ HRW
            have hn2 : (n : Int) ≤ 1048576 := by have := HK.out.2.2.2.2.2.2.2.2.2.2; omega
            go_wp2
            go_roundg (n - (k + 1))
            case measure => omega
            case rel => exact ⟨k + 1, _, _, by omega, rfl, by first | rfl | simp, H9, H10, H11⟩
      · have v3 : ¬ bb < D0 := by omega
        go_wp2_with fail
        refine flow 10 107 (by kernel_rfl) rfl rfl (by kernel_rfl) ?_
        apply Exists.intro
        refine ⟨?_, ?_⟩
        · intro F hF
          have hFc := hF.cell
          have hFf := hF.frozen
          simp only [List.take_succ_cons, List.take_zero, List.eraseIdx_cons_succ, List.eraseIdx_cons_zero]
          repeat (go_big_quiet_step (first | with_reducible exact hF.call (cM1.out _) | with_reducible exact hF.call (cA1.out _)))
          refine wpQuiet_nil ?_
          exact rfl
        · intro W1 hb1
          simp only [List.drop_succ_cons, List.drop_zero]
          have hb12 := bstep H2.out.2 hb1
          obtain ⟨t0, t1, t2, t3⟩ := HT.out.up hb12
          have hU := up_alloc W1 (.cells #[.int .i64 MM] 27)
          have H5 : Hid (OwnK .i64 27 (W1.alloc (.cells #[.int .i64 MM] 27)) (b10 + 1) vm (M'.take k) ∧ OwnK .i64 27 (W1.alloc (.cells #[.int .i64 MM] 27)) (b10 + 1) vp (P'.take k) ∧ Ap vm vp ∧ Cel (W1.alloc (.cells #[.int .i64 MM] 27)) b10 vp vm ∧ Nums .i64 (W1.alloc (.cells #[.int .i64 MM] 27)) (.slice (some ⟨W1.heap.size, 0, none⟩) 1 1) [MM] ∧ Below b10 W5 (W1.alloc (.cells #[.int .i64 MM] 27)) ∧ b10 + 1 ≤ (W1.alloc (.cells #[.int .i64 MM] 27)).heap.size) := ⟨(HR.out.2.1.up hb12).up hU, (HR.out.1.up hb12).up hU, HR.out.2.2.symm, (HT.out.up hb12).up hU, nums_lit (k := .i64) W1 [MM] 1 (0, 0) rfl, HB.out.trans ((bstep hb12 hU).mono (Nat.le_of_succ_le H2.out.1)), Nat.le_trans HX5.out.2.2.2.2.2.2 (HB.out.trans ((bstep hb12 hU).mono (Nat.le_of_succ_le H2.out.1))).size⟩
          have kt := cell_lt t0
          clear hb1 hb12 hU a0 a1 x0 x1 x2 y1 zy za zx cM1 cA1 HR HB HT H2
          go_wp2_with (at_builtin; refine wpList_append_apart fixT (by decide) rfl (.tmp 86) (.tmp 88) rfl (b10 + 1) _ (M'.take k) rfl H5.out.1 _ MM _ rfl H5.out.2.2.2.2.1 HLK.out.2.1 H5.out.2.2.2.2.2.2 _ (Below.refl _ _) _ _ H5.out.2.1 H5.out.2.2.1 ?_; intro vm2 w6 H6 hB6; have hs6 := hB6.size; obtain ⟨pm, nm, cm, rfl, _⟩ := H6.out.1.nums.lst; have z6 := H5.out.2.2.2.1.low hB6 (Nat.lt_succ_self _); have HB6 := hid2 hB6 hB6; clear hB6; obtain ⟨z0, z1, z2, z3⟩ := z6)
          have s3 := (Stay.refl b10 w6).set 1 (.slice pm nm cm)
          have m3 := H6.out.1.stay s3 (H6.out.1.off (Nat.lt_succ_self _))
          have p3 := H6.out.2.1.stay s3 (H6.out.2.1.off (Nat.lt_succ_self _))
          have c3 : Cel (w6.setCell ⟨b10, 1, none⟩ (.slice pm nm cm)) b10 vp (.slice pm nm cm) := ⟨by rw [set_off (by omega)]; exact z0, set_same z1, by simp [z2], by simp [z3]⟩
          have b3 := (H5.out.2.2.2.2.2.1.trans (HB6.out.1.mono (Nat.le_succ _))).setCell (p := ⟨b10, 1, none⟩) (Nat.le_refl _) (.slice pm nm cm)
          have i3 : b10 + 1 ≤ (w6.setCell ⟨b10, 1, none⟩ (.slice pm nm cm)).heap.size := by
            have := H5.out.2.2.2.2.2.2
            have e : (w6.setCell ⟨b10, 1, none⟩ (.slice pm nm cm)).heap.size = w6.heap.size := by simp
            omega
          generalize eR3 : w6.setCell ⟨b10, 1, none⟩ (.slice pm nm cm) = R3 at m3 p3 c3 b3 i3 ⊢
          obtain ⟨vm2, evm⟩ : ∃ v, Value.slice pm nm cm = v := ⟨_, rfl⟩
          rw [evm] at m3 c3
          have HRW : Hid (OwnK .i64 27 R3 (b10 + 1) vp (P'.take k) ∧ b10 + 1 ≤ R3.heap.size ∧ ∀ z, vp.ownBlock = some z → z < R3.heap.size) := ⟨p3, i3, fun z hz => p3.lt hz⟩
          have HQ : Hid (b10 + 1 ≤ R3.heap.size ∧ (∀ W, R3.grownBy W vp.ownBlock → Below (b10 + 1) R3 W) ∧ Cel R3 b10 vp vm2 ∧ OwnK .i64 27 R3 (b10 + 1) vm2 (M'.take k ++ [MM]) ∧ Ap vp vm2 ∧ Below b10 W5 R3) := ⟨i3, fun W hW => Below.grown (Below.refl _ _) hW i3 fun q hq => p3.block q hq, c3, m3, by have := H6.out.2.2.symm; rw [evm] at this; exact this, b3⟩
          obtain ⟨t0, t1, t2, t3⟩ := c3
          obtain ⟨a0, _, _, _⟩ := HX5.out.1.low b3 (by omega)
          obtain ⟨x0, _, _⟩ := HX5.out.2.1.low b3 (by omega)
          have y1 := (b3.cell (p := ⟨qP, oP + k, none⟩) (show qP < b10 by omega)).trans ((HX5.out.2.2.2.2.1.cell (p := ⟨qP, oP + k, none⟩) kP).trans HC.out.1)
          clear eR3 evm s3 m3 p3 b3 i3 H6 HB6 H5 z0 z1 z2 z3 hs6 kt
          refine from_region (by kernel_rfl) ?_
          refine seg (fun q W => match q with | false => Below R3.heap.size R3 W | true => R3.grownBy W vp.ownBlock) (fun W W' => W.grownBy W' vp.ownBlock) 13 [⟨12, 103, LitS 27 R3.heap.size [.int .i64 PP]⟩, ⟨13, 104, OwnP 27 (b10 + 1) R3.heap.size vp.ownBlock (k + 1) (P'.take k ++ [PP])⟩] 0 15 107 rfl rfl (by kernel_rfl) (by rfl) ?_ ?_ ?_ ?_ ?_ ?_
          · intro q W W' h hb
            cases q
            · exact bstep h hb
            · exact grown_up h hb
          · exact ⟨rfl, rfl, rfl, Nat.le_refl _, fun _ _ => rfl⟩
          · exact .inl ⟨_, List.mem_cons_of_mem _ List.mem_cons_self, rfl⟩
          · intro e he v W W' h hb
            simp only [List.mem_cons, List.not_mem_nil, or_false] at he
            rcases he with rfl | rfl
            · exact LitS.up h hb
            · exact OwnP.up h hb
          · intro e he hne v W W' h hc ht
            simp only [List.mem_cons, List.not_mem_nil, or_false] at he
            rcases he with rfl | rfl
            · exact LitS.grown h ht HRW.out.2.2
            · exact absurd rfl hne
          apply Exists.intro
          refine ⟨fun x => ?_, ?_, ?_⟩
          · simp only [List.drop_succ_cons, List.drop_zero, List.take_succ_cons, List.take_zero]
            refine segQuiet rfl rfl ?_
            apply Exists.intro
            refine ⟨fun b' F hF hf K hK => ?_, ?_⟩
            · have hFc := hF.cls
              have hall : ∀ d, Below (b10 + 1) R3 (F d) := fun d => by
                cases b'
                · exact (hFc d).mono HQ.out.1
                · exact HQ.out.2.1 _ (hFc d)
              have q0 : ∀ d, (F d).cell? ⟨b10, 0, none⟩ = some vp := fun d => ((hall d).cell (p := ⟨b10, 0, none⟩) (show b10 < b10 + 1 by omega)).trans t0
              have q1 : ∀ d, (F d).cell? ⟨w.heap.size, 0, none⟩ = some (.slice (some ⟨qP, oP, none⟩) n c1) := fun d => ((hall d).cell (p := ⟨w.heap.size, 0, none⟩) (show w.heap.size < b10 + 1 by omega)).trans a0
              have q2 : ∀ d, (F d).cell? ⟨qP, oP + k, none⟩ = some (.int .i64 Y) := fun d => ((hall d).cell (p := ⟨qP, oP + k, none⟩) (show qP < b10 + 1 by omega)).trans y1
              have q3 : ∀ d, (F d).cell? ⟨w.heap.size + 1, 0, none⟩ = some (.int .i64 ss) := fun d => ((hall d).cell (p := ⟨w.heap.size + 1, 0, none⟩) (show w.heap.size + 1 < b10 + 1 by omega)).trans x0
              clear hFc hall
              go_big_quiet_op
              first | exact hK | (apply Exists.intro; refine ⟨fun _ => ?_, ?_⟩; (· fail); exact hK)
            (try simp only [Act.put, List.setIfInBounds_toArray, List.set_cons_zero, List.set_cons_succ])
            refine segQuiet rfl rfl ?_
            apply Exists.intro
            refine ⟨fun b' F hF hf K hK => ?_, ?_⟩
            · have hFc := hF.cls
              have hall : ∀ d, Below (b10 + 1) R3 (F d) := fun d => by
                cases b'
                · exact (hFc d).mono HQ.out.1
                · exact HQ.out.2.1 _ (hFc d)
              have q0 : ∀ d, (F d).cell? ⟨b10, 0, none⟩ = some vp := fun d => ((hall d).cell (p := ⟨b10, 0, none⟩) (show b10 < b10 + 1 by omega)).trans t0
              have q1 : ∀ d, (F d).cell? ⟨w.heap.size, 0, none⟩ = some (.slice (some ⟨qP, oP, none⟩) n c1) := fun d => ((hall d).cell (p := ⟨w.heap.size, 0, none⟩) (show w.heap.size < b10 + 1 by omega)).trans a0
              have q2 : ∀ d, (F d).cell? ⟨qP, oP + k, none⟩ = some (.int .i64 Y) := fun d => ((hall d).cell (p := ⟨qP, oP + k, none⟩) (show qP < b10 + 1 by omega)).trans y1
              have q3 : ∀ d, (F d).cell? ⟨w.heap.size + 1, 0, none⟩ = some (.int .i64 ss) := fun d => ((hall d).cell (p := ⟨w.heap.size + 1, 0, none⟩) (show w.heap.size + 1 < b10 + 1 by omega)).trans x0
              clear hFc hall
              go_big_quiet_op
              first | exact hK | (apply Exists.intro; refine ⟨fun _ => ?_, ?_⟩; (· fail); exact hK)
            (try simp only [Act.put, List.setIfInBounds_toArray, List.set_cons_zero, List.set_cons_succ])
            refine segQuiet rfl rfl ?_
            apply Exists.intro
            refine ⟨fun b' F hF hf K hK => ?_, ?_⟩
            · have hFc := hF.cls
              have hall : ∀ d, Below (b10 + 1) R3 (F d) := fun d => by
                cases b'
                · exact (hFc d).mono HQ.out.1
                · exact HQ.out.2.1 _ (hFc d)
              have q0 : ∀ d, (F d).cell? ⟨b10, 0, none⟩ = some vp := fun d => ((hall d).cell (p := ⟨b10, 0, none⟩) (show b10 < b10 + 1 by omega)).trans t0
              have q1 : ∀ d, (F d).cell? ⟨w.heap.size, 0, none⟩ = some (.slice (some ⟨qP, oP, none⟩) n c1) := fun d => ((hall d).cell (p := ⟨w.heap.size, 0, none⟩) (show w.heap.size < b10 + 1 by omega)).trans a0
              have q2 : ∀ d, (F d).cell? ⟨qP, oP + k, none⟩ = some (.int .i64 Y) := fun d => ((hall d).cell (p := ⟨qP, oP + k, none⟩) (show qP < b10 + 1 by omega)).trans y1
              have q3 : ∀ d, (F d).cell? ⟨w.heap.size + 1, 0, none⟩ = some (.int .i64 ss) := fun d => ((hall d).cell (p := ⟨w.heap.size + 1, 0, none⟩) (show w.heap.size + 1 < b10 + 1 by omega)).trans x0
              clear hFc hall
              go_big_quiet_op
              first | exact hK | (apply Exists.intro; refine ⟨fun _ => ?_, ?_⟩; (· fail); exact hK)
            (try simp only [Act.put, List.setIfInBounds_toArray, List.set_cons_zero, List.set_cons_succ])
            refine segQuiet rfl rfl ?_
            apply Exists.intro
            refine ⟨fun b' F hF hf K hK => ?_, ?_⟩
            · have hFc := hF.cls
              have hall : ∀ d, Below (b10 + 1) R3 (F d) := fun d => by
                cases b'
                · exact (hFc d).mono HQ.out.1
                · exact HQ.out.2.1 _ (hFc d)
              have q0 : ∀ d, (F d).cell? ⟨b10, 0, none⟩ = some vp := fun d => ((hall d).cell (p := ⟨b10, 0, none⟩) (show b10 < b10 + 1 by omega)).trans t0
              have q1 : ∀ d, (F d).cell? ⟨w.heap.size, 0, none⟩ = some (.slice (some ⟨qP, oP, none⟩) n c1) := fun d => ((hall d).cell (p := ⟨w.heap.size, 0, none⟩) (show w.heap.size < b10 + 1 by omega)).trans a0
              have q2 : ∀ d, (F d).cell? ⟨qP, oP + k, none⟩ = some (.int .i64 Y) := fun d => ((hall d).cell (p := ⟨qP, oP + k, none⟩) (show qP < b10 + 1 by omega)).trans y1
              have q3 : ∀ d, (F d).cell? ⟨w.heap.size + 1, 0, none⟩ = some (.int .i64 ss) := fun d => ((hall d).cell (p := ⟨w.heap.size + 1, 0, none⟩) (show w.heap.size + 1 < b10 + 1 by omega)).trans x0
              clear hFc hall
              go_big_quiet_op
              first | exact hK | (apply Exists.intro; refine ⟨fun _ => ?_, ?_⟩; (· fail); exact hK)
            (try simp only [Act.put, List.setIfInBounds_toArray, List.set_cons_zero, List.set_cons_succ])
            refine segQuiet rfl rfl ?_
            apply Exists.intro
            refine ⟨fun b' F hF hf K hK => ?_, ?_⟩
            · have hFc := hF.cls
              have hall : ∀ d, Below (b10 + 1) R3 (F d) := fun d => by
                cases b'
                · exact (hFc d).mono HQ.out.1
                · exact HQ.out.2.1 _ (hFc d)
              have q0 : ∀ d, (F d).cell? ⟨b10, 0, none⟩ = some vp := fun d => ((hall d).cell (p := ⟨b10, 0, none⟩) (show b10 < b10 + 1 by omega)).trans t0
              have q1 : ∀ d, (F d).cell? ⟨w.heap.size, 0, none⟩ = some (.slice (some ⟨qP, oP, none⟩) n c1) := fun d => ((hall d).cell (p := ⟨w.heap.size, 0, none⟩) (show w.heap.size < b10 + 1 by omega)).trans a0
              have q2 : ∀ d, (F d).cell? ⟨qP, oP + k, none⟩ = some (.int .i64 Y) := fun d => ((hall d).cell (p := ⟨qP, oP + k, none⟩) (show qP < b10 + 1 by omega)).trans y1
              have q3 : ∀ d, (F d).cell? ⟨w.heap.size + 1, 0, none⟩ = some (.int .i64 ss) := fun d => ((hall d).cell (p := ⟨w.heap.size + 1, 0, none⟩) (show w.heap.size + 1 < b10 + 1 by omega)).trans x0
              clear hFc hall
              go_big_quiet_op
              first | exact hK | (apply Exists.intro; refine ⟨fun _ => ?_, ?_⟩; (· fail); exact hK)
            (try simp only [Act.put, List.setIfInBounds_toArray, List.set_cons_zero, List.set_cons_succ])
            refine segQuiet rfl rfl ?_
            apply Exists.intro
            refine ⟨fun b' F hF hf K hK => ?_, ?_⟩
            · have hFc := hF.cls
              have hall : ∀ d, Below (b10 + 1) R3 (F d) := fun d => by
                cases b'
                · exact (hFc d).mono HQ.out.1
                · exact HQ.out.2.1 _ (hFc d)
              have q0 : ∀ d, (F d).cell? ⟨b10, 0, none⟩ = some vp := fun d => ((hall d).cell (p := ⟨b10, 0, none⟩) (show b10 < b10 + 1 by omega)).trans t0
              have q1 : ∀ d, (F d).cell? ⟨w.heap.size, 0, none⟩ = some (.slice (some ⟨qP, oP, none⟩) n c1) := fun d => ((hall d).cell (p := ⟨w.heap.size, 0, none⟩) (show w.heap.size < b10 + 1 by omega)).trans a0
              have q2 : ∀ d, (F d).cell? ⟨qP, oP + k, none⟩ = some (.int .i64 Y) := fun d => ((hall d).cell (p := ⟨qP, oP + k, none⟩) (show qP < b10 + 1 by omega)).trans y1
              have q3 : ∀ d, (F d).cell? ⟨w.heap.size + 1, 0, none⟩ = some (.int .i64 ss) := fun d => ((hall d).cell (p := ⟨w.heap.size + 1, 0, none⟩) (show w.heap.size + 1 < b10 + 1 by omega)).trans x0
              clear hFc hall
              go_big_quiet_op
              first | exact hK | (apply Exists.intro; refine ⟨fun _ => ?_, ?_⟩; (· fail); exact hK)
            (try simp only [Act.put, List.setIfInBounds_toArray, List.set_cons_zero, List.set_cons_succ])
            refine segQuiet rfl rfl ?_
            apply Exists.intro
            refine ⟨fun b' F hF hf K hK => ?_, ?_⟩
            · have hFc := hF.cls
              have hall : ∀ d, Below (b10 + 1) R3 (F d) := fun d => by
                cases b'
                · exact (hFc d).mono HQ.out.1
                · exact HQ.out.2.1 _ (hFc d)
              have q0 : ∀ d, (F d).cell? ⟨b10, 0, none⟩ = some vp := fun d => ((hall d).cell (p := ⟨b10, 0, none⟩) (show b10 < b10 + 1 by omega)).trans t0
              have q1 : ∀ d, (F d).cell? ⟨w.heap.size, 0, none⟩ = some (.slice (some ⟨qP, oP, none⟩) n c1) := fun d => ((hall d).cell (p := ⟨w.heap.size, 0, none⟩) (show w.heap.size < b10 + 1 by omega)).trans a0
              have q2 : ∀ d, (F d).cell? ⟨qP, oP + k, none⟩ = some (.int .i64 Y) := fun d => ((hall d).cell (p := ⟨qP, oP + k, none⟩) (show qP < b10 + 1 by omega)).trans y1
              have q3 : ∀ d, (F d).cell? ⟨w.heap.size + 1, 0, none⟩ = some (.int .i64 ss) := fun d => ((hall d).cell (p := ⟨w.heap.size + 1, 0, none⟩) (show w.heap.size + 1 < b10 + 1 by omega)).trans x0
              clear hFc hall
              go_big_quiet_op
              first | exact hK | (apply Exists.intro; refine ⟨fun _ => ?_, ?_⟩; (· fail); exact hK)
            (try simp only [Act.put, List.setIfInBounds_toArray, List.set_cons_zero, List.set_cons_succ])
            refine segQuiet rfl rfl ?_
            apply Exists.intro
            refine ⟨fun b' F hF hf K hK => ?_, ?_⟩
            · have hFc := hF.cls
              have hall : ∀ d, Below (b10 + 1) R3 (F d) := fun d => by
                cases b'
                · exact (hFc d).mono HQ.out.1
                · exact HQ.out.2.1 _ (hFc d)
              have q0 : ∀ d, (F d).cell? ⟨b10, 0, none⟩ = some vp := fun d => ((hall d).cell (p := ⟨b10, 0, none⟩) (show b10 < b10 + 1 by omega)).trans t0
              have q1 : ∀ d, (F d).cell? ⟨w.heap.size, 0, none⟩ = some (.slice (some ⟨qP, oP, none⟩) n c1) := fun d => ((hall d).cell (p := ⟨w.heap.size, 0, none⟩) (show w.heap.size < b10 + 1 by omega)).trans a0
              have q2 : ∀ d, (F d).cell? ⟨qP, oP + k, none⟩ = some (.int .i64 Y) := fun d => ((hall d).cell (p := ⟨qP, oP + k, none⟩) (show qP < b10 + 1 by omega)).trans y1
              have q3 : ∀ d, (F d).cell? ⟨w.heap.size + 1, 0, none⟩ = some (.int .i64 ss) := fun d => ((hall d).cell (p := ⟨w.heap.size + 1, 0, none⟩) (show w.heap.size + 1 < b10 + 1 by omega)).trans x0
              clear hFc hall
              go_big_quiet_op
              first | exact hK | (apply Exists.intro; refine ⟨fun _ => ?_, ?_⟩; (· fail); exact hK)
            (try simp only [Act.put, List.setIfInBounds_toArray, List.set_cons_zero, List.set_cons_succ])
            refine segQuiet rfl rfl ?_
            apply Exists.intro
            refine ⟨fun b' F hF hf K hK => ?_, ?_⟩
            · have hFc := hF.cls
              have hall : ∀ d, Below (b10 + 1) R3 (F d) := fun d => by
                cases b'
                · exact (hFc d).mono HQ.out.1
                · exact HQ.out.2.1 _ (hFc d)
              have q0 : ∀ d, (F d).cell? ⟨b10, 0, none⟩ = some vp := fun d => ((hall d).cell (p := ⟨b10, 0, none⟩) (show b10 < b10 + 1 by omega)).trans t0
              have q1 : ∀ d, (F d).cell? ⟨w.heap.size, 0, none⟩ = some (.slice (some ⟨qP, oP, none⟩) n c1) := fun d => ((hall d).cell (p := ⟨w.heap.size, 0, none⟩) (show w.heap.size < b10 + 1 by omega)).trans a0
              have q2 : ∀ d, (F d).cell? ⟨qP, oP + k, none⟩ = some (.int .i64 Y) := fun d => ((hall d).cell (p := ⟨qP, oP + k, none⟩) (show qP < b10 + 1 by omega)).trans y1
              have q3 : ∀ d, (F d).cell? ⟨w.heap.size + 1, 0, none⟩ = some (.int .i64 ss) := fun d => ((hall d).cell (p := ⟨w.heap.size + 1, 0, none⟩) (show w.heap.size + 1 < b10 + 1 by omega)).trans x0
              clear hFc hall
              go_big_quiet_op
              first | exact hK | (apply Exists.intro; refine ⟨fun _ => ?_, ?_⟩; (· fail); exact hK)
            (try simp only [Act.put, List.setIfInBounds_toArray, List.set_cons_zero, List.set_cons_succ])
            refine segQuiet rfl rfl ?_
            apply Exists.intro
            refine ⟨fun b' F hF hf K hK => ?_, ?_⟩
            · have hFc := hF.cls
              have hall : ∀ d, Below (b10 + 1) R3 (F d) := fun d => by
                cases b'
                · exact (hFc d).mono HQ.out.1
                · exact HQ.out.2.1 _ (hFc d)
              have q0 : ∀ d, (F d).cell? ⟨b10, 0, none⟩ = some vp := fun d => ((hall d).cell (p := ⟨b10, 0, none⟩) (show b10 < b10 + 1 by omega)).trans t0
              have q1 : ∀ d, (F d).cell? ⟨w.heap.size, 0, none⟩ = some (.slice (some ⟨qP, oP, none⟩) n c1) := fun d => ((hall d).cell (p := ⟨w.heap.size, 0, none⟩) (show w.heap.size < b10 + 1 by omega)).trans a0
              have q2 : ∀ d, (F d).cell? ⟨qP, oP + k, none⟩ = some (.int .i64 Y) := fun d => ((hall d).cell (p := ⟨qP, oP + k, none⟩) (show qP < b10 + 1 by omega)).trans y1
              have q3 : ∀ d, (F d).cell? ⟨w.heap.size + 1, 0, none⟩ = some (.int .i64 ss) := fun d => ((hall d).cell (p := ⟨w.heap.size + 1, 0, none⟩) (show w.heap.size + 1 < b10 + 1 by omega)).trans x0
              clear hFc hall
              go_big_quiet_op
              first | exact hK | (apply Exists.intro; refine ⟨fun _ => ?_, ?_⟩; (· fail); exact hK)
            (try simp only [Act.put, List.setIfInBounds_toArray, List.set_cons_zero, List.set_cons_succ])
            refine segQuiet rfl rfl ?_
            apply Exists.intro
            refine ⟨fun b' F hF hf K hK => ?_, ?_⟩
            · have hFc := hF.cls
              have hall : ∀ d, Below (b10 + 1) R3 (F d) := fun d => by
                cases b'
                · exact (hFc d).mono HQ.out.1
                · exact HQ.out.2.1 _ (hFc d)
              have q0 : ∀ d, (F d).cell? ⟨b10, 0, none⟩ = some vp := fun d => ((hall d).cell (p := ⟨b10, 0, none⟩) (show b10 < b10 + 1 by omega)).trans t0
              have q1 : ∀ d, (F d).cell? ⟨w.heap.size, 0, none⟩ = some (.slice (some ⟨qP, oP, none⟩) n c1) := fun d => ((hall d).cell (p := ⟨w.heap.size, 0, none⟩) (show w.heap.size < b10 + 1 by omega)).trans a0
              have q2 : ∀ d, (F d).cell? ⟨qP, oP + k, none⟩ = some (.int .i64 Y) := fun d => ((hall d).cell (p := ⟨qP, oP + k, none⟩) (show qP < b10 + 1 by omega)).trans y1
              have q3 : ∀ d, (F d).cell? ⟨w.heap.size + 1, 0, none⟩ = some (.int .i64 ss) := fun d => ((hall d).cell (p := ⟨w.heap.size + 1, 0, none⟩) (show w.heap.size + 1 < b10 + 1 by omega)).trans x0
              clear hFc hall
              go_big_quiet_op
              first | exact hK | (apply Exists.intro; refine ⟨fun _ => ?_, ?_⟩; (· with_reducible exact hF.call (cM2.out _)); exact hK)
            (try simp only [Act.put, List.setIfInBounds_toArray, List.set_cons_zero, List.set_cons_succ])
            refine segQuiet rfl rfl ?_
            apply Exists.intro
            refine ⟨fun b' F hF hf K hK => ?_, ?_⟩
            · have hFc := hF.cls
              have hall : ∀ d, Below (b10 + 1) R3 (F d) := fun d => by
                cases b'
                · exact (hFc d).mono HQ.out.1
                · exact HQ.out.2.1 _ (hFc d)
              have q0 : ∀ d, (F d).cell? ⟨b10, 0, none⟩ = some vp := fun d => ((hall d).cell (p := ⟨b10, 0, none⟩) (show b10 < b10 + 1 by omega)).trans t0
              have q1 : ∀ d, (F d).cell? ⟨w.heap.size, 0, none⟩ = some (.slice (some ⟨qP, oP, none⟩) n c1) := fun d => ((hall d).cell (p := ⟨w.heap.size, 0, none⟩) (show w.heap.size < b10 + 1 by omega)).trans a0
              have q2 : ∀ d, (F d).cell? ⟨qP, oP + k, none⟩ = some (.int .i64 Y) := fun d => ((hall d).cell (p := ⟨qP, oP + k, none⟩) (show qP < b10 + 1 by omega)).trans y1
              have q3 : ∀ d, (F d).cell? ⟨w.heap.size + 1, 0, none⟩ = some (.int .i64 ss) := fun d => ((hall d).cell (p := ⟨w.heap.size + 1, 0, none⟩) (show w.heap.size + 1 < b10 + 1 by omega)).trans x0
              clear hFc hall
              go_big_quiet_op
              first | exact hK | (apply Exists.intro; refine ⟨fun _ => ?_, ?_⟩; (· with_reducible exact hF.call (cS1.out _)); exact hK)
            (try simp only [Act.put, List.setIfInBounds_toArray, List.set_cons_zero, List.set_cons_succ])
            refine segTold rfl (by decide) rfl ?_ ?_
            · intro b' F hF hf d
              have hFc := hF.cls
              have hcls : R3.heap.size ≤ (F d).heap.size := by
                cases b'
                · exact (hFc d).size
                · exact (hFc d).size
              simp [yieldsR, yieldsUpon, go_sem]
              exact ⟨⟨(F d).heap.size, rfl, heap_alloc_new (F d) _, hcls⟩, up_alloc _ _⟩
            (try simp only [Act.put, List.setIfInBounds_toArray, List.set_cons_zero, List.set_cons_succ])
            refine segBusy rfl rfl rfl ?_ ?_
            · intro W hW hf
              have h7 := hf _ List.mem_cons_self (by rfl) W
              obtain ⟨g7, e7, hg7, _⟩ := h7
              simp only [] at e7
              obtain ⟨g8, c8, w8, hr8, ho8, hgr8, hl8⟩ := app_one fixT (by decide) 23 W (b10 + 1) vp (P'.take k) (HRW.out.1.up hW) g7 PP hg7 HLK.out.1 (Nat.le_trans HRW.out.2.1 (Below.size hW))
              rw [HLK.out.2.2] at hr8 ho8
              simp [leavesR, leavesUpon, execOp, resolve, invoke, builtin, Act.eval, e7, hr8, Result.andThen]
              exact ⟨⟨g8, c8, rfl, ho8, hl8.imp id fun h => Nat.le_trans (Below.size hW) h⟩, grown_trans (below_grown _ hW) hgr8, hgr8⟩
            (try simp only [Act.put, List.setIfInBounds_toArray, List.set_cons_zero, List.set_cons_succ])
            refine segQuiet rfl rfl ?_
            apply Exists.intro
            refine ⟨fun b' F hF hf K hK => ?_, ?_⟩
            · have hFc := hF.cls
              have hall : ∀ d, Below (b10 + 1) R3 (F d) := fun d => by
                cases b'
                · exact (hFc d).mono HQ.out.1
                · exact HQ.out.2.1 _ (hFc d)
              have q0 : ∀ d, (F d).cell? ⟨b10, 0, none⟩ = some vp := fun d => ((hall d).cell (p := ⟨b10, 0, none⟩) (show b10 < b10 + 1 by omega)).trans t0
              have q1 : ∀ d, (F d).cell? ⟨w.heap.size, 0, none⟩ = some (.slice (some ⟨qP, oP, none⟩) n c1) := fun d => ((hall d).cell (p := ⟨w.heap.size, 0, none⟩) (show w.heap.size < b10 + 1 by omega)).trans a0
              have q2 : ∀ d, (F d).cell? ⟨qP, oP + k, none⟩ = some (.int .i64 Y) := fun d => ((hall d).cell (p := ⟨qP, oP + k, none⟩) (show qP < b10 + 1 by omega)).trans y1
              have q3 : ∀ d, (F d).cell? ⟨w.heap.size + 1, 0, none⟩ = some (.int .i64 ss) := fun d => ((hall d).cell (p := ⟨w.heap.size + 1, 0, none⟩) (show w.heap.size + 1 < b10 + 1 by omega)).trans x0
              clear hFc hall
              go_big_quiet_op
              first | exact hK | (apply Exists.intro; refine ⟨fun _ => ?_, ?_⟩; (· fail); exact hK)
            (try simp only [Act.put, List.setIfInBounds_toArray, List.set_cons_zero, List.set_cons_succ])
            refine segEnd ?_
            exact rfl
          · exact fun x => rfl
          · intro w8 xs8 hC8 hf8
            refine from_list 15 (by kernel_rfl) ?_
            simp only [List.drop_succ_cons, List.drop_zero]
            have h8 := hf8 _ (List.mem_cons_of_mem _ List.mem_cons_self)
            obtain ⟨x5, e5⟩ : ∃ z, xs8 12 = z := ⟨_, rfl⟩
            obtain ⟨x6, e6⟩ : ∃ z, xs8 13 = z := ⟨_, rfl⟩
            simp only [e6] at h8
            simp only [e5, e6]
            obtain ⟨g8, c8, rfl, ho8, hl8⟩ := h8
            have hC9 : R3.grownBy w8 vp.ownBlock := hC8
            have h9 := HQ.out.2.1 _ hC9
            have z9 : Cel w8 b10 vp vm2 := HQ.out.2.2.1.low h9 (by omega)
            obtain ⟨z0, z1, z2, z3⟩ := z9
            have hM8 := HQ.out.2.2.2.1.grown hC9 HQ.out.2.2.2.2.1
            have s8 := (Stay.refl b10 w8).set 0 (.slice (some ⟨g8, 0, none⟩) (k + 1) c8)
            have H9 : Hid (OwnK .i64 27 (w8.setCell ⟨b10, 0, none⟩ (.slice (some ⟨g8, 0, none⟩) (k + 1) c8)) (b10 + 1) (.slice (some ⟨g8, 0, none⟩) (k + 1) c8) (P'.take (k + 1)) ∧ OwnK .i64 27 (w8.setCell ⟨b10, 0, none⟩ (.slice (some ⟨g8, 0, none⟩) (k + 1) c8)) (b10 + 1) vm2 (M'.take (k + 1)) ∧ Ap (.slice (some ⟨g8, 0, none⟩) (k + 1) c8) vm2) := ⟨by
              rw [HLT.out.1]
              exact ho8.stay s8 (ho8.off (by omega)), by
              rw [HLT.out.2]
              exact hM8.stay s8 (hM8.off (by omega)), fun g hg => by
              obtain ⟨g1, g2⟩ := hg
              cases g1
              rcases hl8 with hl8 | hl8
              · exact HQ.out.2.2.2.2.1 _ ⟨hl8, g2⟩
              · have q9 : g8 < R3.heap.size := HQ.out.2.2.2.1.lt g2
                omega⟩
            have H10 : Hid (Cel (w8.setCell ⟨b10, 0, none⟩ (.slice (some ⟨g8, 0, none⟩) (k + 1) c8)) b10 (.slice (some ⟨g8, 0, none⟩) (k + 1) c8) vm2) := ⟨set_same z0, by rw [set_off (by omega)]; exact z1, by simp [z2], by simp [z3]⟩
            have H11 : Hid (Below b10 W5 (w8.setCell ⟨b10, 0, none⟩ (.slice (some ⟨g8, 0, none⟩) (k + 1) c8))) := (HQ.out.2.2.2.2.2.trans (h9.mono (Nat.le_succ _))).setCell (p := ⟨b10, 0, none⟩) (Nat.le_refl _) _
            clear hf8 hC8 ho8 hl8 hC9 h9 hM8 s8 e5 e6 t0 t1 t2 t3 a0 y1 x0 cM2 cS1 z1 HQ HRW
            have hn2 : (n : Int) ≤ 1048576 := by have := HK.out.2.2.2.2.2.2.2.2.2.2; omega
            go_wp2
            go_roundg (n - (k + 1))
            case measure => omega
            case rel => exact ⟨k + 1, _, _, by omega, rfl, by first | rfl | simp, H9, H10, H11⟩
      · go_wp2_with fail
        refine flow 10 107 (by kernel_rfl) rfl rfl (by kernel_rfl) ?_
        apply Exists.intro
        refine ⟨?_, ?_⟩
        · intro F hF
          have hFc := hF.cell
          have hFf := hF.frozen
          simp only [List.take_succ_cons, List.take_zero, List.eraseIdx_cons_succ, List.eraseIdx_cons_zero]
          repeat (go_big_quiet_step (first | with_reducible exact hF.call (cM1.out _) | with_reducible exact hF.call (cA1.out _)))
          refine wpQuiet_nil ?_
          exact rfl
        · intro W1 hb1
          simp only [List.drop_succ_cons, List.drop_zero]
          have hb12 := bstep H2.out.2 hb1
          obtain ⟨t0, t1, t2, t3⟩ := HT.out.up hb12
          have hU := up_alloc W1 (.cells #[.int .i64 MM] 27)
          have H5 : Hid (OwnK .i64 27 (W1.alloc (.cells #[.int .i64 MM] 27)) (b10 + 1) vm (M'.take k) ∧ OwnK .i64 27 (W1.alloc (.cells #[.int .i64 MM] 27)) (b10 + 1) vp (P'.take k) ∧ Ap vm vp ∧ Cel (W1.alloc (.cells #[.int .i64 MM] 27)) b10 vp vm ∧ Nums .i64 (W1.alloc (.cells #[.int .i64 MM] 27)) (.slice (some ⟨W1.heap.size, 0, none⟩) 1 1) [MM] ∧ Below b10 W5 (W1.alloc (.cells #[.int .i64 MM] 27)) ∧ b10 + 1 ≤ (W1.alloc (.cells #[.int .i64 MM] 27)).heap.size) := ⟨(HR.out.2.1.up hb12).up hU, (HR.out.1.up hb12).up hU, HR.out.2.2.symm, (HT.out.up hb12).up hU, nums_lit (k := .i64) W1 [MM] 1 (0, 0) rfl, HB.out.trans ((bstep hb12 hU).mono (Nat.le_of_succ_le H2.out.1)), Nat.le_trans HX5.out.2.2.2.2.2.2 (HB.out.trans ((bstep hb12 hU).mono (Nat.le_of_succ_le H2.out.1))).size⟩
          have kt := cell_lt t0
          clear hb1 hb12 hU a0 a1 x0 x1 x2 y1 zy za zx cM1 cA1 HR HB HT H2
          go_wp2_with (at_builtin; refine wpList_append_apart fixT (by decide) rfl (.tmp 86) (.tmp 88) rfl (b10 + 1) _ (M'.take k) rfl H5.out.1 _ MM _ rfl H5.out.2.2.2.2.1 HLK.out.2.1 H5.out.2.2.2.2.2.2 _ (Below.refl _ _) _ _ H5.out.2.1 H5.out.2.2.1 ?_; intro vm2 w6 H6 hB6; have hs6 := hB6.size; obtain ⟨pm, nm, cm, rfl, _⟩ := H6.out.1.nums.lst; have z6 := H5.out.2.2.2.1.low hB6 (Nat.lt_succ_self _); have HB6 := hid2 hB6 hB6; clear hB6; obtain ⟨z0, z1, z2, z3⟩ := z6)
          have s3 := (Stay.refl b10 w6).set 1 (.slice pm nm cm)
          have m3 := H6.out.1.stay s3 (H6.out.1.off (Nat.lt_succ_self _))
          have p3 := H6.out.2.1.stay s3 (H6.out.2.1.off (Nat.lt_succ_self _))
          have c3 : Cel (w6.setCell ⟨b10, 1, none⟩ (.slice pm nm cm)) b10 vp (.slice pm nm cm) := ⟨by rw [set_off (by omega)]; exact z0, set_same z1, by simp [z2], by simp [z3]⟩
          have b3 := (H5.out.2.2.2.2.2.1.trans (HB6.out.1.mono (Nat.le_succ _))).setCell (p := ⟨b10, 1, none⟩) (Nat.le_refl _) (.slice pm nm cm)
          have i3 : b10 + 1 ≤ (w6.setCell ⟨b10, 1, none⟩ (.slice pm nm cm)).heap.size := by
            have := H5.out.2.2.2.2.2.2
            have e : (w6.setCell ⟨b10, 1, none⟩ (.slice pm nm cm)).heap.size = w6.heap.size := by simp
            omega
          generalize eR3 : w6.setCell ⟨b10, 1, none⟩ (.slice pm nm cm) = R3 at m3 p3 c3 b3 i3 ⊢
          obtain ⟨vm2, evm⟩ : ∃ v, Value.slice pm nm cm = v := ⟨_, rfl⟩
          rw [evm] at m3 c3
          have HRW : Hid (OwnK .i64 27 R3 (b10 + 1) vp (P'.take k) ∧ b10 + 1 ≤ R3.heap.size ∧ ∀ z, vp.ownBlock = some z → z < R3.heap.size) := ⟨p3, i3, fun z hz => p3.lt hz⟩
          have HQ : Hid (b10 + 1 ≤ R3.heap.size ∧ (∀ W, R3.grownBy W vp.ownBlock → Below (b10 + 1) R3 W) ∧ Cel R3 b10 vp vm2 ∧ OwnK .i64 27 R3 (b10 + 1) vm2 (M'.take k ++ [MM]) ∧ Ap vp vm2 ∧ Below b10 W5 R3) := ⟨i3, fun W hW => Below.grown (Below.refl _ _) hW i3 fun q hq => p3.block q hq, c3, m3, by have := H6.out.2.2.symm; rw [evm] at this; exact this, b3⟩
          obtain ⟨t0, t1, t2, t3⟩ := c3
          obtain ⟨a0, _, _, _⟩ := HX5.out.1.low b3 (by omega)
          obtain ⟨x0, _, _⟩ := HX5.out.2.1.low b3 (by omega)
          have y1 := (b3.cell (p := ⟨qP, oP + k, none⟩) (show qP < b10 by omega)).trans ((HX5.out.2.2.2.2.1.cell (p := ⟨qP, oP + k, none⟩) kP).trans HC.out.1)
          clear eR3 evm s3 m3 p3 b3 i3 H6 HB6 H5 z0 z1 z2 z3 hs6 kt
          refine from_region (by kernel_rfl) ?_
          refine seg (fun q W => match q with | false => Below R3.heap.size R3 W | true => R3.grownBy W vp.ownBlock) (fun W W' => W.grownBy W' vp.ownBlock) 13 [⟨12, 103, LitS 27 R3.heap.size [.int .i64 PP]⟩, ⟨13, 104, OwnP 27 (b10 + 1) R3.heap.size vp.ownBlock (k + 1) (P'.take k ++ [PP])⟩] 0 15 107 rfl rfl (by kernel_rfl) (by rfl) ?_ ?_ ?_ ?_ ?_ ?_
          · intro q W W' h hb
            cases q
            · exact bstep h hb
            · exact grown_up h hb
          · exact ⟨rfl, rfl, rfl, Nat.le_refl _, fun _ _ => rfl⟩
          · exact .inl ⟨_, List.mem_cons_of_mem _ List.mem_cons_self, rfl⟩
          · intro e he v W W' h hb
            simp only [List.mem_cons, List.not_mem_nil, or_false] at he
            rcases he with rfl | rfl
            · exact LitS.up h hb
            · exact OwnP.up h hb
          · intro e he hne v W W' h hc ht
            simp only [List.mem_cons, List.not_mem_nil, or_false] at he
            rcases he with rfl | rfl
            · exact LitS.grown h ht HRW.out.2.2
            · exact absurd rfl hne
          apply Exists.intro
          refine ⟨fun x => ?_, ?_, ?_⟩
          · simp only [List.drop_succ_cons, List.drop_zero, List.take_succ_cons, List.take_zero]
            refine segQuiet rfl rfl ?_
            apply Exists.intro
            refine ⟨fun b' F hF hf K hK => ?_, ?_⟩
            · have hFc := hF.cls
              have hall : ∀ d, Below (b10 + 1) R3 (F d) := fun d => by
                cases b'
                · exact (hFc d).mono HQ.out.1
                · exact HQ.out.2.1 _ (hFc d)
              have q0 : ∀ d, (F d).cell? ⟨b10, 0, none⟩ = some vp := fun d => ((hall d).cell (p := ⟨b10, 0, none⟩) (show b10 < b10 + 1 by omega)).trans t0
              have q1 : ∀ d, (F d).cell? ⟨w.heap.size, 0, none⟩ = some (.slice (some ⟨qP, oP, none⟩) n c1) := fun d => ((hall d).cell (p := ⟨w.heap.size, 0, none⟩) (show w.heap.size < b10 + 1 by omega)).trans a0
              have q2 : ∀ d, (F d).cell? ⟨qP, oP + k, none⟩ = some (.int .i64 Y) := fun d => ((hall d).cell (p := ⟨qP, oP + k, none⟩) (show qP < b10 + 1 by omega)).trans y1
              have q3 : ∀ d, (F d).cell? ⟨w.heap.size + 1, 0, none⟩ = some (.int .i64 ss) := fun d => ((hall d).cell (p := ⟨w.heap.size + 1, 0, none⟩) (show w.heap.size + 1 < b10 + 1 by omega)).trans x0
              clear hFc hall
              go_big_quiet_op
              first | exact hK | (apply Exists.intro; refine ⟨fun _ => ?_, ?_⟩; (· fail); exact hK)
            (try simp only [Act.put, List.setIfInBounds_toArray, List.set_cons_zero, List.set_cons_succ])
            refine segQuiet rfl rfl ?_
            apply Exists.intro
            refine ⟨fun b' F hF hf K hK => ?_, ?_⟩
            · have hFc := hF.cls
              have hall : ∀ d, Below (b10 + 1) R3 (F d) := fun d => by
                cases b'
                · exact (hFc d).mono HQ.out.1
                · exact HQ.out.2.1 _ (hFc d)
              have q0 : ∀ d, (F d).cell? ⟨b10, 0, none⟩ = some vp := fun d => ((hall d).cell (p := ⟨b10, 0, none⟩) (show b10 < b10 + 1 by omega)).trans t0
              have q1 : ∀ d, (F d).cell? ⟨w.heap.size, 0, none⟩ = some (.slice (some ⟨qP, oP, none⟩) n c1) := fun d => ((hall d).cell (p := ⟨w.heap.size, 0, none⟩) (show w.heap.size < b10 + 1 by omega)).trans a0
              have q2 : ∀ d, (F d).cell? ⟨qP, oP + k, none⟩ = some (.int .i64 Y) := fun d => ((hall d).cell (p := ⟨qP, oP + k, none⟩) (show qP < b10 + 1 by omega)).trans y1
              have q3 : ∀ d, (F d).cell? ⟨w.heap.size + 1, 0, none⟩ = some (.int .i64 ss) := fun d => ((hall d).cell (p := ⟨w.heap.size + 1, 0, none⟩) (show w.heap.size + 1 < b10 + 1 by omega)).trans x0
              clear hFc hall
              go_big_quiet_op
              first | exact hK | (apply Exists.intro; refine ⟨fun _ => ?_, ?_⟩; (· fail); exact hK)
            (try simp only [Act.put, List.setIfInBounds_toArray, List.set_cons_zero, List.set_cons_succ])
            refine segQuiet rfl rfl ?_
            apply Exists.intro
            refine ⟨fun b' F hF hf K hK => ?_, ?_⟩
            · have hFc := hF.cls
              have hall : ∀ d, Below (b10 + 1) R3 (F d) := fun d => by
                cases b'
                · exact (hFc d).mono HQ.out.1
                · exact HQ.out.2.1 _ (hFc d)
              have q0 : ∀ d, (F d).cell? ⟨b10, 0, none⟩ = some vp := fun d => ((hall d).cell (p := ⟨b10, 0, none⟩) (show b10 < b10 + 1 by omega)).trans t0
              have q1 : ∀ d, (F d).cell? ⟨w.heap.size, 0, none⟩ = some (.slice (some ⟨qP, oP, none⟩) n c1) := fun d => ((hall d).cell (p := ⟨w.heap.size, 0, none⟩) (show w.heap.size < b10 + 1 by omega)).trans a0
              have q2 : ∀ d, (F d).cell? ⟨qP, oP + k, none⟩ = some (.int .i64 Y) := fun d => ((hall d).cell (p := ⟨qP, oP + k, none⟩) (show qP < b10 + 1 by omega)).trans y1
              have q3 : ∀ d, (F d).cell? ⟨w.heap.size + 1, 0, none⟩ = some (.int .i64 ss) := fun d => ((hall d).cell (p := ⟨w.heap.size + 1, 0, none⟩) (show w.heap.size + 1 < b10 + 1 by omega)).trans x0
              clear hFc hall
              go_big_quiet_op
              first | exact hK | (apply Exists.intro; refine ⟨fun _ => ?_, ?_⟩; (· fail); exact hK)
            (try simp only [Act.put, List.setIfInBounds_toArray, List.set_cons_zero, List.set_cons_succ])
            refine segQuiet rfl rfl ?_
            apply Exists.intro
            refine ⟨fun b' F hF hf K hK => ?_, ?_⟩
            · have hFc := hF.cls
              have hall : ∀ d, Below (b10 + 1) R3 (F d) := fun d => by
                cases b'
                · exact (hFc d).mono HQ.out.1
                · exact HQ.out.2.1 _ (hFc d)
              have q0 : ∀ d, (F d).cell? ⟨b10, 0, none⟩ = some vp := fun d => ((hall d).cell (p := ⟨b10, 0, none⟩) (show b10 < b10 + 1 by omega)).trans t0
              have q1 : ∀ d, (F d).cell? ⟨w.heap.size, 0, none⟩ = some (.slice (some ⟨qP, oP, none⟩) n c1) := fun d => ((hall d).cell (p := ⟨w.heap.size, 0, none⟩) (show w.heap.size < b10 + 1 by omega)).trans a0
              have q2 : ∀ d, (F d).cell? ⟨qP, oP + k, none⟩ = some (.int .i64 Y) := fun d => ((hall d).cell (p := ⟨qP, oP + k, none⟩) (show qP < b10 + 1 by omega)).trans y1
              have q3 : ∀ d, (F d).cell? ⟨w.heap.size + 1, 0, none⟩ = some (.int .i64 ss) := fun d => ((hall d).cell (p := ⟨w.heap.size + 1, 0, none⟩) (show w.heap.size + 1 < b10 + 1 by omega)).trans x0
              clear hFc hall
              go_big_quiet_op
              first | exact hK | (apply Exists.intro; refine ⟨fun _ => ?_, ?_⟩; (· fail); exact hK)
            (try simp only [Act.put, List.setIfInBounds_toArray, List.set_cons_zero, List.set_cons_succ])
            refine segQuiet rfl rfl ?_
            apply Exists.intro
            refine ⟨fun b' F hF hf K hK => ?_, ?_⟩
            · have hFc := hF.cls
              have hall : ∀ d, Below (b10 + 1) R3 (F d) := fun d => by
                cases b'
                · exact (hFc d).mono HQ.out.1
                · exact HQ.out.2.1 _ (hFc d)
              have q0 : ∀ d, (F d).cell? ⟨b10, 0, none⟩ = some vp := fun d => ((hall d).cell (p := ⟨b10, 0, none⟩) (show b10 < b10 + 1 by omega)).trans t0
              have q1 : ∀ d, (F d).cell? ⟨w.heap.size, 0, none⟩ = some (.slice (some ⟨qP, oP, none⟩) n c1) := fun d => ((hall d).cell (p := ⟨w.heap.size, 0, none⟩) (show w.heap.size < b10 + 1 by omega)).trans a0
              have q2 : ∀ d, (F d).cell? ⟨qP, oP + k, none⟩ = some (.int .i64 Y) := fun d => ((hall d).cell (p := ⟨qP, oP + k, none⟩) (show qP < b10 + 1 by omega)).trans y1
              have q3 : ∀ d, (F d).cell? ⟨w.heap.size + 1, 0, none⟩ = some (.int .i64 ss) := fun d => ((hall d).cell (p := ⟨w.heap.size + 1, 0, none⟩) (show w.heap.size + 1 < b10 + 1 by omega)).trans x0
              clear hFc hall
              go_big_quiet_op
              first | exact hK | (apply Exists.intro; refine ⟨fun _ => ?_, ?_⟩; (· fail); exact hK)
            (try simp only [Act.put, List.setIfInBounds_toArray, List.set_cons_zero, List.set_cons_succ])
            refine segQuiet rfl rfl ?_
            apply Exists.intro
            refine ⟨fun b' F hF hf K hK => ?_, ?_⟩
            · have hFc := hF.cls
              have hall : ∀ d, Below (b10 + 1) R3 (F d) := fun d => by
                cases b'
                · exact (hFc d).mono HQ.out.1
                · exact HQ.out.2.1 _ (hFc d)
              have q0 : ∀ d, (F d).cell? ⟨b10, 0, none⟩ = some vp := fun d => ((hall d).cell (p := ⟨b10, 0, none⟩) (show b10 < b10 + 1 by omega)).trans t0
              have q1 : ∀ d, (F d).cell? ⟨w.heap.size, 0, none⟩ = some (.slice (some ⟨qP, oP, none⟩) n c1) := fun d => ((hall d).cell (p := ⟨w.heap.size, 0, none⟩) (show w.heap.size < b10 + 1 by omega)).trans a0
              have q2 : ∀ d, (F d).cell? ⟨qP, oP + k, none⟩ = some (.int .i64 Y) := fun d => ((hall d).cell (p := ⟨qP, oP + k, none⟩) (show qP < b10 + 1 by omega)).trans y1
              have q3 : ∀ d, (F d).cell? ⟨w.heap.size + 1, 0, none⟩ = some (.int .i64 ss) := fun d => ((hall d).cell (p := ⟨w.heap.size + 1, 0, none⟩) (show w.heap.size + 1 < b10 + 1 by omega)).trans x0
              clear hFc hall
              go_big_quiet_op
              first | exact hK | (apply Exists.intro; refine ⟨fun _ => ?_, ?_⟩; (· fail); exact hK)
            (try simp only [Act.put, List.setIfInBounds_toArray, List.set_cons_zero, List.set_cons_succ])
            refine segQuiet rfl rfl ?_
            apply Exists.intro
            refine ⟨fun b' F hF hf K hK => ?_, ?_⟩
            · have hFc := hF.cls
              have hall : ∀ d, Below (b10 + 1) R3 (F d) := fun d => by
                cases b'
                · exact (hFc d).mono HQ.out.1
                · exact HQ.out.2.1 _ (hFc d)
              have q0 : ∀ d, (F d).cell? ⟨b10, 0, none⟩ = some vp := fun d => ((hall d).cell (p := ⟨b10, 0, none⟩) (show b10 < b10 + 1 by omega)).trans t0
              have q1 : ∀ d, (F d).cell? ⟨w.heap.size, 0, none⟩ = some (.slice (some ⟨qP, oP, none⟩) n c1) := fun d => ((hall d).cell (p := ⟨w.heap.size, 0, none⟩) (show w.heap.size < b10 + 1 by omega)).trans a0
              have q2 : ∀ d, (F d).cell? ⟨qP, oP + k, none⟩ = some (.int .i64 Y) := fun d => ((hall d).cell (p := ⟨qP, oP + k, none⟩) (show qP < b10 + 1 by omega)).trans y1
              have q3 : ∀ d, (F d).cell? ⟨w.heap.size + 1, 0, none⟩ = some (.int .i64 ss) := fun d => ((hall d).cell (p := ⟨w.heap.size + 1, 0, none⟩) (show w.heap.size + 1 < b10 + 1 by omega)).trans x0
              clear hFc hall
              go_big_quiet_op
              first | exact hK | (apply Exists.intro; refine ⟨fun _ => ?_, ?_⟩; (· fail); exact hK)
            (try simp only [Act.put, List.setIfInBounds_toArray, List.set_cons_zero, List.set_cons_succ])
            refine segQuiet rfl rfl ?_
            apply Exists.intro
            refine ⟨fun b' F hF hf K hK => ?_, ?_⟩
            · have hFc := hF.cls
              have hall : ∀ d, Below (b10 + 1) R3 (F d) := fun d => by
                cases b'
                · exact (hFc d).mono HQ.out.1
                · exact HQ.out.2.1 _ (hFc d)
              have q0 : ∀ d, (F d).cell? ⟨b10, 0, none⟩ = some vp := fun d => ((hall d).cell (p := ⟨b10, 0, none⟩) (show b10 < b10 + 1 by omega)).trans t0
              have q1 : ∀ d, (F d).cell? ⟨w.heap.size, 0, none⟩ = some (.slice (some ⟨qP, oP, none⟩) n c1) := fun d => ((hall d).cell (p := ⟨w.heap.size, 0, none⟩) (show w.heap.size < b10 + 1 by omega)).trans a0
              have q2 : ∀ d, (F d).cell? ⟨qP, oP + k, none⟩ = some (.int .i64 Y) := fun d => ((hall d).cell (p := ⟨qP, oP + k, none⟩) (show qP < b10 + 1 by omega)).trans y1
              have q3 : ∀ d, (F d).cell? ⟨w.heap.size + 1, 0, none⟩ = some (.int .i64 ss) := fun d => ((hall d).cell (p := ⟨w.heap.size + 1, 0, none⟩) (show w.heap.size + 1 < b10 + 1 by omega)).trans x0
              clear hFc hall
              go_big_quiet_op
              first | exact hK | (apply Exists.intro; refine ⟨fun _ => ?_, ?_⟩; (· fail); exact hK)
            (try simp only [Act.put, List.setIfInBounds_toArray, List.set_cons_zero, List.set_cons_succ])
            refine segQuiet rfl rfl ?_
            apply Exists.intro
            refine ⟨fun b' F hF hf K hK => ?_, ?_⟩
            · have hFc := hF.cls
              have hall : ∀ d, Below (b10 + 1) R3 (F d) := fun d => by
                cases b'
                · exact (hFc d).mono HQ.out.1
                · exact HQ.out.2.1 _ (hFc d)
              have q0 : ∀ d, (F d).cell? ⟨b10, 0, none⟩ = some vp := fun d => ((hall d).cell (p := ⟨b10, 0, none⟩) (show b10 < b10 + 1 by omega)).trans t0
              have q1 : ∀ d, (F d).cell? ⟨w.heap.size, 0, none⟩ = some (.slice (some ⟨qP, oP, none⟩) n c1) := fun d => ((hall d).cell (p := ⟨w.heap.size, 0, none⟩) (show w.heap.size < b10 + 1 by omega)).trans a0
              have q2 : ∀ d, (F d).cell? ⟨qP, oP + k, none⟩ = some (.int .i64 Y) := fun d => ((hall d).cell (p := ⟨qP, oP + k, none⟩) (show qP < b10 + 1 by omega)).trans y1
              have q3 : ∀ d, (F d).cell? ⟨w.heap.size + 1, 0, none⟩ = some (.int .i64 ss) := fun d => ((hall d).cell (p := ⟨w.heap.size + 1, 0, none⟩) (show w.heap.size + 1 < b10 + 1 by omega)).trans x0
              clear hFc hall
              go_big_quiet_op
              first | exact hK | (apply Exists.intro; refine ⟨fun _ => ?_, ?_⟩; (· fail); exact hK)
            (try simp only [Act.put, List.setIfInBounds_toArray, List.set_cons_zero, List.set_cons_succ])
            refine segQuiet rfl rfl ?_
            apply Exists.intro
            refine ⟨fun b' F hF hf K hK => ?_, ?_⟩
            · have hFc := hF.cls
              have hall : ∀ d, Below (b10 + 1) R3 (F d) := fun d => by
                cases b'
                · exact (hFc d).mono HQ.out.1
                · exact HQ.out.2.1 _ (hFc d)
              have q0 : ∀ d, (F d).cell? ⟨b10, 0, none⟩ = some vp := fun d => ((hall d).cell (p := ⟨b10, 0, none⟩) (show b10 < b10 + 1 by omega)).trans t0
              have q1 : ∀ d, (F d).cell? ⟨w.heap.size, 0, none⟩ = some (.slice (some ⟨qP, oP, none⟩) n c1) := fun d => ((hall d).cell (p := ⟨w.heap.size, 0, none⟩) (show w.heap.size < b10 + 1 by omega)).trans a0
              have q2 : ∀ d, (F d).cell? ⟨qP, oP + k, none⟩ = some (.int .i64 Y) := fun d => ((hall d).cell (p := ⟨qP, oP + k, none⟩) (show qP < b10 + 1 by omega)).trans y1
              have q3 : ∀ d, (F d).cell? ⟨w.heap.size + 1, 0, none⟩ = some (.int .i64 ss) := fun d => ((hall d).cell (p := ⟨w.heap.size + 1, 0, none⟩) (show w.heap.size + 1 < b10 + 1 by omega)).trans x0
              clear hFc hall
              go_big_quiet_op
              first | exact hK | (apply Exists.intro; refine ⟨fun _ => ?_, ?_⟩; (· fail); exact hK)
            (try simp only [Act.put, List.setIfInBounds_toArray, List.set_cons_zero, List.set_cons_succ])
            refine segQuiet rfl rfl ?_
            apply Exists.intro
            refine ⟨fun b' F hF hf K hK => ?_, ?_⟩
            · have hFc := hF.cls
              have hall : ∀ d, Below (b10 + 1) R3 (F d) := fun d => by
                cases b'
                · exact (hFc d).mono HQ.out.1
                · exact HQ.out.2.1 _ (hFc d)
              have q0 : ∀ d, (F d).cell? ⟨b10, 0, none⟩ = some vp := fun d => ((hall d).cell (p := ⟨b10, 0, none⟩) (show b10 < b10 + 1 by omega)).trans t0
              have q1 : ∀ d, (F d).cell? ⟨w.heap.size, 0, none⟩ = some (.slice (some ⟨qP, oP, none⟩) n c1) := fun d => ((hall d).cell (p := ⟨w.heap.size, 0, none⟩) (show w.heap.size < b10 + 1 by omega)).trans a0
              have q2 : ∀ d, (F d).cell? ⟨qP, oP + k, none⟩ = some (.int .i64 Y) := fun d => ((hall d).cell (p := ⟨qP, oP + k, none⟩) (show qP < b10 + 1 by omega)).trans y1
              have q3 : ∀ d, (F d).cell? ⟨w.heap.size + 1, 0, none⟩ = some (.int .i64 ss) := fun d => ((hall d).cell (p := ⟨w.heap.size + 1, 0, none⟩) (show w.heap.size + 1 < b10 + 1 by omega)).trans x0
              clear hFc hall
              go_big_quiet_op
              first | exact hK | (apply Exists.intro; refine ⟨fun _ => ?_, ?_⟩; (· with_reducible exact hF.call (cM2.out _)); exact hK)
            (try simp only [Act.put, List.setIfInBounds_toArray, List.set_cons_zero, List.set_cons_succ])
            refine segQuiet rfl rfl ?_
            apply Exists.intro
            refine ⟨fun b' F hF hf K hK => ?_, ?_⟩
            · have hFc := hF.cls
              have hall : ∀ d, Below (b10 + 1) R3 (F d) := fun d => by
                cases b'
                · exact (hFc d).mono HQ.out.1
                · exact HQ.out.2.1 _ (hFc d)
              have q0 : ∀ d, (F d).cell? ⟨b10, 0, none⟩ = some vp := fun d => ((hall d).cell (p := ⟨b10, 0, none⟩) (show b10 < b10 + 1 by omega)).trans t0
              have q1 : ∀ d, (F d).cell? ⟨w.heap.size, 0, none⟩ = some (.slice (some ⟨qP, oP, none⟩) n c1) := fun d => ((hall d).cell (p := ⟨w.heap.size, 0, none⟩) (show w.heap.size < b10 + 1 by omega)).trans a0
              have q2 : ∀ d, (F d).cell? ⟨qP, oP + k, none⟩ = some (.int .i64 Y) := fun d => ((hall d).cell (p := ⟨qP, oP + k, none⟩) (show qP < b10 + 1 by omega)).trans y1
              have q3 : ∀ d, (F d).cell? ⟨w.heap.size + 1, 0, none⟩ = some (.int .i64 ss) := fun d => ((hall d).cell (p := ⟨w.heap.size + 1, 0, none⟩) (show w.heap.size + 1 < b10 + 1 by omega)).trans x0
              clear hFc hall
              go_big_quiet_op
              first | exact hK | (apply Exists.intro; refine ⟨fun _ => ?_, ?_⟩; (· with_reducible exact hF.call (cS1.out _)); exact hK)
            (try simp only [Act.put, List.setIfInBounds_toArray, List.set_cons_zero, List.set_cons_succ])
            refine segTold rfl (by decide) rfl ?_ ?_
            · intro b' F hF hf d
              have hFc := hF.cls
              have hcls : R3.heap.size ≤ (F d).heap.size := by
                cases b'
                · exact (hFc d).size
                · exact (hFc d).size
              simp [yieldsR, yieldsUpon, go_sem]
              exact ⟨⟨(F d).heap.size, rfl, heap_alloc_new (F d) _, hcls⟩, up_alloc _ _⟩
            (try simp only [Act.put, List.setIfInBounds_toArray, List.set_cons_zero, List.set_cons_succ])
            refine segBusy rfl rfl rfl ?_ ?_
            · intro W hW hf
              have h7 := hf _ List.mem_cons_self (by rfl) W
              obtain ⟨g7, e7, hg7, _⟩ := h7
              simp only [] at e7
              obtain ⟨g8, c8, w8, hr8, ho8, hgr8, hl8⟩ := app_one fixT (by decide) 23 W (b10 + 1) vp (P'.take k) (HRW.out.1.up hW) g7 PP hg7 HLK.out.1 (Nat.le_trans HRW.out.2.1 (Below.size hW))
              rw [HLK.out.2.2] at hr8 ho8
              simp [leavesR, leavesUpon, execOp, resolve, invoke, builtin, Act.eval, e7, hr8, Result.andThen]
              exact ⟨⟨g8, c8, rfl, ho8, hl8.imp id fun h => Nat.le_trans (Below.size hW) h⟩, grown_trans (below_grown _ hW) hgr8, hgr8⟩
            (try simp only [Act.put, List.setIfInBounds_toArray, List.set_cons_zero, List.set_cons_succ])
            refine segQuiet rfl rfl ?_
            apply Exists.intro
            refine ⟨fun b' F hF hf K hK => ?_, ?_⟩
            · have hFc := hF.cls
              have hall : ∀ d, Below (b10 + 1) R3 (F d) := fun d => by
                cases b'
                · exact (hFc d).mono HQ.out.1
                · exact HQ.out.2.1 _ (hFc d)
              have q0 : ∀ d, (F d).cell? ⟨b10, 0, none⟩ = some vp := fun d => ((hall d).cell (p := ⟨b10, 0, none⟩) (show b10 < b10 + 1 by omega)).trans t0
              have q1 : ∀ d, (F d).cell? ⟨w.heap.size, 0, none⟩ = some (.slice (some ⟨qP, oP, none⟩) n c1) := fun d => ((hall d).cell (p := ⟨w.heap.size, 0, none⟩) (show w.heap.size < b10 + 1 by omega)).trans a0
              have q2 : ∀ d, (F d).cell? ⟨qP, oP + k, none⟩ = some (.int .i64 Y) := fun d => ((hall d).cell (p := ⟨qP, oP + k, none⟩) (show qP < b10 + 1 by omega)).trans y1
              have q3 : ∀ d, (F d).cell? ⟨w.heap.size + 1, 0, none⟩ = some (.int .i64 ss) := fun d => ((hall d).cell (p := ⟨w.heap.size + 1, 0, none⟩) (show w.heap.size + 1 < b10 + 1 by omega)).trans x0
              clear hFc hall
              go_big_quiet_op
              first | exact hK | (apply Exists.intro; refine ⟨fun _ => ?_, ?_⟩; (· fail); exact hK)
            (try simp only [Act.put, List.setIfInBounds_toArray, List.set_cons_zero, List.set_cons_succ])
            refine segEnd ?_
            exact rfl
          · exact fun x => rfl
          · intro w8 xs8 hC8 hf8
            refine from_list 15 (by kernel_rfl) ?_
            simp only [List.drop_succ_cons, List.drop_zero]
            have h8 := hf8 _ (List.mem_cons_of_mem _ List.mem_cons_self)
            obtain ⟨x5, e5⟩ : ∃ z, xs8 12 = z := ⟨_, rfl⟩
            obtain ⟨x6, e6⟩ : ∃ z, xs8 13 = z := ⟨_, rfl⟩
            simp only [e6] at h8
            simp only [e5, e6]
            obtain ⟨g8, c8, rfl, ho8, hl8⟩ := h8
            have hC9 : R3.grownBy w8 vp.ownBlock := hC8
            have h9 := HQ.out.2.1 _ hC9
            have z9 : Cel w8 b10 vp vm2 := HQ.out.2.2.1.low h9 (by omega)
            obtain ⟨z0, z1, z2, z3⟩ := z9
            have hM8 := HQ.out.2.2.2.1.grown hC9 HQ.out.2.2.2.2.1
            have s8 := (Stay.refl b10 w8).set 0 (.slice (some ⟨g8, 0, none⟩) (k + 1) c8)
            have H9 : Hid (OwnK .i64 27 (w8.setCell ⟨b10, 0, none⟩ (.slice (some ⟨g8, 0, none⟩) (k + 1) c8)) (b10 + 1) (.slice (some ⟨g8, 0, none⟩) (k + 1) c8) (P'.take (k + 1)) ∧ OwnK .i64 27 (w8.setCell ⟨b10, 0, none⟩ (.slice (some ⟨g8, 0, none⟩) (k + 1) c8)) (b10 + 1) vm2 (M'.take (k + 1)) ∧ Ap (.slice (some ⟨g8, 0, none⟩) (k + 1) c8) vm2) := ⟨by
              rw [HLT.out.1]
              exact ho8.stay s8 (ho8.off (by omega)), by
              rw [HLT.out.2]
              exact hM8.stay s8 (hM8.off (by omega)), fun g hg => by
              obtain ⟨g1, g2⟩ := hg
              cases g1
              rcases hl8 with hl8 | hl8
              · exact HQ.out.2.2.2.2.1 _ ⟨hl8, g2⟩
              · have q9 : g8 < R3.heap.size := HQ.out.2.2.2.1.lt g2
                omega⟩
            have H10 : Hid (Cel (w8.setCell ⟨b10, 0, none⟩ (.slice (some ⟨g8, 0, none⟩) (k + 1) c8)) b10 (.slice (some ⟨g8, 0, none⟩) (k + 1) c8) vm2) := ⟨set_same z0, by rw [set_off (by omega)]; exact z1, by simp [z2], by simp [z3]⟩
            have H11 : Hid (Below b10 W5 (w8.setCell ⟨b10, 0, none⟩ (.slice (some ⟨g8, 0, none⟩) (k + 1) c8))) := (HQ.out.2.2.2.2.2.trans (h9.mono (Nat.le_succ _))).setCell (p := ⟨b10, 0, none⟩) (Nat.le_refl _) _
            clear hf8 hC8 ho8 hl8 hC9 h9 hM8 s8 e5 e6 t0 t1 t2 t3 a0 y1 x0 cM2 cS1 z1 HQ HRW
            have hn2 : (n : Int) ≤ 1048576 := by have := HK.out.2.2.2.2.2.2.2.2.2.2; omega
            go_wp2
            go_roundg (n - (k + 1))
            case measure => omega
            case rel => exact ⟨k + 1, _, _, by omega, rfl, by first | rfl | simp, H9, H10, H11⟩
      · go_wp2_with fail
        refine flow 10 107 (by kernel_rfl) rfl rfl (by kernel_rfl) ?_
        apply Exists.intro
        refine ⟨?_, ?_⟩
        · intro F hF
          have hFc := hF.cell
          have hFf := hF.frozen
          simp only [List.take_succ_cons, List.take_zero, List.eraseIdx_cons_succ, List.eraseIdx_cons_zero]
          repeat (go_big_quiet_step (first | with_reducible exact hF.call (cM1.out _) | with_reducible exact hF.call (cA1.out _)))
          refine wpQuiet_nil ?_
          exact rfl
        · intro W1 hb1
          simp only [List.drop_succ_cons, List.drop_zero]
          have hb12 := bstep H2.out.2 hb1
          obtain ⟨t0, t1, t2, t3⟩ := HT.out.up hb12
          have hU := up_alloc W1 (.cells #[.int .i64 MM] 27)
          have H5 : Hid (OwnK .i64 27 (W1.alloc (.cells #[.int .i64 MM] 27)) (b10 + 1) vm (M'.take k) ∧ OwnK .i64 27 (W1.alloc (.cells #[.int .i64 MM] 27)) (b10 + 1) vp (P'.take k) ∧ Ap vm vp ∧ Cel (W1.alloc (.cells #[.int .i64 MM] 27)) b10 vp vm ∧ Nums .i64 (W1.alloc (.cells #[.int .i64 MM] 27)) (.slice (some ⟨W1.heap.size, 0, none⟩) 1 1) [MM] ∧ Below b10 W5 (W1.alloc (.cells #[.int .i64 MM] 27)) ∧ b10 + 1 ≤ (W1.alloc (.cells #[.int .i64 MM] 27)).heap.size) := ⟨(HR.out.2.1.up hb12).up hU, (HR.out.1.up hb12).up hU, HR.out.2.2.symm, (HT.out.up hb12).up hU, nums_lit (k := .i64) W1 [MM] 1 (0, 0) rfl, HB.out.trans ((bstep hb12 hU).mono (Nat.le_of_succ_le H2.out.1)), Nat.le_trans HX5.out.2.2.2.2.2.2 (HB.out.trans ((bstep hb12 hU).mono (Nat.le_of_succ_le H2.out.1))).size⟩
          have kt := cell_lt t0
          clear hb1 hb12 hU a0 a1 x0 x1 x2 y1 zy za zx cM1 cA1 HR HB HT H2
          go_wp2_with (at_builtin; refine wpList_append_apart fixT (by decide) rfl (.tmp 86) (.tmp 88) rfl (b10 + 1) _ (M'.take k) rfl H5.out.1 _ MM _ rfl H5.out.2.2.2.2.1 HLK.out.2.1 H5.out.2.2.2.2.2.2 _ (Below.refl _ _) _ _ H5.out.2.1 H5.out.2.2.1 ?_; intro vm2 w6 H6 hB6; have hs6 := hB6.size; obtain ⟨pm, nm, cm, rfl, _⟩ := H6.out.1.nums.lst; have z6 := H5.out.2.2.2.1.low hB6 (Nat.lt_succ_self _); have HB6 := hid2 hB6 hB6; clear hB6; obtain ⟨z0, z1, z2, z3⟩ := z6)
          have s3 := (Stay.refl b10 w6).set 1 (.slice pm nm cm)
          have m3 := H6.out.1.stay s3 (H6.out.1.off (Nat.lt_succ_self _))
          have p3 := H6.out.2.1.stay s3 (H6.out.2.1.off (Nat.lt_succ_self _))
          have c3 : Cel (w6.setCell ⟨b10, 1, none⟩ (.slice pm nm cm)) b10 vp (.slice pm nm cm) := ⟨by rw [set_off (by omega)]; exact z0, set_same z1, by simp [z2], by simp [z3]⟩
          have b3 := (H5.out.2.2.2.2.2.1.trans (HB6.out.1.mono (Nat.le_succ _))).setCell (p := ⟨b10, 1, none⟩) (Nat.le_refl _) (.slice pm nm cm)
          have i3 : b10 + 1 ≤ (w6.setCell ⟨b10, 1, none⟩ (.slice pm nm cm)).heap.size := by
            have := H5.out.2.2.2.2.2.2
            have e : (w6.setCell ⟨b10, 1, none⟩ (.slice pm nm cm)).heap.size = w6.heap.size := by simp
            omega
          generalize eR3 : w6.setCell ⟨b10, 1, none⟩ (.slice pm nm cm) = R3 at m3 p3 c3 b3 i3 ⊢
          obtain ⟨vm2, evm⟩ : ∃ v, Value.slice pm nm cm = v := ⟨_, rfl⟩
          rw [evm] at m3 c3
          have HRW : Hid (OwnK .i64 27 R3 (b10 + 1) vp (P'.take k) ∧ b10 + 1 ≤ R3.heap.size ∧ ∀ z, vp.ownBlock = some z → z < R3.heap.size) := ⟨p3, i3, fun z hz => p3.lt hz⟩
          have HQ : Hid (b10 + 1 ≤ R3.heap.size ∧ (∀ W, R3.grownBy W vp.ownBlock → Below (b10 + 1) R3 W) ∧ Cel R3 b10 vp vm2 ∧ OwnK .i64 27 R3 (b10 + 1) vm2 (M'.take k ++ [MM]) ∧ Ap vp vm2 ∧ Below b10 W5 R3) := ⟨i3, fun W hW => Below.grown (Below.refl _ _) hW i3 fun q hq => p3.block q hq, c3, m3, by have := H6.out.2.2.symm; rw [evm] at this; exact this, b3⟩
          obtain ⟨t0, t1, t2, t3⟩ := c3
          obtain ⟨a0, _, _, _⟩ := HX5.out.1.low b3 (by omega)
          obtain ⟨x0, _, _⟩ := HX5.out.2.1.low b3 (by omega)
          have y1 := (b3.cell (p := ⟨qP, oP + k, none⟩) (show qP < b10 by omega)).trans ((HX5.out.2.2.2.2.1.cell (p := ⟨qP, oP + k, none⟩) kP).trans HC.out.1)
          clear eR3 evm s3 m3 p3 b3 i3 H6 HB6 H5 z0 z1 z2 z3 hs6 kt
          refine from_region (by kernel_rfl) ?_
          refine seg (fun q W => match q with | false => Below R3.heap.size R3 W | true => R3.grownBy W vp.ownBlock) (fun W W' => W.grownBy W' vp.ownBlock) 13 [⟨12, 103, LitS 27 R3.heap.size [.int .i64 PP]⟩, ⟨13, 104, OwnP 27 (b10 + 1) R3.heap.size vp.ownBlock (k + 1) (P'.take k ++ [PP])⟩] 0 15 107 rfl rfl (by kernel_rfl) (by rfl) ?_ ?_ ?_ ?_ ?_ ?_
          · intro q W W' h hb
            cases q
            · exact bstep h hb
            · exact grown_up h hb
          · exact ⟨rfl, rfl, rfl, Nat.le_refl _, fun _ _ => rfl⟩
          · exact .inl ⟨_, List.mem_cons_of_mem _ List.mem_cons_self, rfl⟩
          · intro e he v W W' h hb
            simp only [List.mem_cons, List.not_mem_nil, or_false] at he
            rcases he with rfl | rfl
            · exact LitS.up h hb
            · exact OwnP.up h hb
          · intro e he hne v W W' h hc ht
            simp only [List.mem_cons, List.not_mem_nil, or_false] at he
            rcases he with rfl | rfl
            · exact LitS.grown h ht HRW.out.2.2
            · exact absurd rfl hne
          apply Exists.intro
          refine ⟨fun x => ?_, ?_, ?_⟩
          · simp only [List.drop_succ_cons, List.drop_zero, List.take_succ_cons, List.take_zero]
            refine segQuiet rfl rfl ?_
            apply Exists.intro
            refine ⟨fun b' F hF hf K hK => ?_, ?_⟩
            · have hFc := hF.cls
              have hall : ∀ d, Below (b10 + 1) R3 (F d) := fun d => by
                cases b'
                · exact (hFc d).mono HQ.out.1
                · exact HQ.out.2.1 _ (hFc d)
              have q0 : ∀ d, (F d).cell? ⟨b10, 0, none⟩ = some vp := fun d => ((hall d).cell (p := ⟨b10, 0, none⟩) (show b10 < b10 + 1 by omega)).trans t0
              have q1 : ∀ d, (F d).cell? ⟨w.heap.size, 0, none⟩ = some (.slice (some ⟨qP, oP, none⟩) n c1) := fun d => ((hall d).cell (p := ⟨w.heap.size, 0, none⟩) (show w.heap.size < b10 + 1 by omega)).trans a0
              have q2 : ∀ d, (F d).cell? ⟨qP, oP + k, none⟩ = some (.int .i64 Y) := fun d => ((hall d).cell (p := ⟨qP, oP + k, none⟩) (show qP < b10 + 1 by omega)).trans y1
              have q3 : ∀ d, (F d).cell? ⟨w.heap.size + 1, 0, none⟩ = some (.int .i64 ss) := fun d => ((hall d).cell (p := ⟨w.heap.size + 1, 0, none⟩) (show w.heap.size + 1 < b10 + 1 by omega)).trans x0
              clear hFc hall
              go_big_quiet_op
              first | exact hK | (apply Exists.intro; refine ⟨fun _ => ?_, ?_⟩; (· fail); exact hK)
            (try simp only [Act.put, List.setIfInBounds_toArray, List.set_cons_zero, List.set_cons_succ])
            refine segQuiet rfl rfl ?_
            apply Exists.intro
            refine ⟨fun b' F hF hf K hK => ?_, ?_⟩
            · have hFc := hF.cls
              have hall : ∀ d, Below (b10 + 1) R3 (F d) := fun d => by
                cases b'
                · exact (hFc d).mono HQ.out.1
                · exact HQ.out.2.1 _ (hFc d)
              have q0 : ∀ d, (F d).cell? ⟨b10, 0, none⟩ = some vp := fun d => ((hall d).cell (p := ⟨b10, 0, none⟩) (show b10 < b10 + 1 by omega)).trans t0
              have q1 : ∀ d, (F d).cell? ⟨w.heap.size, 0, none⟩ = some (.slice (some ⟨qP, oP, none⟩) n c1) := fun d => ((hall d).cell (p := ⟨w.heap.size, 0, none⟩) (show w.heap.size < b10 + 1 by omega)).trans a0
              have q2 : ∀ d, (F d).cell? ⟨qP, oP + k, none⟩ = some (.int .i64 Y) := fun d => ((hall d).cell (p := ⟨qP, oP + k, none⟩) (show qP < b10 + 1 by omega)).trans y1
              have q3 : ∀ d, (F d).cell? ⟨w.heap.size + 1, 0, none⟩ = some (.int .i64 ss) := fun d => ((hall d).cell (p := ⟨w.heap.size + 1, 0, none⟩) (show w.heap.size + 1 < b10 + 1 by omega)).trans x0
              clear hFc hall
              go_big_quiet_op
              first | exact hK | (apply Exists.intro; refine ⟨fun _ => ?_, ?_⟩; (· fail); exact hK)
            (try simp only [Act.put, List.setIfInBounds_toArray, List.set_cons_zero, List.set_cons_succ])
            refine segQuiet rfl rfl ?_
            apply Exists.intro
            refine ⟨fun b' F hF hf K hK => ?_, ?_⟩
            · have hFc := hF.cls
              have hall : ∀ d, Below (b10 + 1) R3 (F d) := fun d => by
                cases b'
                · exact (hFc d).mono HQ.out.1
                · exact HQ.out.2.1 _ (hFc d)
              have q0 : ∀ d, (F d).cell? ⟨b10, 0, none⟩ = some vp := fun d => ((hall d).cell (p := ⟨b10, 0, none⟩) (show b10 < b10 + 1 by omega)).trans t0
              have q1 : ∀ d, (F d).cell? ⟨w.heap.size, 0, none⟩ = some (.slice (some ⟨qP, oP, none⟩) n c1) := fun d => ((hall d).cell (p := ⟨w.heap.size, 0, none⟩) (show w.heap.size < b10 + 1 by omega)).trans a0
              have q2 : ∀ d, (F d).cell? ⟨qP, oP + k, none⟩ = some (.int .i64 Y) := fun d => ((hall d).cell (p := ⟨qP, oP + k, none⟩) (show qP < b10 + 1 by omega)).trans y1
              have q3 : ∀ d, (F d).cell? ⟨w.heap.size + 1, 0, none⟩ = some (.int .i64 ss) := fun d => ((hall d).cell (p := ⟨w.heap.size + 1, 0, none⟩) (show w.heap.size + 1 < b10 + 1 by omega)).trans x0
              clear hFc hall
              go_big_quiet_op
              first | exact hK | (apply Exists.intro; refine ⟨fun _ => ?_, ?_⟩; (· fail); exact hK)
            (try simp only [Act.put, List.setIfInBounds_toArray, List.set_cons_zero, List.set_cons_succ])
            refine segQuiet rfl rfl ?_
            apply Exists.intro
            refine ⟨fun b' F hF hf K hK => ?_, ?_⟩
            · have hFc := hF.cls
              have hall : ∀ d, Below (b10 + 1) R3 (F d) := fun d => by
                cases b'
                · exact (hFc d).mono HQ.out.1
                · exact HQ.out.2.1 _ (hFc d)
              have q0 : ∀ d, (F d).cell? ⟨b10, 0, none⟩ = some vp := fun d => ((hall d).cell (p := ⟨b10, 0, none⟩) (show b10 < b10 + 1 by omega)).trans t0
              have q1 : ∀ d, (F d).cell? ⟨w.heap.size, 0, none⟩ = some (.slice (some ⟨qP, oP, none⟩) n c1) := fun d => ((hall d).cell (p := ⟨w.heap.size, 0, none⟩) (show w.heap.size < b10 + 1 by omega)).trans a0
              have q2 : ∀ d, (F d).cell? ⟨qP, oP + k, none⟩ = some (.int .i64 Y) := fun d => ((hall d).cell (p := ⟨qP, oP + k, none⟩) (show qP < b10 + 1 by omega)).trans y1
              have q3 : ∀ d, (F d).cell? ⟨w.heap.size + 1, 0, none⟩ = some (.int .i64 ss) := fun d => ((hall d).cell (p := ⟨w.heap.size + 1, 0, none⟩) (show w.heap.size + 1 < b10 + 1 by omega)).trans x0
              clear hFc hall
              go_big_quiet_op
              first | exact hK | (apply Exists.intro; refine ⟨fun _ => ?_, ?_⟩; (· fail); exact hK)
            (try simp only [Act.put, List.setIfInBounds_toArray, List.set_cons_zero, List.set_cons_succ])
            refine segQuiet rfl rfl ?_
            apply Exists.intro
            refine ⟨fun b' F hF hf K hK => ?_, ?_⟩
            · have hFc := hF.cls
              have hall : ∀ d, Below (b10 + 1) R3 (F d) := fun d => by
                cases b'
                · exact (hFc d).mono HQ.out.1
                · exact HQ.out.2.1 _ (hFc d)
              have q0 : ∀ d, (F d).cell? ⟨b10, 0, none⟩ = some vp := fun d => ((hall d).cell (p := ⟨b10, 0, none⟩) (show b10 < b10 + 1 by omega)).trans t0
              have q1 : ∀ d, (F d).cell? ⟨w.heap.size, 0, none⟩ = some (.slice (some ⟨qP, oP, none⟩) n c1) := fun d => ((hall d).cell (p := ⟨w.heap.size, 0, none⟩) (show w.heap.size < b10 + 1 by omega)).trans a0
              have q2 : ∀ d, (F d).cell? ⟨qP, oP + k, none⟩ = some (.int .i64 Y) := fun d => ((hall d).cell (p := ⟨qP, oP + k, none⟩) (show qP < b10 + 1 by omega)).trans y1
              have q3 : ∀ d, (F d).cell? ⟨w.heap.size + 1, 0, none⟩ = some (.int .i64 ss) := fun d => ((hall d).cell (p := ⟨w.heap.size + 1, 0, none⟩) (show w.heap.size + 1 < b10 + 1 by omega)).trans x0
              clear hFc hall
              go_big_quiet_op
              first | exact hK | (apply Exists.intro; refine ⟨fun _ => ?_, ?_⟩; (· fail); exact hK)
            (try simp only [Act.put, List.setIfInBounds_toArray, List.set_cons_zero, List.set_cons_succ])
            refine segQuiet rfl rfl ?_
            apply Exists.intro
            refine ⟨fun b' F hF hf K hK => ?_, ?_⟩
            · have hFc := hF.cls
              have hall : ∀ d, Below (b10 + 1) R3 (F d) := fun d => by
                cases b'
                · exact (hFc d).mono HQ.out.1
                · exact HQ.out.2.1 _ (hFc d)
              have q0 : ∀ d, (F d).cell? ⟨b10, 0, none⟩ = some vp := fun d => ((hall d).cell (p := ⟨b10, 0, none⟩) (show b10 < b10 + 1 by omega)).trans t0
              have q1 : ∀ d, (F d).cell? ⟨w.heap.size, 0, none⟩ = some (.slice (some ⟨qP, oP, none⟩) n c1) := fun d => ((hall d).cell (p := ⟨w.heap.size, 0, none⟩) (show w.heap.size < b10 + 1 by omega)).trans a0
              have q2 : ∀ d, (F d).cell? ⟨qP, oP + k, none⟩ = some (.int .i64 Y) := fun d => ((hall d).cell (p := ⟨qP, oP + k, none⟩) (show qP < b10 + 1 by omega)).trans y1
              have q3 : ∀ d, (F d).cell? ⟨w.heap.size + 1, 0, none⟩ = some (.int .i64 ss) := fun d => ((hall d).cell (p := ⟨w.heap.size + 1, 0, none⟩) (show w.heap.size + 1 < b10 + 1 by omega)).trans x0
              clear hFc hall
              go_big_quiet_op
              first | exact hK | (apply Exists.intro; refine ⟨fun _ => ?_, ?_⟩; (· fail); exact hK)
            (try simp only [Act.put, List.setIfInBounds_toArray, List.set_cons_zero, List.set_cons_succ])
            refine segQuiet rfl rfl ?_
            apply Exists.intro
            refine ⟨fun b' F hF hf K hK => ?_, ?_⟩
            · have hFc := hF.cls
              have hall : ∀ d, Below (b10 + 1) R3 (F d) := fun d => by
                cases b'
                · exact (hFc d).mono HQ.out.1
                · exact HQ.out.2.1 _ (hFc d)
              have q0 : ∀ d, (F d).cell? ⟨b10, 0, none⟩ = some vp := fun d => ((hall d).cell (p := ⟨b10, 0, none⟩) (show b10 < b10 + 1 by omega)).trans t0
              have q1 : ∀ d, (F d).cell? ⟨w.heap.size, 0, none⟩ = some (.slice (some ⟨qP, oP, none⟩) n c1) := fun d => ((hall d).cell (p := ⟨w.heap.size, 0, none⟩) (show w.heap.size < b10 + 1 by omega)).trans a0
              have q2 : ∀ d, (F d).cell? ⟨qP, oP + k, none⟩ = some (.int .i64 Y) := fun d => ((hall d).cell (p := ⟨qP, oP + k, none⟩) (show qP < b10 + 1 by omega)).trans y1
              have q3 : ∀ d, (F d).cell? ⟨w.heap.size + 1, 0, none⟩ = some (.int .i64 ss) := fun d => ((hall d).cell (p := ⟨w.heap.size + 1, 0, none⟩) (show w.heap.size + 1 < b10 + 1 by omega)).trans x0
              clear hFc hall
              go_big_quiet_op
              first | exact hK | (apply Exists.intro; refine ⟨fun _ => ?_, ?_⟩; (· fail); exact hK)
            (try simp only [Act.put, List.setIfInBounds_toArray, List.set_cons_zero, List.set_cons_succ])
            refine segQuiet rfl rfl ?_
            apply Exists.intro
            refine ⟨fun b' F hF hf K hK => ?_, ?_⟩
            · have hFc := hF.cls
              have hall : ∀ d, Below (b10 + 1) R3 (F d) := fun d => by
                cases b'
                · exact (hFc d).mono HQ.out.1
                · exact HQ.out.2.1 _ (hFc d)
              have q0 : ∀ d, (F d).cell? ⟨b10, 0, none⟩ = some vp := fun d => ((hall d).cell (p := ⟨b10, 0, none⟩) (show b10 < b10 + 1 by omega)).trans t0
              have q1 : ∀ d, (F d).cell? ⟨w.heap.size, 0, none⟩ = some (.slice (some ⟨qP, oP, none⟩) n c1) := fun d => ((hall d).cell (p := ⟨w.heap.size, 0, none⟩) (show w.heap.size < b10 + 1 by omega)).trans a0
              have q2 : ∀ d, (F d).cell? ⟨qP, oP + k, none⟩ = some (.int .i64 Y) := fun d => ((hall d).cell (p := ⟨qP, oP + k, none⟩) (show qP < b10 + 1 by omega)).trans y1
              have q3 : ∀ d, (F d).cell? ⟨w.heap.size + 1, 0, none⟩ = some (.int .i64 ss) := fun d => ((hall d).cell (p := ⟨w.heap.size + 1, 0, none⟩) (show w.heap.size + 1 < b10 + 1 by omega)).trans x0
              clear hFc hall
              go_big_quiet_op
              first | exact hK | (apply Exists.intro; refine ⟨fun _ => ?_, ?_⟩; (· fail); exact hK)
            (try simp only [Act.put, List.setIfInBounds_toArray, List.set_cons_zero, List.set_cons_succ])
            refine segQuiet rfl rfl ?_
            apply Exists.intro
            refine ⟨fun b' F hF hf K hK => ?_, ?_⟩
            · have hFc := hF.cls
              have hall : ∀ d, Below (b10 + 1) R3 (F d) := fun d => by
                cases b'
                · exact (hFc d).mono HQ.out.1
                · exact HQ.out.2.1 _ (hFc d)
              have q0 : ∀ d, (F d).cell? ⟨b10, 0, none⟩ = some vp := fun d => ((hall d).cell (p := ⟨b10, 0, none⟩) (show b10 < b10 + 1 by omega)).trans t0
              have q1 : ∀ d, (F d).cell? ⟨w.heap.size, 0, none⟩ = some (.slice (some ⟨qP, oP, none⟩) n c1) := fun d => ((hall d).cell (p := ⟨w.heap.size, 0, none⟩) (show w.heap.size < b10 + 1 by omega)).trans a0
              have q2 : ∀ d, (F d).cell? ⟨qP, oP + k, none⟩ = some (.int .i64 Y) := fun d => ((hall d).cell (p := ⟨qP, oP + k, none⟩) (show qP < b10 + 1 by omega)).trans y1
              have q3 : ∀ d, (F d).cell? ⟨w.heap.size + 1, 0, none⟩ = some (.int .i64 ss) := fun d => ((hall d).cell (p := ⟨w.heap.size + 1, 0, none⟩) (show w.heap.size + 1 < b10 + 1 by omega)).trans x0
              clear hFc hall
              go_big_quiet_op
              first | exact hK | (apply Exists.intro; refine ⟨fun _ => ?_, ?_⟩; (· fail); exact hK)
            (try simp only [Act.put, List.setIfInBounds_toArray, List.set_cons_zero, List.set_cons_succ])
            refine segQuiet rfl rfl ?_
            apply Exists.intro
            refine ⟨fun b' F hF hf K hK => ?_, ?_⟩
            · have hFc := hF.cls
              have hall : ∀ d, Below (b10 + 1) R3 (F d) := fun d => by
                cases b'
                · exact (hFc d).mono HQ.out.1
                · exact HQ.out.2.1 _ (hFc d)
              have q0 : ∀ d, (F d).cell? ⟨b10, 0, none⟩ = some vp := fun d => ((hall d).cell (p := ⟨b10, 0, none⟩) (show b10 < b10 + 1 by omega)).trans t0
              have q1 : ∀ d, (F d).cell? ⟨w.heap.size, 0, none⟩ = some (.slice (some ⟨qP, oP, none⟩) n c1) := fun d => ((hall d).cell (p := ⟨w.heap.size, 0, none⟩) (show w.heap.size < b10 + 1 by omega)).trans a0
              have q2 : ∀ d, (F d).cell? ⟨qP, oP + k, none⟩ = some (.int .i64 Y) := fun d => ((hall d).cell (p := ⟨qP, oP + k, none⟩) (show qP < b10 + 1 by omega)).trans y1
              have q3 : ∀ d, (F d).cell? ⟨w.heap.size + 1, 0, none⟩ = some (.int .i64 ss) := fun d => ((hall d).cell (p := ⟨w.heap.size + 1, 0, none⟩) (show w.heap.size + 1 < b10 + 1 by omega)).trans x0
              clear hFc hall
              go_big_quiet_op
              first | exact hK | (apply Exists.intro; refine ⟨fun _ => ?_, ?_⟩; (· fail); exact hK)
            (try simp only [Act.put, List.setIfInBounds_toArray, List.set_cons_zero, List.set_cons_succ])
            refine segQuiet rfl rfl ?_
            apply Exists.intro
            refine ⟨fun b' F hF hf K hK => ?_, ?_⟩
            · have hFc := hF.cls
              have hall : ∀ d, Below (b10 + 1) R3 (F d) := fun d => by
                cases b'
                · exact (hFc d).mono HQ.out.1
                · exact HQ.out.2.1 _ (hFc d)
              have q0 : ∀ d, (F d).cell? ⟨b10, 0, none⟩ = some vp := fun d => ((hall d).cell (p := ⟨b10, 0, none⟩) (show b10 < b10 + 1 by omega)).trans t0
              have q1 : ∀ d, (F d).cell? ⟨w.heap.size, 0, none⟩ = some (.slice (some ⟨qP, oP, none⟩) n c1) := fun d => ((hall d).cell (p := ⟨w.heap.size, 0, none⟩) (show w.heap.size < b10 + 1 by omega)).trans a0
              have q2 : ∀ d, (F d).cell? ⟨qP, oP + k, none⟩ = some (.int .i64 Y) := fun d => ((hall d).cell (p := ⟨qP, oP + k, none⟩) (show qP < b10 + 1 by omega)).trans y1
              have q3 : ∀ d, (F d).cell? ⟨w.heap.size + 1, 0, none⟩ = some (.int .i64 ss) := fun d => ((hall d).cell (p := ⟨w.heap.size + 1, 0, none⟩) (show w.heap.size + 1 < b10 + 1 by omega)).trans x0
              clear hFc hall
              go_big_quiet_op
              first | exact hK | (apply Exists.intro; refine ⟨fun _ => ?_, ?_⟩; (· with_reducible exact hF.call (cM2.out _)); exact hK)
            (try simp only [Act.put, List.setIfInBounds_toArray, List.set_cons_zero, List.set_cons_succ])
            refine segQuiet rfl rfl ?_
            apply Exists.intro
            refine ⟨fun b' F hF hf K hK => ?_, ?_⟩
            · have hFc := hF.cls
              have hall : ∀ d, Below (b10 + 1) R3 (F d) := fun d => by
                cases b'
                · exact (hFc d).mono HQ.out.1
                · exact HQ.out.2.1 _ (hFc d)
              have q0 : ∀ d, (F d).cell? ⟨b10, 0, none⟩ = some vp := fun d => ((hall d).cell (p := ⟨b10, 0, none⟩) (show b10 < b10 + 1 by omega)).trans t0
              have q1 : ∀ d, (F d).cell? ⟨w.heap.size, 0, none⟩ = some (.slice (some ⟨qP, oP, none⟩) n c1) := fun d => ((hall d).cell (p := ⟨w.heap.size, 0, none⟩) (show w.heap.size < b10 + 1 by omega)).trans a0
              have q2 : ∀ d, (F d).cell? ⟨qP, oP + k, none⟩ = some (.int .i64 Y) := fun d => ((hall d).cell (p := ⟨qP, oP + k, none⟩) (show qP < b10 + 1 by omega)).trans y1
              have q3 : ∀ d, (F d).cell? ⟨w.heap.size + 1, 0, none⟩ = some (.int .i64 ss) := fun d => ((hall d).cell (p := ⟨w.heap.size + 1, 0, none⟩) (show w.heap.size + 1 < b10 + 1 by omega)).trans x0
              clear hFc hall
              go_big_quiet_op
              first | exact hK | (apply Exists.intro; refine ⟨fun _ => ?_, ?_⟩; (· with_reducible exact hF.call (cS1.out _)); exact hK)
            (try simp only [Act.put, List.setIfInBounds_toArray, List.set_cons_zero, List.set_cons_succ])
            refine segTold rfl (by decide) rfl ?_ ?_
            · intro b' F hF hf d
              have hFc := hF.cls
              have hcls : R3.heap.size ≤ (F d).heap.size := by
                cases b'
                · exact (hFc d).size
                · exact (hFc d).size
              simp [yieldsR, yieldsUpon, go_sem]
              exact ⟨⟨(F d).heap.size, rfl, heap_alloc_new (F d) _, hcls⟩, up_alloc _ _⟩
            (try simp only [Act.put, List.setIfInBounds_toArray, List.set_cons_zero, List.set_cons_succ])
            refine segBusy rfl rfl rfl ?_ ?_
            · intro W hW hf
              have h7 := hf _ List.mem_cons_self (by rfl) W
              obtain ⟨g7, e7, hg7, _⟩ := h7
              simp only [] at e7
              obtain ⟨g8, c8, w8, hr8, ho8, hgr8, hl8⟩ := app_one fixT (by decide) 23 W (b10 + 1) vp (P'.take k) (HRW.out.1.up hW) g7 PP hg7 HLK.out.1 (Nat.le_trans HRW.out.2.1 (Below.size hW))
              rw [HLK.out.2.2] at hr8 ho8
              simp [leavesR, leavesUpon, execOp, resolve, invoke, builtin, Act.eval, e7, hr8, Result.andThen]
              exact ⟨⟨g8, c8, rfl, ho8, hl8.imp id fun h => Nat.le_trans (Below.size hW) h⟩, grown_trans (below_grown _ hW) hgr8, hgr8⟩
            (try simp only [Act.put, List.setIfInBounds_toArray, List.set_cons_zero, List.set_cons_succ])
            refine segQuiet rfl rfl ?_
            apply Exists.intro
            refine ⟨fun b' F hF hf K hK => ?_, ?_⟩
            · have hFc := hF.cls
              have hall : ∀ d, Below (b10 + 1) R3 (F d) := fun d => by
                cases b'
                · exact (hFc d).mono HQ.out.1
                · exact HQ.out.2.1 _ (hFc d)
              have q0 : ∀ d, (F d).cell? ⟨b10, 0, none⟩ = some vp := fun d => ((hall d).cell (p := ⟨b10, 0, none⟩) (show b10 < b10 + 1 by omega)).trans t0
              have q1 : ∀ d, (F d).cell? ⟨w.heap.size, 0, none⟩ = some (.slice (some ⟨qP, oP, none⟩) n c1) := fun d => ((hall d).cell (p := ⟨w.heap.size, 0, none⟩) (show w.heap.size < b10 + 1 by omega)).trans a0
              have q2 : ∀ d, (F d).cell? ⟨qP, oP + k, none⟩ = some (.int .i64 Y) := fun d => ((hall d).cell (p := ⟨qP, oP + k, none⟩) (show qP < b10 + 1 by omega)).trans y1
              have q3 : ∀ d, (F d).cell? ⟨w.heap.size + 1, 0, none⟩ = some (.int .i64 ss) := fun d => ((hall d).cell (p := ⟨w.heap.size + 1, 0, none⟩) (show w.heap.size + 1 < b10 + 1 by omega)).trans x0
              clear hFc hall
              go_big_quiet_op
              first | exact hK | (apply Exists.intro; refine ⟨fun _ => ?_, ?_⟩; (· fail); exact hK)
            (try simp only [Act.put, List.setIfInBounds_toArray, List.set_cons_zero, List.set_cons_succ])
            refine segEnd ?_
            exact rfl
          · exact fun x => rfl
          · intro w8 xs8 hC8 hf8
            refine from_list 15 (by kernel_rfl) ?_
            simp only [List.drop_succ_cons, List.drop_zero]
            have h8 := hf8 _ (List.mem_cons_of_mem _ List.mem_cons_self)
            obtain ⟨x5, e5⟩ : ∃ z, xs8 12 = z := ⟨_, rfl⟩
            obtain ⟨x6, e6⟩ : ∃ z, xs8 13 = z := ⟨_, rfl⟩
            simp only [e6] at h8
            simp only [e5, e6]
            obtain ⟨g8, c8, rfl, ho8, hl8⟩ := h8
            have hC9 : R3.grownBy w8 vp.ownBlock := hC8
            have h9 := HQ.out.2.1 _ hC9
            have z9 : Cel w8 b10 vp vm2 := HQ.out.2.2.1.low h9 (by omega)
            obtain ⟨z0, z1, z2, z3⟩ := z9
            have hM8 := HQ.out.2.2.2.1.grown hC9 HQ.out.2.2.2.2.1
            have s8 := (Stay.refl b10 w8).set 0 (.slice (some ⟨g8, 0, none⟩) (k + 1) c8)
            have H9 : Hid (OwnK .i64 27 (w8.setCell ⟨b10, 0, none⟩ (.slice (some ⟨g8, 0, none⟩) (k + 1) c8)) (b10 + 1) (.slice (some ⟨g8, 0, none⟩) (k + 1) c8) (P'.take (k + 1)) ∧ OwnK .i64 27 (w8.setCell ⟨b10, 0, none⟩ (.slice (some ⟨g8, 0, none⟩) (k + 1) c8)) (b10 + 1) vm2 (M'.take (k + 1)) ∧ Ap (.slice (some ⟨g8, 0, none⟩) (k + 1) c8) vm2) := ⟨by
              rw [HLT.out.1]
              exact ho8.stay s8 (ho8.off (by omega)), by
              rw [HLT.out.2]
              exact hM8.stay s8 (hM8.off (by omega)), fun g hg => by
              obtain ⟨g1, g2⟩ := hg
              cases g1
              rcases hl8 with hl8 | hl8
              · exact HQ.out.2.2.2.2.1 _ ⟨hl8, g2⟩
              · have q9 : g8 < R3.heap.size := HQ.out.2.2.2.1.lt g2
                omega⟩
            have H10 : Hid (Cel (w8.setCell ⟨b10, 0, none⟩ (.slice (some ⟨g8, 0, none⟩) (k + 1) c8)) b10 (.slice (some ⟨g8, 0, none⟩) (k + 1) c8) vm2) := ⟨set_same z0, by rw [set_off (by omega)]; exact z1, by simp [z2], by simp [z3]⟩
            have H11 : Hid (Below b10 W5 (w8.setCell ⟨b10, 0, none⟩ (.slice (some ⟨g8, 0, none⟩) (k + 1) c8))) := (HQ.out.2.2.2.2.2.trans (h9.mono (Nat.le_succ _))).setCell (p := ⟨b10, 0, none⟩) (Nat.le_refl _) _
            clear hf8 hC8 ho8 hl8 hC9 h9 hM8 s8 e5 e6 t0 t1 t2 t3 a0 y1 x0 cM2 cS1 z1 HQ HRW
            have hn2 : (n : Int) ≤ 1048576 := by have := HK.out.2.2.2.2.2.2.2.2.2.2; omega
            go_wp2
            go_roundg (n - (k + 1))
            case measure => omega
            case rel => exact ⟨k + 1, _, _, by omega, rfl, by first | rfl | simp, H9, H10, H11⟩
    · obtain rfl : k = n := by omega
      have hP := HR.out.1
      have hM := HR.out.2.1
      rw [List.take_of_length_le (by rw [HK.out.2.2.2.2.2.2.1]; exact Nat.le_refl _)] at hP
      rw [List.take_of_length_le (by rw [HK.out.2.2.2.2.2.2.2.1]; exact Nat.le_refl _)] at hM
      obtain ⟨pp, np, cp, rfl, _⟩ := hP.nums.lst
      obtain ⟨pm, nm, cm, rfl, _⟩ := hM.nums.lst
      have hx5 := HX5.out.2.2.2.2.2.1
      have HF : Hid (SRes (set2 R1 (w.heap.size + 1 + 1) (.slice pp np cp) (.slice pm nm cm)) (.agg #[.slice pp np cp, .slice pm nm cm]) P' M' ∧ Below w.heap.size w (set2 R1 (w.heap.size + 1 + 1) (.slice pp np cp) (.slice pm nm cm))) := by
        have s2 := Stay.set2 (g := w.heap.size + 1 + 1) R1 (.slice pp np cp) (.slice pm nm cm)
        exact ⟨⟨_, _, _, _, _, _, rfl, (hP.stay s2 (hP.off (by omega))).low (Nat.zero_le _), (hM.stay s2 (hM.off (by omega))).low (Nat.zero_le _)⟩, below_cell HXR.out.2.2.2.1 _ (by omega) _ _⟩
      have xr := HXR.out.2.2.1
      have cf := xr.set (.slice pp np cp) (.slice pm nm cm)
      obtain ⟨r0, r1, r2, r3⟩ := xr
      obtain ⟨y0, y1, _, _⟩ := cf
      obtain ⟨t0, t1, _, _⟩ := HT.out
      clear hP hM
      go_wp2
      exact bodyPost_ret (v := .tuple #[.agg #[.slice pp np cp, .slice pm nm cm], .int .i64 0]) (by simp [results, Try.results13, go_sem, y0, y1]) rfl ⟨_, rfl, HF.out.1, HF.out.2⟩
end Go.Proofs.Ytknadgffflhlgaa.Wd
