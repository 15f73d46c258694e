/- Sums of products, rounded once: what matm.Dot hands back. -/
import Derived.Test.YtpjlhfbejbdocaaDoorMtA
namespace Go.Proofs.YtpjlhfbejbdocaaDoor.Wd
open Go.RowKit Fx
set_option linter.unusedVariables false
set_option linter.unusedSimpArgs false
attribute [local go_sem] fld_hi fld_lo
/-- What stands above 2^64, and what stands below it. -/
def hiS (a b : List Int) (n : Nat) : Int := sumI (fun q => a.getD q 0 * b.getD q 0 / 18446744073709551616) n
def loS (a b : List Int) (n : Nat) : Int := sumI (fun q => a.getD q 0 * b.getD q 0 % 18446744073709551616) n
theorem hilo (a b : List Int) : ∀ n, hiS a b n * 18446744073709551616 + loS a b n = dotS a b n
  | 0 => rfl
  | n + 1 => by
    have ih := hilo a b n
    unfold hiS loS dotS at ih
    unfold hiS loS dotS
    simp only [sumI]
    omega
theorem hiS_rng {a b : List Int} (ha : RI a) (hb : RI b) (n : Nat) (hn : n ≤ 4096) : -18889465931478580854784 ≤ hiS a b n ∧ hiS a b n ≤ 18889465931478580854784 := by
  have := sumI_rng (f := fun q => a.getD q 0 * b.getD q 0 / 18446744073709551616) (B := 4611686018427387904) (by omega) n fun q _ => by
    have := prod_rng (getD_inR ha q) (getD_inR hb q)
    generalize a.getD q 0 * b.getD q 0 = P at *
    omega
  unfold hiS
  omega
theorem loS_rng (a b : List Int) (n : Nat) (hn : n ≤ 4096) : 0 ≤ loS a b n ∧ loS a b n ≤ 75557863725914323419136 := by
  have h1 : ∀ k, 0 ≤ loS a b k ∧ loS a b k ≤ 18446744073709551616 * (k : Int) := by
    intro k
    induction k with
    | zero => exact ⟨Int.le_refl _, Int.le_refl _⟩
    | succ k ih =>
      unfold loS at ih ⊢
      simp only [sumI]
      generalize a.getD k 0 * b.getD k 0 = P at *
      push_cast
      omega
  have := h1 n
  omega
theorem hold_above (T : Int) : hold (rqI (hold (T / 18446744073709551616) * 18446744073709551616 + T % 18446744073709551616) 4294967296) = rnd T := by
  unfold rnd
  by_cases h : InR (T / 18446744073709551616)
  · rw [hold_in h.1 h.2]
    congr 2
    omega
  · unfold InR at h
    unfold rqI hold
    split <;> split <;> (try split) <;> (try split) <;> (try split) <;> (try split) <;> (try split) <;> (try split) <;> omega
set_option maxRecDepth 8000 in
set_option maxHeartbeats 8000000 in
theorem dot_any (p p2 : Option Addr) (n c n2 c2 : Nat) (x y : List Int) (hx : RI x) (hy : RI y) (m : Nat) (hm : min n n2 = m) (hn : m ≤ 4096) (w : World) (hT : Hid (Tz w)) (hv : Nums .i64 w (.slice p n c) x) (hv2 : Nums .i64 w (.slice p2 n2 c2) y) :
    Calls Tryd.prog 17 #[.slice p n c, .slice p2 n2 c2] w fun e w' => e = .returned (.int .i64 (dotI x y)) ∧ Below w.heap.size w w' := by
  obtain ⟨_, _, _, e4, HX⟩ := hv.lst
  cases e4
  obtain ⟨_, _, _, e4, HY⟩ := hv2.lst
  cases e4
  have HD : Hid (dotI x y = rnd (dotS x y m)) := by show _ = _; rw [dotI, HX.out.1, HY.out.1, hm]
  have HI : Hid (RI x ∧ RI y) := ⟨hx, hy⟩
  have HM : Hid (m ≤ n ∧ m ≤ n2) := ⟨by omega, by omega⟩
  have hn1 : (m : Int) ≤ 4096 := by omega
  have kmin : ∀ (ts : Array TypeId) (t : TypeId) (w : World), (Builtin.min_ ts t #[.int .i64 (n : Int), .int .i64 (n2 : Int)]).run Tryd.prog w = .ok (.int .i64 (m : Int)) w := fun ts t w => by
    rw [run_min_int2]
    congr 2
    split <;> omega
  obtain ⟨D, eD⟩ : ∃ D, dotI x y = D := ⟨_, rfl⟩
  rw [eD] at HD ⊢
  clear hv hv2 hx hy eD hm
  haveI : Nonempty World := ⟨w⟩
  go_enter Tryd.func17, Tryd.ntmps17
  go_wp2_with fail
  clear kmin
  go_loopg [15] m (fun g i wr => ∃ (k : Nat), k ≤ m ∧ g = m - k ∧ i = .int .i64 (k : Int) ∧ Hid (Lies wr w.heap.size (hiS x y k)) ∧ Hid (Lies wr (w.heap.size + 1) (loS x y k)) ∧ Hid (Below w.heap.size w wr))
  case atStart =>
    refine ⟨0, by omega, by omega, rfl, ?_, ?_, show Below _ _ _ by go_grown⟩
    · show Lies _ _ _
      simp only [hiS, sumI]
      unfold Lies
      simp [go_sem]
    · show Lies _ _ _
      simp only [loS, sumI]
      unfold Lies
      simp [go_sem]
  case round =>
    obtain ⟨k, hk, hg, rfl, L0, L1, HB⟩ := hrel
    obtain ⟨R1, hR1⟩ : ∃ R1 : World, R1 = wr := ⟨_, rfl⟩
    subst hR1
    by_cases hkn : k < m
    · have hk' : (k : Int) < (m : Int) := by omega
      have hkA : (k : Int) < (n : Int) := by have := HM.out; omega
      have hkB : (k : Int) < (n2 : Int) := by have := HM.out; omega
      obtain ⟨q, o, rfl, hc0⟩ := HX.out.2 k (by omega)
      obtain ⟨q2, o2, rfl, hc2⟩ := HY.out.2 k (by omega)
      have hc1 := cell_low hc0 HB.out
      have hc3 := cell_low hc2 HB.out
      have lt0 := wcell_lt hc1
      have lt2 := wcell_lt hc3
      have hX := getD_inR HI.out.1 k
      have hY := getD_inR HI.out.2 k
      have rA := hiS_rng HI.out.1 HI.out.2 k (by omega)
      have rA' := hiS_rng HI.out.1 HI.out.2 (k + 1) (by omega)
      have rB := loS_rng x y k (by omega)
      have rB' := loS_rng x y (k + 1) (by omega)
      have eA : hiS x y (k + 1) = hiS x y k + x.getD k 0 * y.getD k 0 / 18446744073709551616 := rfl
      have eB : loS x y (k + 1) = loS x y k + x.getD k 0 * y.getD k 0 % 18446744073709551616 := rfl
      have hP := prod_rng hX hY
      obtain ⟨X, eX⟩ : ∃ X, x.getD k 0 = X := ⟨_, rfl⟩
      obtain ⟨Y, eY⟩ : ∃ Y, y.getD k 0 = Y := ⟨_, rfl⟩
      rw [eX] at hc1 hX
      rw [eY] at hc3 hY
      rw [eX, eY] at eA eB hP
      have cPr0 := fun W => prod_any X Y hX hY W
      obtain ⟨Pr, eP⟩ : ∃ P, X * Y = P := ⟨_, rfl⟩
      rw [eP] at eA eB hP cPr0
      obtain ⟨A, eA0⟩ : ∃ A, hiS x y k = A := ⟨_, rfl⟩
      obtain ⟨B, eB0⟩ : ∃ B, loS x y k = B := ⟨_, rfl⟩
      rw [eA0] at rA eA L0
      rw [eB0] at rB eB L1
      rw [eA] at rA'
      rw [eB] at rB'
      obtain ⟨ph, pl, ep, p1, p2_, p3, p4, Hp⟩ := words (v := Pr) (by unfold InW; omega)
      have hph : Pr / 18446744073709551616 = ph := by have := Hp.out; omega
      have hpl : Pr % 18446744073709551616 = pl := by have := Hp.out; omega
      rw [hph] at eA rA'
      rw [hpl] at eB rB'
      have EA : Hid (hiS x y (k + 1) = A + ph) := eA
      have EB : Hid (loS x y (k + 1) = B + pl) := eB
      have wph : InR ph := ⟨by omega, by omega⟩
      obtain ⟨oh, ol, eo, o1, o2_, o3, o4, Ho⟩ := words (InR.w wph)
      obtain ⟨ah, al, ea, a1, a2, a3, a4, Ha⟩ := words (v := A) (by unfold InW; omega)
      obtain ⟨ah', al', ea', a1', a2', a3', a4', Ha'⟩ := words (v := A + ph) (by unfold InW; omega)
      obtain ⟨bh, bl, eb, b1, b2, b3, b4, Hb⟩ := words (v := B) (by unfold InW; omega)
      obtain ⟨bh', bl', eb', b1', b2', b3', b4', Hb'⟩ := words (v := B + pl) (by unfold InW; omega)
      have el : wd pl = .agg #[.int .i64 0, .int .u64 pl] := (wd_eq (by omega) (by omega)).symm
      have cPr : ∀ W : World, Calls Tryd.prog 36 #[.int .i64 X, .int .i64 Y] W fun e w' => e = .returned (.agg #[.int .i64 ph, .int .u64 pl]) ∧ Below W.heap.size W w' := by
        intro W; have := cPr0 W; rw [ep] at this; exact this
      have cOf : ∀ W : World, Calls Tryd.prog 38 #[.int .i64 ph] W fun e w' => e = .returned (.agg #[.int .i64 oh, .int .u64 ol]) ∧ Below W.heap.size W w' := by
        intro W; have := of_any ph wph W; rw [eo] at this; exact this
      have cA : ∀ W : World, Calls Tryd.prog 37 #[.agg #[.int .i64 ah, .int .u64 al], .agg #[.int .i64 oh, .int .u64 ol]] W fun e w' => e = .returned (.agg #[.int .i64 ah', .int .u64 al']) ∧ Below W.heap.size W w' := by
        intro W; have := add_in A ph (by unfold InW; omega) (InR.w wph) (by unfold InW; omega) W; rw [ea, eo, ea'] at this; exact this
      have cB : ∀ W : World, Calls Tryd.prog 37 #[.agg #[.int .i64 bh, .int .u64 bl], .agg #[.int .i64 0, .int .u64 pl]] W fun e w' => e = .returned (.agg #[.int .i64 bh', .int .u64 bl']) ∧ Below W.heap.size W w' := by
        intro W; have := add_in B pl (by unfold InW; omega) (by unfold InW; omega) (by unfold InW; omega) W; rw [eb, el, eb'] at this; exact this
      clear eX eY eP eA0 eB0 eA eB rA rA' rB rB' hX hY hP hc0 hc2 ep eo ea ea' eb eb' el hph hpl wph cPr0
      have lt1 := L1.out.1
      go_wp2_with fail
      refine flow_new (.cells #[.int .i64 0, .int .u64 0] 50) 9 10 51 8 (by kernel_rfl) rfl rfl (by kernel_rfl) rfl rfl rfl ?_
      apply Exists.intro
      refine ⟨?_, ?_, ?_⟩
      · intro F hF
        have hFc := hF.cell
        have hFf := hF.frozen
        simp only [List.take_succ_cons, List.take_zero, List.eraseIdx_cons_succ, List.eraseIdx_cons_zero]
        repeat (go_big_quiet_step (first | (go_at_call 36; with_reducible exact hF.call (cPr _))))
        refine wpQuiet_nil ?_
        exact rfl
      · intro W
        kernel_rfl
      intro W6 g8 hW hM
      have Y0 := hM.cell (i := 0) rfl
      have Y1 := hM.cell (i := 1) rfl
      have Z0 := hM.frozen 0
      have Z1 := hM.frozen 1
      have lt6 : g8 < W6.heap.size := hM.1
      have ge6 : R1.heap.size ≤ g8 := hM.2.1
      have L8 : Lies W6 g8 0 := ⟨lt6, Y0, Y1, Z0, Z1⟩
      have N0 := (L0.out.up hW).off (c := g8) (y0 := .int .i64 ph) (y1 := .int .u64 pl) (by omega)
      have N1 := (L1.out.up hW).off (c := g8) (y0 := .int .i64 ph) (y1 := .int .u64 pl) (by omega)
      have N8 := L8.set (y := Pr) (yh := ph) (yl := pl) (by have := Hp.out; omega) (by have := Hp.out; omega)
      have B6 := below_set2 (HB.out.trans (hW.mono HB.out.size)) g8 (by omega) (.int .i64 ph) (.int .u64 pl)
      simp only [List.drop_succ_cons, List.drop_zero]
      unfold ptrTo
      have H6 : Hid (w.heap.size + 1 < g8) := show _ < _ by omega
      clear hM hW L8 cPr L0 L1 HB hc1 hc3 lt0 lt2 ge6 lt1
      go_wp2_with fail
      refine name_world (fun W7 hW7 => ?_)
      rw [← hW7] at N0 N1 N8 B6
      clear hW7 Y0 Y1 Z0 Z1 lt6
      have HN : Hid (Lies W7 w.heap.size A ∧ Lies W7 (w.heap.size + 1) B ∧ Lies W7 g8 Pr ∧ Below w.heap.size w W7) := ⟨N0, N1, N8, B6⟩
      obtain ⟨c0, c1⟩ := N0.words Ha.out a3 a4
      obtain ⟨d0, d1⟩ := N8.words Hp.out p3 p4
      have u0 := N0.1
      have u8 := N8.1
      clear N0 N1 N8 B6
      refine flow 5 51 (by kernel_rfl) rfl rfl (by kernel_rfl) ?_
      apply Exists.intro
      refine ⟨?_, ?_⟩
      · intro F hF
        have hFc := hF.cell
        have hFf := hF.frozen
        simp only [List.take_succ_cons, List.take_zero, List.eraseIdx_cons_succ, List.eraseIdx_cons_zero]
        repeat (go_big_quiet_step (first | (go_at_call 38; with_reducible exact hF.call (cOf _)) | (go_at_call 37; with_reducible exact hF.call (cA _))))
        refine wpQuiet_nil ?_
        exact rfl
      intro W8 hW8
      simp only [List.drop_succ_cons, List.drop_zero]
      have M := HN.out.1.up hW8
      have N0 := M.set (y := A + ph) (yh := ah') (yl := al') (by have := Ha'.out; omega) (by have := Ha'.out; omega)
      have N1 := (HN.out.2.1.up hW8).off (c := w.heap.size) (y0 := .int .i64 ah') (y1 := .int .u64 al') (by omega)
      have N8 := (HN.out.2.2.1.up hW8).off (c := w.heap.size) (y0 := .int .i64 ah') (y1 := .int .u64 al') (by have := H6.out; omega)
      have B8 := below_set2 (HN.out.2.2.2.trans (hW8.mono HN.out.2.2.2.size)) w.heap.size (Nat.le_refl _) (.int .i64 ah') (.int .u64 al')
      obtain ⟨g0, g1, g2, g3, g4⟩ := M
      clear hW8 HN c0 c1 d0 d1 u0 u8 cOf cA
      have HN : Hid (Lies ((W8.setCell ⟨w.heap.size, 0, none⟩ (.int .i64 ah')).setCell ⟨w.heap.size, 1, none⟩ (.int .u64 al')) w.heap.size (A + ph) ∧ Lies ((W8.setCell ⟨w.heap.size, 0, none⟩ (.int .i64 ah')).setCell ⟨w.heap.size, 1, none⟩ (.int .u64 al')) (w.heap.size + 1) B ∧ Below w.heap.size w ((W8.setCell ⟨w.heap.size, 0, none⟩ (.int .i64 ah')).setCell ⟨w.heap.size, 1, none⟩ (.int .u64 al'))) := ⟨N0, N1, B8⟩
      obtain ⟨c0, c1⟩ := N1.words Hb.out b3 b4
      obtain ⟨d0, d1⟩ := N8.words Hp.out p3 p4
      have u0 := N1.1
      have u8 := N8.1
      clear N0 N1 N8 B8
      go_wp2_with fail
      refine (cB _).mono ?_
      rintro e W10 ⟨rfl, hW10⟩
      have M := HN.out.2.1.up hW10
      have N1 : Hid (Lies ((W10.setCell ⟨w.heap.size + 1, 0, none⟩ (.int .i64 bh')).setCell ⟨w.heap.size + 1, 1, none⟩ (.int .u64 bl')) (w.heap.size + 1) (B + pl)) := M.set (by have := Hb'.out; omega) (by have := Hb'.out; omega)
      have N0 : Hid (Lies ((W10.setCell ⟨w.heap.size + 1, 0, none⟩ (.int .i64 bh')).setCell ⟨w.heap.size + 1, 1, none⟩ (.int .u64 bl')) w.heap.size (A + ph)) := (HN.out.1.up hW10).off (by omega)
      have B10 : Hid (Below w.heap.size w ((W10.setCell ⟨w.heap.size + 1, 0, none⟩ (.int .i64 bh')).setCell ⟨w.heap.size + 1, 1, none⟩ (.int .u64 bl'))) := below_set2 (HN.out.2.2.trans (hW10.mono HN.out.2.2.size)) (w.heap.size + 1) (by omega) _ _
      obtain ⟨g0, g1, g2, g3, g4⟩ := M
      clear hW10 HN c0 c1 d0 d1 u0 u8 cB
      go_wp2
      go_roundg (m - (k + 1))
      case measure => omega
      case rel => exact ⟨k + 1, by omega, rfl, by first | rfl | simp, by rw [EA.out]; exact N0, by rw [EB.out]; exact N1, B10⟩
    · obtain rfl : k = m := by omega
      have rA := hiS_rng HI.out.1 HI.out.2 k (by omega)
      have rB := loS_rng x y k (by omega)
      have eT := hilo x y k
      have rT := dotS_rng HI.out.1 HI.out.2 k
      rw [← hold_above] at HD
      obtain ⟨A, eA⟩ : ∃ A, hiS x y k = A := ⟨_, rfl⟩
      obtain ⟨B, eB⟩ : ∃ B, loS x y k = B := ⟨_, rfl⟩
      obtain ⟨T, eS⟩ : ∃ T, dotS x y k = T := ⟨_, rfl⟩
      rw [eA] at rA eT L0
      rw [eB] at rB eT L1
      rw [eS] at eT HD rT
      clear eA eB eS
      obtain ⟨ah, al, ea, a1, a2, a3, a4, Ha⟩ := words (v := A) (by unfold InW; omega)
      obtain ⟨bh, bl, eb, b1, b2, b3, b4, Hb⟩ := words (v := B) (by unfold InW; omega)
      have wbh : InR bh := ⟨b1, b2⟩
      obtain ⟨oh, ol, eo, o1, o2_, o3, o4, Ho⟩ := words (InR.w wbh)
      have hbh : B = bh * 18446744073709551616 + bl := Hb.out
      obtain ⟨ah', al', ea', a1', a2', a3', a4', Ha'⟩ := words (v := A + bh) (by unfold InW; omega)
      have eH : A + bh = T / 18446744073709551616 := by omega
      have eL : bl = T % 18446744073709551616 := by omega
      obtain ⟨H, eH2⟩ : ∃ H, hold (A + bh) = H := ⟨_, rfl⟩
      have rH : InR H := by rw [← eH2]; exact hold_rng _
      rw [← eH, ← eL, eH2] at HD
      have wS : InW (H * 18446744073709551616 + bl) := by unfold InR at rH; unfold InW; omega
      obtain ⟨Q, eQ⟩ : ∃ Q, rqI (H * 18446744073709551616 + bl) 4294967296 = Q := ⟨_, rfl⟩
      have wQ : InW Q := by rw [← eQ]; unfold rqI; unfold InW at wS ⊢; split <;> omega
      obtain ⟨qh, ql, eq, q1, q2, q3, q4, Hq⟩ := words wQ
      have cOf : ∀ W : World, Calls Tryd.prog 38 #[.int .i64 bh] W fun e w' => e = .returned (.agg #[.int .i64 oh, .int .u64 ol]) ∧ Below W.heap.size W w' := by
        intro W; have := of_any bh wbh W; rw [eo] at this; exact this
      have cA : ∀ W : World, Calls Tryd.prog 37 #[.agg #[.int .i64 ah, .int .u64 al], .agg #[.int .i64 oh, .int .u64 ol]] W fun e w' => e = .returned (.agg #[.int .i64 ah', .int .u64 al']) ∧ Below W.heap.size W w' := by
        intro W; have := add_in A bh (by unfold InW; omega) (InR.w wbh) (by unfold InW; omega) W; rw [ea, eo, ea'] at this; exact this
      have cF : ∀ W : World, Calls Tryd.prog 32 #[.agg #[.int .i64 ah', .int .u64 al']] W fun e w' => e = .returned (.int .i64 H) ∧ Below W.heap.size W w' := by
        intro W; have := fix_any (A + bh) (by unfold InW; omega) W; rw [ea', eH2] at this; exact this
      have cS : Hid (∀ W : World, Below w.heap.size w W → Calls Tryd.prog 39 #[.agg #[.int .i64 H, .int .u64 bl], .int .i64 32] W fun e w' => e = .returned (.agg #[.int .i64 qh, .int .u64 ql]) ∧ Below W.heap.size W w') := fun W hW => by
        have := shift_any (H * 18446744073709551616 + bl) 32 wS (by unfold InR; omega) W (hT.out.up hW)
        rw [← wd_mk H bl ⟨b3, by omega⟩, if_neg (by omega), show (2 : Int) ^ (32 : Int).toNat = 4294967296 from rfl, eQ, eq] at this
        exact this
      have cG : ∀ W : World, Calls Tryd.prog 32 #[.agg #[.int .i64 qh, .int .u64 ql]] W fun e w' => e = .returned (.int .i64 D) ∧ Below W.heap.size W w' := by
        intro W; have := fix_any Q wQ W; rw [eq, ← eQ, ← HD.out] at this; exact this
      clear HD rA rB eT rT eH eL eH2 rH wS eQ wQ ea eb eo ea' eq wbh hbh
      obtain ⟨c0, c1⟩ := L0.out.words Ha.out a3 a4
      obtain ⟨d0, d1⟩ := L1.out.words Hb.out b3 b4
      have u0 := L0.out.1
      have u1 := L1.out.1
      have hk' : ¬ (k : Int) < (k : Int) := by omega
      go_wp2_with fail
      refine flow 5 51 (by kernel_rfl) rfl rfl (by kernel_rfl) ?_
      apply Exists.intro
      refine ⟨?_, ?_⟩
      · intro F hF
        have hFc := hF.cell
        have hFf := hF.frozen
        simp only [List.take_succ_cons, List.take_zero, List.eraseIdx_cons_succ, List.eraseIdx_cons_zero]
        repeat (go_big_quiet_step (first | (go_at_call 38; with_reducible exact hF.call (cOf _)) | (go_at_call 37; with_reducible exact hF.call (cA _))))
        refine wpQuiet_nil ?_
        exact rfl
      intro W8 hW8
      simp only [List.drop_succ_cons, List.drop_zero]
      have M := L0.out.up hW8
      have N0 := M.set (y := A + bh) (yh := ah') (yl := al') (by have := Ha'.out; omega) (by have := Ha'.out; omega)
      have N1 := (L1.out.up hW8).off (c := w.heap.size) (y0 := .int .i64 ah') (y1 := .int .u64 al') (by omega)
      have B8 := below_set2 (HB.out.trans (hW8.mono HB.out.size)) w.heap.size (Nat.le_refl _) (.int .i64 ah') (.int .u64 al')
      obtain ⟨g0, g1, g2, g3, g4⟩ := M
      clear hW8 c0 c1 d0 d1 u0 u1 cOf cA L0 L1 HB
      go_wp2_with fail
      refine name_world (fun W9 hW9 => ?_)
      rw [← hW9] at N0 N1 B8
      clear hW9 g0 g1 g2 g3 g4
      obtain ⟨c0, c1⟩ := N0.words Ha'.out a3' a4'
      obtain ⟨d0, d1⟩ := N1.words Hb.out b3 b4
      have HB9 : Hid (Below w.heap.size w W9) := B8
      have u0 := N0.1
      have u1 := N1.1
      clear N0 N1 B8
      refine flow_new (.cells #[.int .i64 0, .int .u64 0] 50) 5 6 51 9 (by kernel_rfl) rfl rfl (by kernel_rfl) rfl rfl rfl ?_
      apply Exists.intro
      refine ⟨?_, ?_, ?_⟩
      · intro F hF
        have hFc := hF.cell
        have hFf := hF.frozen
        simp only [List.take_succ_cons, List.take_zero, List.eraseIdx_cons_succ, List.eraseIdx_cons_zero]
        repeat (go_big_quiet_step (first | (go_at_call 32; with_reducible exact hF.call (cF _))))
        refine wpQuiet_nil ?_
        exact rfl
      · intro W
        kernel_rfl
      intro W6 g8 hW hM
      have Y0 := hM.cell (i := 0) rfl
      have Y1 := hM.cell (i := 1) rfl
      have Z0 := hM.frozen 0
      have Z1 := hM.frozen 1
      have lt6 : g8 < W6.heap.size := hM.1
      have ge6 : w.heap.size ≤ g8 := Nat.le_trans HB9.out.size hM.2.1
      have N8 := (two W6 g8 (.int .i64 H) (.int .u64 bl) Y0 Y1)
      have B6 : Hid (Below w.heap.size w ((W6.setCell ⟨g8, 0, none⟩ (.int .i64 H)).setCell ⟨g8, 1, none⟩ (.int .u64 bl))) := below_set2 (HB9.out.trans (hW.mono HB9.out.size)) g8 ge6 _ _
      have B6' := B6.out
      simp only [List.drop_succ_cons, List.drop_zero]
      unfold ptrTo
      clear hM hW cF c0 c1 d0 d1 u0 u1
      go_wp2_with fail
      clear Y0 Y1 Z0 Z1 lt6 B6' N8
      refine (cS.out _ B6.out).mono ?_
      rintro e W11 ⟨rfl, hW11⟩
      have B11 : Hid (Below w.heap.size w W11) := B6.out.trans (hW11.mono B6.out.size)
      clear hW11 cS
      go_wp2_with fail
      refine (cG W11).mono ?_
      rintro e W12 ⟨rfl, hW12⟩
      have B12 : Hid (Below w.heap.size w W12) := B11.out.trans (hW12.mono B11.out.size)
      clear hW12 cG
      go_wp2
      go_ret
      exact ⟨rfl, B12.out⟩
end Go.Proofs.YtpjlhfbejbdocaaDoor.Wd
