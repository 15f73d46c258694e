/- The law WideSums: so many whole numbers, summed in any two parts, are the same sum. -/
import Derived.Test.YtdbndpcbejofkaaDoorWAwake
import Derived.Test.YtdbndpcbejofkaaDoorWideG
import Derived.Test.YtdbndpcbejofkaaDoorFlow
import Derived.Test.YtdbndpcbejofkaaDoorRefP
import Derived.Test.YtdbndpcbejofkaaDoorRefJ
import Derived.Test.YtdbndpcbejofkaaDoorRow
import Derived.Deep.LoopGhost
namespace Go.Proofs.YtdbndpcbejofkaaDoor.Wd
open Go.RowKit Fx
set_option linter.unusedVariables false
set_option linter.unusedSimpArgs false
attribute [local go_sem] fld_hi fld_lo
def sumTo (z : Nat → Int) : Nat → Int
  | 0 => 0
  | k + 1 => sumTo z k + z k
theorem sumTo_le (z : Nat → Int) (n : Nat) (hz : ∀ i, i < n → InR (z i)) : ∀ k, k ≤ n → -(k * 9223372036854775808 : Int) ≤ sumTo z k ∧ sumTo z k ≤ k * 9223372036854775808
  | 0, _ => by simp [sumTo]
  | k + 1, h => by
    have h1 := sumTo_le z n hz k (by omega)
    have h2 := hz k (by omega)
    unfold InR at h2
    simp only [sumTo]
    omega
/-- A number that lies in the two cells of a block, which may be written. -/
def Lies (W : World) (b : Nat) (x : Int) : Prop :=
  b < W.heap.size ∧ W.cell? ⟨b, 0, none⟩ = some (.int .i64 (x / 18446744073709551616)) ∧ W.cell? ⟨b, 1, none⟩ = some (.int .u64 (x % 18446744073709551616)) ∧ W.frozen? ⟨b, 0, none⟩ = false ∧ W.frozen? ⟨b, 1, none⟩ = false
theorem Lies.up {W W' : World} {b : Nat} {x : Int} (h : Lies W b x) (hb : Below W.heap.size W W') : Lies W' b x :=
  ⟨Nat.lt_of_lt_of_le h.1 hb.size, keep hb h.2.1, keep hb h.2.2.1, keepf hb h.2.1 h.2.2.2.1, keepf hb h.2.2.1 h.2.2.2.2⟩
theorem frozen_set (W : World) (p q : Addr) (x : Value) : (W.setCell p x).frozen? q = W.frozen? q := by simp
theorem Lies.off {W : World} {b c : Nat} {x : Int} {y0 y1 : Value} (h : Lies W b x) (hne : b ≠ c) : Lies ((W.setCell ⟨c, 0, none⟩ y0).setCell ⟨c, 1, none⟩ y1) b x := by
  refine ⟨by simpa using h.1, ?_, ?_, ?_, ?_⟩
  · rw [World.cell?_setCell_other _ _ _ _ (by simp; try omega), World.cell?_setCell_other _ _ _ _ (by simp; try omega)]; exact h.2.1
  · rw [World.cell?_setCell_other _ _ _ _ (by simp; try omega), World.cell?_setCell_other _ _ _ _ (by simp; try omega)]; exact h.2.2.1
  · rw [frozen_set, frozen_set]; exact h.2.2.2.1
  · rw [frozen_set, frozen_set]; exact h.2.2.2.2
theorem Lies.set {W : World} {b : Nat} {x y yh yl : Int} (h : Lies W b x) (eh : yh = y / 18446744073709551616) (el : yl = y % 18446744073709551616) : Lies ((W.setCell ⟨b, 0, none⟩ (.int .i64 yh)).setCell ⟨b, 1, none⟩ (.int .u64 yl)) b y := by
  obtain ⟨f0, f1⟩ := two W b (.int .i64 yh) (.int .u64 yl) h.2.1 h.2.2.1
  refine ⟨by simpa using h.1, ?_, ?_, ?_, ?_⟩
  · rw [f0, eh]
  · rw [f1, el]
  · rw [frozen_set, frozen_set]; exact h.2.2.2.1
  · rw [frozen_set, frozen_set]; exact h.2.2.2.2
theorem add_in (x y : Int) (hx : InW x) (hy : InW y) (hxy : InW (x + y)) (W : World) :
    Calls Tryd.prog 17 #[wd x, wd y] W fun e w' => e = .returned (wd (x + y)) ∧ Below W.heap.size W w' := by
  have := add_any x y hx hy W
  rw [wr_in hxy] at this
  exact this
/-- One of the reference's numbers in the five cells of a block, which may be written. -/
def LiesN (W : World) (b : Nat) (r : Bool) (m : Int) : Prop :=
  ∃ a0 a1 a2 a3 : Int, b < W.heap.size ∧ W.cell? ⟨b, 0, none⟩ = some (.bool r) ∧ W.cell? ⟨b, 1, none⟩ = some (.int .u64 a0) ∧ W.cell? ⟨b, 2, none⟩ = some (.int .u64 a1) ∧ W.cell? ⟨b, 3, none⟩ = some (.int .u64 a2) ∧ W.cell? ⟨b, 4, none⟩ = some (.int .u64 a3) ∧
    W.frozen? ⟨b, 0, none⟩ = false ∧ W.frozen? ⟨b, 1, none⟩ = false ∧ W.frozen? ⟨b, 2, none⟩ = false ∧ W.frozen? ⟨b, 3, none⟩ = false ∧ W.frozen? ⟨b, 4, none⟩ = false ∧ Rf.IsN (.agg #[.bool r, .int .u64 a0, .int .u64 a1, .int .u64 a2, .int .u64 a3]) r m
theorem cell_off {W : World} {b c i j : Nat} {x : Value} (h : c ≠ b) : (W.setCell ⟨b, j, none⟩ x).cell? ⟨c, i, none⟩ = W.cell? ⟨c, i, none⟩ := World.cell?_setCell_other _ _ _ _ (by simp; try omega)
theorem set5_off {W : World} {b c i : Nat} {x0 x1 x2 x3 x4 : Value} (h : c ≠ b) : (((((W.setCell ⟨b, 0, none⟩ x0).setCell ⟨b, 1, none⟩ x1).setCell ⟨b, 2, none⟩ x2).setCell ⟨b, 3, none⟩ x3).setCell ⟨b, 4, none⟩ x4).cell? ⟨c, i, none⟩ = W.cell? ⟨c, i, none⟩ :=
  (cell_off h).trans ((cell_off h).trans ((cell_off h).trans ((cell_off h).trans (cell_off h))))
theorem set5_frozen (W : World) (b : Nat) (q : Addr) (x0 x1 x2 x3 x4 : Value) : (((((W.setCell ⟨b, 0, none⟩ x0).setCell ⟨b, 1, none⟩ x1).setCell ⟨b, 2, none⟩ x2).setCell ⟨b, 3, none⟩ x3).setCell ⟨b, 4, none⟩ x4).frozen? q = W.frozen? q :=
  (frozen_set _ _ _ _).trans ((frozen_set _ _ _ _).trans ((frozen_set _ _ _ _).trans ((frozen_set _ _ _ _).trans (frozen_set _ _ _ _))))
theorem set5_size (W : World) (b : Nat) (x0 x1 x2 x3 x4 : Value) : (((((W.setCell ⟨b, 0, none⟩ x0).setCell ⟨b, 1, none⟩ x1).setCell ⟨b, 2, none⟩ x2).setCell ⟨b, 3, none⟩ x3).setCell ⟨b, 4, none⟩ x4).heap.size = W.heap.size := by simp
theorem Lies.off5 {W : World} {b c : Nat} {x : Int} {x0 x1 x2 x3 x4 : Value} (h : Lies W b x) (hne : b ≠ c) : Lies (((((W.setCell ⟨c, 0, none⟩ x0).setCell ⟨c, 1, none⟩ x1).setCell ⟨c, 2, none⟩ x2).setCell ⟨c, 3, none⟩ x3).setCell ⟨c, 4, none⟩ x4) b x := by
  exact ⟨by rw [set5_size]; exact h.1, (set5_off hne).trans h.2.1, (set5_off hne).trans h.2.2.1, (set5_frozen _ _ _ _ _ _ _ _).trans h.2.2.2.1, (set5_frozen _ _ _ _ _ _ _ _).trans h.2.2.2.2⟩
theorem LiesN.up {W W' : World} {b : Nat} {r : Bool} {m : Int} (h : LiesN W b r m) (hb : Below W.heap.size W W') : LiesN W' b r m := by
  obtain ⟨a0, a1, a2, a3, h0, c0, c1, c2, c3, c4, f0, f1, f2, f3, f4, hN⟩ := h
  exact ⟨a0, a1, a2, a3, Nat.lt_of_lt_of_le h0 hb.size, keep hb c0, keep hb c1, keep hb c2, keep hb c3, keep hb c4, keepf hb c0 f0, keepf hb c1 f1, keepf hb c2 f2, keepf hb c3 f3, keepf hb c4 f4, hN⟩
theorem LiesN.set {W : World} {b : Nat} {r r' : Bool} {m m' t0 t1 t2 t3 : Int} (h : LiesN W b r m) (hN : Rf.IsN (.agg #[.bool r', .int .u64 t0, .int .u64 t1, .int .u64 t2, .int .u64 t3]) r' m') :
    LiesN (((((W.setCell ⟨b, 0, none⟩ (.bool r')).setCell ⟨b, 1, none⟩ (.int .u64 t0)).setCell ⟨b, 2, none⟩ (.int .u64 t1)).setCell ⟨b, 3, none⟩ (.int .u64 t2)).setCell ⟨b, 4, none⟩ (.int .u64 t3)) b r' m' := by
  obtain ⟨a0, a1, a2, a3, h0, c0, c1, c2, c3, c4, f0, f1, f2, f3, f4, _⟩ := h
  obtain ⟨g0, g1, g2, g3, g4⟩ := Rf.five W b (.bool r') (.int .u64 t0) (.int .u64 t1) (.int .u64 t2) (.int .u64 t3) c0 c1 c2 c3 c4
  exact ⟨t0, t1, t2, t3, by rw [set5_size]; exact h0, g0, g1, g2, g3, g4, (set5_frozen _ _ _ _ _ _ _ _).trans f0, (set5_frozen _ _ _ _ _ _ _ _).trans f1, (set5_frozen _ _ _ _ _ _ _ _).trans f2, (set5_frozen _ _ _ _ _ _ _ _).trans f3, (set5_frozen _ _ _ _ _ _ _ _).trans f4, hN⟩
theorem below_set5 {B : Nat} {a w : World} (h : Below B a w) (b : Nat) (hb : B ≤ b) (x0 x1 x2 x3 x4 : Value) : Below B a (((((w.setCell ⟨b, 0, none⟩ x0).setCell ⟨b, 1, none⟩ x1).setCell ⟨b, 2, none⟩ x2).setCell ⟨b, 3, none⟩ x3).setCell ⟨b, 4, none⟩ x4) :=
  ((((h.setCell (p := ⟨b, 0, none⟩) hb x0).setCell (p := ⟨b, 1, none⟩) hb x1).setCell (p := ⟨b, 2, none⟩) hb x2).setCell (p := ⟨b, 3, none⟩) hb x3).setCell (p := ⟨b, 4, none⟩) hb x4
set_option maxHeartbeats 4000000 in
set_option maxRecDepth 20000 in
theorem sums_in (z : Nat → Int) (n cap : Nat) (p : Option Addr) (cut : Nat) (cc : Int) (ec : cc = (cut : Int)) (hcut : cut ≤ n) (hn : n ≤ 200) (hz : ∀ i, i < n → InR (z i)) (w : World) (hT : Hid (Tz w))
    (hp : Hid (0 < n → ∃ b o, p = some ⟨b, o, none⟩ ∧ b < w.heap.size ∧ ∀ i, i < n → w.cell? ⟨b, o + i, none⟩ = some (.int .i64 (z i)))) :
    Calls Tryd.prog 8 #[.slice p n cap, .int .i64 cc] w fun e w' => e = .returned (.bool true) ∧ Below w.heap.size w w' := by
  have s0 : ∀ W : World, Below w.heap.size w W → Calls Tryd.prog 9 #[] W fun e w' => e = .returned (.bool true) ∧ Below W.heap.size W w' := fun W h => awake_any W (hT.out.up h)
  have hc1 : 0 ≤ cc ∧ cc ≤ (n : Int) := by omega
  have hn1 : (n : Int) ≤ 200 := by omega
  have EC : Hid (cc = (cut : Int)) := ec
  clear ec
  go_enter Tryd.func8, Tryd.ntmps8
  go_wp2_with fail
  refine (s0 _ (by go_grown)).mono ?_
  rintro e' w1 ⟨rfl, hb1⟩
  have B1 : Below w.heap.size w w1 := hb1
  clear hb1 s0
  have sz1 : w.heap.size ≤ w1.heap.size := B1.size
  go_wp2_with fail
  go_loopg [8] n (fun g v wr => ∃ k : Nat, k ≤ n ∧ g = n - k ∧ v = .int .i64 (k : Int) ∧ Below w.heap.size w wr ∧ Lies wr w1.heap.size (sumTo z (min k cut)) ∧ Lies wr (w1.heap.size + 1) (sumTo z k - sumTo z (min k cut)) ∧ Lies wr (w1.heap.size + 1 + 1) (sumTo z k))
  case atStart =>
    refine ⟨0, by omega, by omega, rfl, by go_grown, ?_, ?_, ?_⟩
    all_goals
      simp only [sumTo, Nat.zero_min]
      unfold Lies
      simp [go_sem]
  case round =>
    obtain ⟨k, hk, hg, rfl, Bk, L5, L6, L7⟩ := hrel
    by_cases hkn : k < n
    · obtain ⟨b, o, rfl, hbw, hcell⟩ := hp.out (by omega)
      have hk' : (k : Int) < (n : Int) := by omega
      have lt0 : b < wr.heap.size := Nat.lt_of_lt_of_le hbw Bk.size
      have c0 : wr.cell? ⟨b, o + k, none⟩ = some (.int .i64 (z k)) := by rw [(bcell Bk).1 _ _ hbw]; exact hcell k hkn
      have hzk := hz k hkn
      have r0 := sumTo_le z n hz k (by omega)
      have r1 := sumTo_le z n hz (k + 1) (by omega)
      have r2 := sumTo_le z n hz (min k cut) (by omega)
      obtain ⟨S, eS⟩ : ∃ S, sumTo z k = S := ⟨_, rfl⟩
      obtain ⟨x, ex⟩ : ∃ x, z k = x := ⟨_, rfl⟩
      obtain ⟨Sc, eSc⟩ : ∃ S, sumTo z (min k cut) = S := ⟨_, rfl⟩
      have r1' : sumTo z (k + 1) = S + x := by rw [sumTo, eS, ex]
      rw [r1'] at r1
      rw [eS] at r0 L6 L7
      rw [eSc] at r2 L5 L6
      rw [ex] at c0 hzk
      have wS : InW S := by unfold InW; omega
      have wT : InW (S + x) := by unfold InW; omega
      obtain ⟨sh, sl, es, s1, s2, s3, s4, Hs⟩ := words wS
      obtain ⟨xh, xl, exw, x1, x2, x3, x4, Hx⟩ := words (InR.w hzk)
      obtain ⟨th, tl, et, t1, t2, t3, t4, Ht⟩ := words wT
      have cOf : ∀ W : World, Calls Tryd.prog 14 #[.int .i64 x] W fun e w' => e = .returned (.agg #[.int .i64 xh, .int .u64 xl]) ∧ Below W.heap.size W w' := by
        intro W; have := of_any x hzk W; rw [exw] at this; exact this
      have cAd : ∀ W : World, Calls Tryd.prog 17 #[.agg #[.int .i64 sh, .int .u64 sl], .agg #[.int .i64 xh, .int .u64 xl]] W fun e w' => e = .returned (.agg #[.int .i64 th, .int .u64 tl]) ∧ Below W.heap.size W w' := by
        intro W; have := add_in S x wS (InR.w hzk) wT W; rw [exw, es, et] at this; exact this
      have q7 : wr.cell? ⟨w1.heap.size + 1 + 1, 0, none⟩ = some (.int .i64 sh) ∧ wr.cell? ⟨w1.heap.size + 1 + 1, 1, none⟩ = some (.int .u64 sl) := by
        have := Hs.out
        refine ⟨?_, ?_⟩
        · rw [L7.2.1, show S / 18446744073709551616 = sh by omega]
        · rw [L7.2.2.1, show S % 18446744073709551616 = sl by omega]
      have lt7 := L7.1
      haveI : Nonempty World := ⟨w⟩
      go_wp2_with fail
      refine flow 7 85 (by kernel_rfl) rfl rfl (by kernel_rfl) ?_
      apply Exists.intro
      refine ⟨?_, ?_⟩
      · intro F hF
        have hFc := hF.cell
        have hFf := hF.frozen
        simp only [List.take_succ_cons, List.take_zero, List.eraseIdx_cons_succ, List.eraseIdx_cons_zero]
        repeat (go_big_quiet_step (first | (go_at_call 14; with_reducible exact hF.call (cOf _)) | (go_at_call 17; with_reducible exact hF.call (cAd _))))
        refine wpQuiet_nil ?_
        exact rfl
      · intro W2 hW2
        simp only [List.drop_succ_cons, List.drop_zero]
        have M := L7.up hW2
        have M5 := (L5.up hW2).off (c := w1.heap.size + 1 + 1) (y0 := .int .i64 th) (y1 := .int .u64 tl) (by omega)
        have M6 := (L6.up hW2).off (c := w1.heap.size + 1 + 1) (y0 := .int .i64 th) (y1 := .int .u64 tl) (by omega)
        have M7 := M.set (y := S + x) (yh := th) (yl := tl) (by have := Ht.out; omega) (by have := Ht.out; omega)
        have g7 := M.1
        have g7a := M.2.1
        have g7b := M.2.2.1
        have g7c := M.2.2.2.1
        have g7d := M.2.2.2.2
        have B2 : Below w.heap.size w ((W2.setCell ⟨w1.heap.size + 1 + 1, 0, none⟩ (.int .i64 th)).setCell ⟨w1.heap.size + 1 + 1, 1, none⟩ (.int .u64 tl)) := below_set2 (Bk.trans (hW2.mono Bk.size)) _ (by omega) _ _
        have c2 : ((W2.setCell ⟨w1.heap.size + 1 + 1, 0, none⟩ (.int .i64 th)).setCell ⟨w1.heap.size + 1 + 1, 1, none⟩ (.int .u64 tl)).cell? ⟨b, o + k, none⟩ = some (.int .i64 x) := by
          rw [World.cell?_setCell_other _ _ _ _ (by simp; try omega), World.cell?_setCell_other _ _ _ _ (by simp; try omega)]
          exact keep hW2 c0
        clear M L5 L6 L7 hW2 c0
        have hec := EC.out
        by_cases hkc : k < cut
        · have hkc' : (k : Int) < cc := by omega
          have m0 : min k cut = k := by omega
          have m1 : min (k + 1) cut = k + 1 := by omega
          have hSc : Sc = S := by rw [← eSc, ← eS, m0]
          subst hSc
          clear hec
          go_wp2_with fail
          refine name_world (fun W3 hW3 => ?_)
          rw [← hW3] at B2 c2 M5 M6 M7
          clear hW3 g7 g7a g7b g7c g7d
          have B3 := B2
          have lt3 : b < W3.heap.size := cell_lt c2
          obtain ⟨uh, ul, eu, u1, u2, u3, u4, Hu⟩ := words (v := Sc) (by unfold InW; omega)
          obtain ⟨vh, vl, ev, v1, v2, v3, v4, Hv⟩ := words (v := Sc + x) (by unfold InW; omega)
          have cAd2 : ∀ W : World, Calls Tryd.prog 17 #[.agg #[.int .i64 uh, .int .u64 ul], .agg #[.int .i64 xh, .int .u64 xl]] W fun e w' => e = .returned (.agg #[.int .i64 vh, .int .u64 vl]) ∧ Below W.heap.size W w' := by
            intro W; have := add_in (Sc) x (by unfold InW; omega) (InR.w hzk) (by unfold InW; omega) W; rw [exw, eu, ev] at this; exact this
          have q5 : W3.cell? ⟨w1.heap.size, 0, none⟩ = some (.int .i64 uh) ∧ W3.cell? ⟨w1.heap.size, 1, none⟩ = some (.int .u64 ul) := by
            have := Hu.out
            refine ⟨?_, ?_⟩
            · rw [M5.2.1, show (Sc) / 18446744073709551616 = uh by omega]
            · rw [M5.2.2.1, show (Sc) % 18446744073709551616 = ul by omega]
          have lt5 := M5.1
          clear cAd q7
          refine flow 7 85 (by kernel_rfl) rfl rfl (by kernel_rfl) ?_
          apply Exists.intro
          refine ⟨?_, ?_⟩
          · intro F hF
            have hFc := hF.cell
            have hFf := hF.frozen
            simp only [List.take_succ_cons, List.take_zero, List.eraseIdx_cons_succ, List.eraseIdx_cons_zero]
            repeat (go_big_quiet_step (first | (go_at_call 14; with_reducible exact hF.call (cOf _)) | (go_at_call 17; with_reducible exact hF.call (cAd2 _))))
            refine wpQuiet_nil ?_
            exact rfl
          · intro W4 hW4
            simp only [List.drop_succ_cons, List.drop_zero]
            have M := M5.up hW4
            have N1 := (M6.up hW4).off (c := w1.heap.size) (y0 := .int .i64 vh) (y1 := .int .u64 vl) (by omega)
            have N2 := (M7.up hW4).off (c := w1.heap.size) (y0 := .int .i64 vh) (y1 := .int .u64 vl) (by omega)
            have NN := M.set (y := Sc + x) (yh := vh) (yl := vl) (by have := Hv.out; omega) (by have := Hv.out; omega)
            have g5 := M.1
            have g5a := M.2.1
            have g5b := M.2.2.1
            have g5c := M.2.2.2.1
            have g5d := M.2.2.2.2
            have B5 : Below w.heap.size w ((W4.setCell ⟨w1.heap.size, 0, none⟩ (.int .i64 vh)).setCell ⟨w1.heap.size, 1, none⟩ (.int .u64 vl)) := below_set2 (B3.trans (hW4.mono B3.size)) _ (by omega) _ _
            clear M cAd2 q5 hW4
            go_wp2
            go_roundg (n - (k + 1))
            case measure => omega
            case rel =>
              refine ⟨k + 1, by omega, rfl, by simp, B5, ?_, ?_, ?_⟩
              · rw [m1, r1']; exact NN
              · rw [m1, Int.sub_self]; simpa using N1
              · rw [r1']; exact N2
        · have hkc' : ¬ (k : Int) < cc := by omega
          have m0 : min k cut = cut := by omega
          have m1 : min (k + 1) cut = cut := by omega
          have r3 : sumTo z cut = Sc := by rw [← eSc, m0]
          clear hec
          go_wp2_with fail
          refine name_world (fun W3 hW3 => ?_)
          rw [← hW3] at B2 c2 M5 M6 M7
          clear hW3 g7 g7a g7b g7c g7d
          have B3 := B2
          have lt3 : b < W3.heap.size := cell_lt c2
          obtain ⟨uh, ul, eu, u1, u2, u3, u4, Hu⟩ := words (v := S - Sc) (by unfold InW; omega)
          obtain ⟨vh, vl, ev, v1, v2, v3, v4, Hv⟩ := words (v := S - Sc + x) (by unfold InW; omega)
          have cAd2 : ∀ W : World, Calls Tryd.prog 17 #[.agg #[.int .i64 uh, .int .u64 ul], .agg #[.int .i64 xh, .int .u64 xl]] W fun e w' => e = .returned (.agg #[.int .i64 vh, .int .u64 vl]) ∧ Below W.heap.size W w' := by
            intro W; have := add_in (S - Sc) x (by unfold InW; omega) (InR.w hzk) (by unfold InW; omega) W; rw [exw, eu, ev] at this; exact this
          have q5 : W3.cell? ⟨(w1.heap.size + 1), 0, none⟩ = some (.int .i64 uh) ∧ W3.cell? ⟨(w1.heap.size + 1), 1, none⟩ = some (.int .u64 ul) := by
            have := Hu.out
            refine ⟨?_, ?_⟩
            · rw [M6.2.1, show (S - Sc) / 18446744073709551616 = uh by omega]
            · rw [M6.2.2.1, show (S - Sc) % 18446744073709551616 = ul by omega]
          have lt5 := M6.1
          clear cAd q7
          refine flow 7 85 (by kernel_rfl) rfl rfl (by kernel_rfl) ?_
          apply Exists.intro
          refine ⟨?_, ?_⟩
          · intro F hF
            have hFc := hF.cell
            have hFf := hF.frozen
            simp only [List.take_succ_cons, List.take_zero, List.eraseIdx_cons_succ, List.eraseIdx_cons_zero]
            repeat (go_big_quiet_step (first | (go_at_call 14; with_reducible exact hF.call (cOf _)) | (go_at_call 17; with_reducible exact hF.call (cAd2 _))))
            refine wpQuiet_nil ?_
            exact rfl
          · intro W4 hW4
            simp only [List.drop_succ_cons, List.drop_zero]
            have M := M6.up hW4
            have N1 := (M5.up hW4).off (c := (w1.heap.size + 1)) (y0 := .int .i64 vh) (y1 := .int .u64 vl) (by omega)
            have N2 := (M7.up hW4).off (c := (w1.heap.size + 1)) (y0 := .int .i64 vh) (y1 := .int .u64 vl) (by omega)
            have NN := M.set (y := S - Sc + x) (yh := vh) (yl := vl) (by have := Hv.out; omega) (by have := Hv.out; omega)
            have g5 := M.1
            have g5a := M.2.1
            have g5b := M.2.2.1
            have g5c := M.2.2.2.1
            have g5d := M.2.2.2.2
            have B5 : Below w.heap.size w ((W4.setCell ⟨(w1.heap.size + 1), 0, none⟩ (.int .i64 vh)).setCell ⟨(w1.heap.size + 1), 1, none⟩ (.int .u64 vl)) := below_set2 (B3.trans (hW4.mono B3.size)) _ (by omega) _ _
            clear M cAd2 q5 hW4
            go_wp2
            go_roundg (n - (k + 1))
            case measure => omega
            case rel =>
              refine ⟨k + 1, by omega, rfl, by simp, B5, ?_, ?_, ?_⟩
              · rw [m1, r3]; exact N1
              · rw [m1, r1', r3, show S + x - Sc = S - Sc + x by omega]; exact NN
              · rw [r1']; exact N2
    · obtain rfl : k = n := by omega
      have hk' : ¬ (k : Int) < (k : Int) := by omega
      have mc : min k cut = cut := by omega
      rw [mc] at L5 L6
      have szk : w.heap.size ≤ wr.heap.size := Bk.size
      have n5 := L5.1
      have n6 := L6.1
      have n7 := L7.1
      go_wp2_with fail
      obtain ⟨nb, enb⟩ : ∃ nb, wr.heap.size = nb := ⟨_, rfl⟩
      rw [enb] at szk n5 n6 n7
      simp only [enb]
      go_loopg [10] k (fun g v wr2 => ∃ (j : Nat) (r : Bool) (m : Int), j ≤ k ∧ g = k - j ∧ v = .int .i64 (j : Int) ∧ Below w.heap.size w wr2 ∧ Lies wr2 w1.heap.size (sumTo z cut) ∧ Lies wr2 (w1.heap.size + 1) (sumTo z k - sumTo z cut) ∧ Lies wr2 (w1.heap.size + 1 + 1) (sumTo z k) ∧ LiesN wr2 nb r m ∧ Hid (Rf.sv r m = sumTo z j ∧ 0 ≤ m ∧ m ≤ (j : Int) * 9223372036854775808))
      case atStart =>
        have up : Below wr.heap.size wr (wr.alloc (.cells #[.bool false, .int .u64 0, .int .u64 0, .int .u64 0, .int .u64 0] 41)) := (Below.refl _ _).alloc (Nat.le_refl _) _
        refine ⟨0, false, 0, by omega, by omega, rfl, Bk.trans (up.mono Bk.size), L5.up up, L6.up up, L7.up up, ?_, ?_⟩
        · rw [← enb]
          refine ⟨0, 0, 0, 0, by simp, by simp [go_sem], by simp [go_sem], by simp [go_sem], by simp [go_sem], by simp [go_sem], by simp [go_sem], by simp [go_sem], by simp [go_sem], by simp [go_sem], by simp [go_sem], ?_⟩
          exact ⟨0, 0, 0, 0, rfl, by unfold Rf.U; omega, by unfold Rf.U; omega, by unfold Rf.U; omega, by unfold Rf.U; omega, by rw [Rf.PS4]; rfl⟩
        · exact ⟨rfl, by omega, by omega⟩
      case round =>
        obtain ⟨j, r, m, hj, hg2, rfl, Bj, K5, K6, K7, KN, HS⟩ := hrel
        clear L5 L6 L7 enb
        haveI : Nonempty World := ⟨w⟩
        by_cases hjk : j < k
        · obtain ⟨b, o, rfl, hbw, hcell⟩ := hp.out (by omega)
          have hj' : (j : Int) < (k : Int) := by omega
          have lt0 : b < wr.heap.size := Nat.lt_of_lt_of_le hbw Bj.size
          have c0 : wr.cell? ⟨b, o + j, none⟩ = some (.int .i64 (z j)) := by rw [(bcell Bj).1 _ _ hbw]; exact hcell j hjk
          have hzk := hz j hjk
          obtain ⟨x, ex⟩ : ∃ x, z j = x := ⟨_, rfl⟩
          have r1 : sumTo z (j + 1) = sumTo z j + x := by rw [sumTo, ex]
          rw [ex] at c0 hzk
          obtain ⟨hs1, hs2, hs3⟩ := HS.out
          obtain ⟨y, ey⟩ : ∃ y : Int, (x.natAbs : Int) = y := ⟨_, rfl⟩
          have hy : 0 ≤ y ∧ y ≤ 9223372036854775808 := by unfold InR at hzk; omega
          obtain ⟨f0, f1, f2, f3, ef, hf⟩ := Rf.nv_words (decide (x < 0)) y hy.1 (by omega)
          have hp1 := Rf.pls_sv r m (decide (x < 0)) y
          have hp2 := Rf.pls_le r m (decide (x < 0)) y hs2 hy.1
          have hsx : Rf.sv (decide (x < 0)) y = x := by rw [← ey]; exact Rf.sv_from x
          obtain ⟨r', er⟩ : ∃ r', (Rf.pls r m (decide (x < 0)) y).1 = r' := ⟨_, rfl⟩
          obtain ⟨m', em⟩ : ∃ m', (Rf.pls r m (decide (x < 0)) y).2 = m' := ⟨_, rfl⟩
          rw [er, em] at hp1
          rw [em] at hp2
          obtain ⟨t0, t1, t2, t3, et, ht⟩ := Rf.nv_words r' m' hp2.1 (by omega)
          have HS' : Hid (Rf.sv r' m' = sumTo z (j + 1) ∧ 0 ≤ m' ∧ m' ≤ ((j + 1 : Nat) : Int) * 9223372036854775808) := ⟨by rw [r1, hp1, hs1, hsx], hp2.1, by omega⟩
          have KN' := KN
          obtain ⟨a0, a1, a2, a3, lt9, q0, q1, q2, q3, q4, z0, z1, z2, z3, z4, hN⟩ := KN'
          have cFr : ∀ W : World, Calls Tryd.prog 30 #[.int .i64 x] W fun e w' => e = .returned (.agg #[.bool (decide (x < 0)), .int .u64 f0, .int .u64 f1, .int .u64 f2, .int .u64 f3]) ∧ Below W.heap.size W w' := by
            intro W; have := Rf.from_nv x hzk W; rw [ey, ef] at this; exact this
          have cPl : ∀ W : World, Calls Tryd.prog 33 #[.agg #[.bool r, .int .u64 a0, .int .u64 a1, .int .u64 a2, .int .u64 a3], .agg #[.bool (decide (x < 0)), .int .u64 f0, .int .u64 f1, .int .u64 f2, .int .u64 f3]] W fun e w' => e = .returned (.agg #[.bool r', .int .u64 t0, .int .u64 t1, .int .u64 t2, .int .u64 t3]) ∧ Below W.heap.size W w' := by
            intro W; have := Rf.plus_nv _ _ r (decide (x < 0)) m y hN hf (by omega) W; rw [er, em, et] at this; exact this
          clear hp1 hp2 hsx er em et ef ey hs1 hs2 hs3 hN
          go_wp2_with fail
          refine flow 7 85 (by kernel_rfl) rfl rfl (by kernel_rfl) ?_
          apply Exists.intro
          refine ⟨?_, ?_⟩
          · intro F hF
            have hFc := hF.cell
            have hFf := hF.frozen
            simp only [List.take_succ_cons, List.take_zero, List.eraseIdx_cons_succ, List.eraseIdx_cons_zero]
            repeat (go_big_quiet_step (first | (go_at_call 30; with_reducible exact hF.call (cFr _)) | (go_at_call 33; with_reducible exact hF.call (cPl _))))
            refine wpQuiet_nil ?_
            exact rfl
          · intro W4 hW4
            simp only [List.drop_succ_cons, List.drop_zero]
            have M := KN.up hW4
            have N5 := (K5.up hW4).off5 (c := nb) (x0 := .bool r') (x1 := .int .u64 t0) (x2 := .int .u64 t1) (x3 := .int .u64 t2) (x4 := .int .u64 t3) (by omega)
            have N6 := (K6.up hW4).off5 (c := nb) (x0 := .bool r') (x1 := .int .u64 t0) (x2 := .int .u64 t1) (x3 := .int .u64 t2) (x4 := .int .u64 t3) (by omega)
            have N7 := (K7.up hW4).off5 (c := nb) (x0 := .bool r') (x1 := .int .u64 t0) (x2 := .int .u64 t1) (x3 := .int .u64 t2) (x4 := .int .u64 t3) (by omega)
            have NN := M.set ht
            have B5 := below_set5 (Bj.trans (hW4.mono Bj.size)) nb szk (.bool r') (.int .u64 t0) (.int .u64 t1) (.int .u64 t2) (.int .u64 t3)
            clear q0 q1 q2 q3 q4 z0 z1 z2 z3 z4 cFr cPl
            obtain ⟨a0, a1, a2, a3, lt9, q0, q1, q2, q3, q4, z0, z1, z2, z3, z4, hN⟩ := M
            clear hN hW4 K5 K6 K7 KN c0
            go_wp2
            go_roundg (k - (j + 1))
            case measure => omega
            case rel => exact ⟨j + 1, r', m', by omega, rfl, by simp, B5, N5, N6, N7, NN, HS'⟩
        · obtain rfl : j = k := by omega
          have hj' : ¬ (j : Int) < (j : Int) := by omega
          obtain ⟨hs1, hs2, hs3⟩ := HS.out
          have r0 := sumTo_le z j hz j (by omega)
          have r2 := sumTo_le z j hz cut (by omega)
          obtain ⟨S, eS⟩ : ∃ S, sumTo z j = S := ⟨_, rfl⟩
          obtain ⟨Sc, eSc⟩ : ∃ S, sumTo z cut = S := ⟨_, rfl⟩
          rw [eS] at r0 K6 K7 hs1
          rw [eSc] at r2 K5 K6
          have w0 : InW S := by unfold InW; omega
          have w5 : InW Sc := by unfold InW; omega
          have w6 : InW (S - Sc) := by unfold InW; omega
          obtain ⟨ah, al, ea, a1, a2, a3, a4, Ha⟩ := words w5
          obtain ⟨bh, bl, eb, b1, b2, b3, b4, Hb⟩ := words w6
          obtain ⟨th, tl, et, t1, t2, t3, t4, Ht⟩ := words w0
          obtain ⟨n0, n1, n2, n3, lt9, q0, q1, q2, q3, q4, z0, z1, z2, z3, z4, hN⟩ := KN
          obtain ⟨y, ey⟩ : ∃ y, hold S = y := ⟨_, rfl⟩
          have cAd : ∀ W : World, Calls Tryd.prog 17 #[.agg #[.int .i64 ah, .int .u64 al], .agg #[.int .i64 bh, .int .u64 bl]] W fun e w' => e = .returned (.agg #[.int .i64 th, .int .u64 tl]) ∧ Below W.heap.size W w' := by
            intro W; have := add_in Sc (S - Sc) w5 w6 (by rw [show Sc + (S - Sc) = S by omega]; exact w0) W; rw [show Sc + (S - Sc) = S by omega, ea, eb, et] at this; exact this
          have cFx : ∀ W : World, Calls Tryd.prog 12 #[.agg #[.int .i64 th, .int .u64 tl]] W fun e w' => e = .returned (.int .i64 y) ∧ Below W.heap.size W w' := by
            intro W; have := fix_any S w0 W; rw [ey, et] at this; exact this
          have cHd : ∀ W : World, Calls Tryd.prog 24 #[.agg #[.bool r, .int .u64 n0, .int .u64 n1, .int .u64 n2, .int .u64 n3]] W fun e w' => e = .returned (.int .i64 y) ∧ Below W.heap.size W w' := by
            intro W; have := Rf.held_ref _ r m hN W; rw [hs1, ey] at this; exact this
          have p5 : wr.cell? ⟨w1.heap.size, 0, none⟩ = some (.int .i64 ah) ∧ wr.cell? ⟨w1.heap.size, 1, none⟩ = some (.int .u64 al) := by
            have := Ha.out
            exact ⟨by rw [K5.2.1, show Sc / 18446744073709551616 = ah by omega], by rw [K5.2.2.1, show Sc % 18446744073709551616 = al by omega]⟩
          have p6 : wr.cell? ⟨w1.heap.size + 1, 0, none⟩ = some (.int .i64 bh) ∧ wr.cell? ⟨w1.heap.size + 1, 1, none⟩ = some (.int .u64 bl) := by
            have := Hb.out
            exact ⟨by rw [K6.2.1, show (S - Sc) / 18446744073709551616 = bh by omega], by rw [K6.2.2.1, show (S - Sc) % 18446744073709551616 = bl by omega]⟩
          have p7 : wr.cell? ⟨w1.heap.size + 1 + 1, 0, none⟩ = some (.int .i64 th) ∧ wr.cell? ⟨w1.heap.size + 1 + 1, 1, none⟩ = some (.int .u64 tl) := by
            have := Ht.out
            exact ⟨by rw [K7.2.1, show S / 18446744073709551616 = th by omega], by rw [K7.2.2.1, show S % 18446744073709551616 = tl by omega]⟩
          have l5 := K5.1
          have l6 := K6.1
          have l7 := K7.1
          clear K5 K6 K7 ea eb et Ha Hb Ht hN hs1 hs2 hs3
          go_wp2_with fail
          refine flow 13 85 (by kernel_rfl) rfl rfl (by kernel_rfl) ?_
          apply Exists.intro
          refine ⟨?_, ?_⟩
          · intro F hF
            have hFc := hF.cell
            have hFf := hF.frozen
            simp only [List.take_succ_cons, List.take_zero, List.eraseIdx_cons_succ, List.eraseIdx_cons_zero]
            repeat (go_big_quiet_step (first | (go_at_call 17; with_reducible exact hF.call (cAd _)) | (go_at_call 12; with_reducible exact hF.call (cFx _)) | (go_at_call 24; with_reducible exact hF.call (cHd _))))
            refine wpQuiet_nil ?_
            exact rfl
          · intro W4 hW4
            have B9 := Bj.trans (hW4.mono Bj.size)
            simp only [List.drop_succ_cons, List.drop_zero]
            go_wp2
            go_ret
            exact ⟨rfl, B9⟩
set_option maxHeartbeats 1000000 in
theorem sums_out (n cap : Nat) (p : Option Addr) (cc : Int) (hc : InR cc) (hn : n ≤ 9223372036854775807) (h : 200 < (n : Int) ∨ cc < 0 ∨ (n : Int) < cc) (w : World) (hT : Hid (Tz w)) :
    Calls Tryd.prog 8 #[.slice p n cap, .int .i64 cc] w fun e w' => e = .returned (.bool true) ∧ Below w.heap.size w w' := by
  have s0 : ∀ W : World, Below w.heap.size w W → Calls Tryd.prog 9 #[] W fun e w' => e = .returned (.bool true) ∧ Below W.heap.size W w' := fun W h => awake_any W (hT.out.up h)
  unfold InR at hc
  rcases h with h | h | h
  all_goals
    go_enter Tryd.func8, Tryd.ntmps8
    go_wp2_with fail
    refine (s0 _ (by go_grown)).mono ?_
    rintro e' w1 ⟨rfl, hb1⟩
    go_wp2
    all_goals
      go_ret
      exact ⟨rfl, hb1⟩
theorem sums_any (z : Nat → Int) (n cap : Nat) (p : Option Addr) (cc : Int) (hc : InR cc) (hn : n ≤ 9223372036854775807) (hz : ∀ i, i < n → InR (z i)) (w : World) (hT : Hid (Tz w))
    (hp : 0 < n → ∃ b o, p = some ⟨b, o, none⟩ ∧ b < w.heap.size ∧ ∀ i, i < n → w.cell? ⟨b, o + i, none⟩ = some (.int .i64 (z i))) :
    Calls Tryd.prog 8 #[.slice p n cap, .int .i64 cc] w fun e w' => e = .returned (.bool true) ∧ Below w.heap.size w w' := by
  by_cases h : 200 < (n : Int) ∨ cc < 0 ∨ (n : Int) < cc
  · exact sums_out n cap p cc hc hn h w hT
  · exact sums_in z n cap p cc.toNat cc (by omega) (by omega) (by omega) hz w hT hp
theorem sums_law (w : World) (hT : Hid (Tz w)) (z : Nat → Int) (n cap : Nat) (p : Option Addr) (cc : Int) (hr : Row .i64 w p n cap z) (hc : -9223372036854775808 ≤ cc ∧ cc ≤ 9223372036854775807) :
    Calls Tryd.prog 8 #[.slice p n cap, .int .i64 cc] w fun e w' => e = .returned (.bool true) ∧ Below w.heap.size w w' :=
  sums_any z n cap p cc hc (by have := hr.1; have := hr.2.1; omega) (fun i hi => bounds_i64 (hr.2.2.1 i hi)) w hT hr.2.2.2
end Go.Proofs.YtdbndpcbejofkaaDoor.Wd
