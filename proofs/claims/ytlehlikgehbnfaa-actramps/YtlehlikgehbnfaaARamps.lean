/- ActRamps: a ramp's gradient comes back whole above nought, and not at all below: each number by itself. -/
import Derived.Test.YtlehlikgehbnfaaActL
namespace Go.Proofs.Ytlehlikgehbnfaa.Wd
open Go.RowKit Fx
set_option linter.unusedVariables false
set_option linter.unusedSimpArgs false
theorem isP_one {x : List Int} {n : Nat} (h : x.length = n) (h1 : 1 ≤ n) (h2 : n ≤ 4096) : isP [(n : Int)] x := by
  have e : prodN [n] = n := by simp [prodN]
  have en : ntl [(n : Int)] = [n] := ntl_itl [n]
  unfold isP
  rw [en, e]
  exact ⟨⟨by simp, fun y hy => by simp at hy; omega, by rw [e]; exact h2⟩, h⟩
theorem ramp_back {x y : List Int} {n : Nat} (hx : x.length = n) (hy : y.length = n) (h1 : 1 ≤ n) (h2 : n ≤ 4096) (ry : RI y) :
    unbE 1 [(n : Int)] x [(n : Int)] y = 0 ∧ unbD 1 [(n : Int)] x [(n : Int)] y = [(n : Int)] ∧ (unbV 1 [(n : Int)] x [(n : Int)] y).length = n
    ∧ ∀ i, i < n → (0 < x.getD i 0 → (unbV 1 [(n : Int)] x [(n : Int)] y).getD i 0 = y.getD i 0) ∧ (x.getD i 0 ≤ 0 → (unbV 1 [(n : Int)] x [(n : Int)] y).getD i 0 = 0) := by
  obtain ⟨e1, e2, e3⟩ := unb_yes (k := 1) (d := [(n : Int)]) (x := x) (d' := [(n : Int)]) (y := y) ⟨⟨by omega, by omega⟩, isP_one hx h1 h2, isP_one hy h1 h2⟩ rfl
  rw [e1, e2, e3]
  refine ⟨rfl, rfl, by rw [List.length_map, List.length_range]; exact hx, fun i hi => ⟨fun h => ?_, fun h => ?_⟩⟩
  · rw [getD_map_range _ _ _ _ (by rw [hx]; exact hi), slope_1, if_pos h]
    exact mul_one_ (ry.at i (by rw [hy]; exact hi))
  · rw [getD_map_range _ _ _ _ (by rw [hx]; exact hi), slope_1, if_neg (by omega)]
    exact mul_by0 _
set_option maxRecDepth 8000 in
set_option maxHeartbeats 8000000 in
theorem aramps_walk (w : World) (za : Nat → Int) (n c : Nat) (p : Option Addr) (zb : Nat → Int) (n2 c2 : Nat) (p2 : Option Addr) (r1 : RowN .i64 w p n c za) (r2 : RowN .i64 w p2 n2 c2 zb) :
    Calls Try.prog 8 #[.slice p n c, .slice p2 n2 c2] w fun e w' => e = .returned (.bool true) ∧ Below w.heap.size w w' := by
  have HA : Hid (Nums .i64 w (.slice p n c) (nlst n za) ∧ Nums .i64 w (.slice p2 n2 c2) (nlst n2 zb)) := ⟨r1.nums, r2.nums⟩
  have HI : Hid (RI (nlst n za) ∧ RI (nlst n2 zb) ∧ (nlst n za).length = n ∧ (nlst n2 zb).length = n2) := ⟨r1.riI, r2.riI, nlst_len _ _, nlst_len _ _⟩
  have hf1 : (n : Int) ≤ 9223372036854775807 := by have := r1.few; unfold Few at this; rw [nlst_len] at this; omega
  have hf2 : (n2 : Int) ≤ 9223372036854775807 := by have := r2.few; unfold Few at this; rw [nlst_len] at this; omega
  obtain ⟨x, ex⟩ : ∃ x, nlst n za = x := ⟨_, rfl⟩
  obtain ⟨y, ey⟩ : ∃ y, nlst n2 zb = y := ⟨_, rfl⟩
  rw [ex, ey] at HA HI
  clear ex ey r1 r2
  haveI : Nonempty World := ⟨w⟩
  go_enter Try.func8, Try.ntmps8
  go_wp2_with fail
  refine (awake9_any w).mono ?_
  rintro e wa ⟨rfl, hBa⟩
  have HB_wa : Hid (Below w.heap.size w wa) := hBa
  clear hBa
  by_cases hn1 : n < 1
  · obtain rfl : n = 0 := by omega
    go_wp2
    go_ret
    exact ⟨rfl, HB_wa.out⟩
  have hd1 : decide ((n : Int) < 1) = false := decide_eq_false (by omega)
  by_cases hn2 : 100 < n
  · have hd2 : decide ((100 : Int) < (n : Int)) = true := decide_eq_true (by omega)
    have hd2n : decide (100 < n) = true := decide_eq_true (by omega)
    go_wp2
    go_ret
    exact ⟨rfl, HB_wa.out⟩
  have hd2 : decide ((100 : Int) < (n : Int)) = false := decide_eq_false (by omega)
  have hd2n : decide (100 < n) = false := decide_eq_false (by omega)
  by_cases hn3 : n2 = n
  case neg =>
    have hd3 : ((n2 : Int) != (n : Int)) = true := by simp; omega
    have hd3n : (n2 != n) = true := by simp; omega
    go_wp2
    go_ret
    exact ⟨rfl, HB_wa.out⟩
  obtain rfl := hn3
  have hb : 1 ≤ (n2 : Int) ∧ (n2 : Int) ≤ 100 := by omega
  obtain ⟨b1, b2, b3, b4⟩ := ramp_back HI.out.2.2.1 HI.out.2.2.2 (by omega) (by omega) HI.out.2.1
  obtain ⟨V, eV⟩ : ∃ V, unbV 1 [(n2 : Int)] x [(n2 : Int)] y = V := ⟨_, rfl⟩
  rw [eV] at b3 b4
  have HV : Hid (V.length = n2 ∧ ∀ i, i < n2 → (0 < x.getD i 0 → V.getD i 0 = y.getD i 0) ∧ (x.getD i 0 ≤ 0 → V.getD i 0 = 0)) := ⟨b3, b4⟩
  have HR : Hid (RI [(n2 : Int)]) := fun q hq => by simp at hq; omega
  have cb : Hid (∀ q1 q2 W, Below w.heap.size w W → Nums .i64 W (.slice q1 1 1) [(n2 : Int)] → Nums .i64 W (.slice q2 1 1) [(n2 : Int)] → Calls Try.prog 12 #[.int .i64 1, .agg #[.slice q1 1 1, .slice p n2 c], .agg #[.slice q2 1 1, .slice p2 n2 c2]] W fun e w' => ∃ v', e = .returned (.tuple #[v', .int .i64 0]) ∧ TRes w' W.heap.size v' [(n2 : Int)] V ∧ Below W.heap.size W w') := fun q1 q2 W hW h1 h3 => by
    have := aback_any 1 q1 p q2 p2 1 1 n2 c 1 1 n2 c2 [(n2 : Int)] x [(n2 : Int)] y HR.out HI.out.1 HR.out HI.out.2.1 W h1 (HA.out.1.up hW) h3 (HA.out.2.up hW)
    rw [b1, b2, eV] at this
    exact this
  clear b1 b2 b3 b4 eV
  go_wp2_with fail
  generalize hW1 : World.alloc _ _ = W1
  have hL1 : Below wa.heap.size wa W1 := by rw [← hW1]; exact bstep (up_alloc wa _) (up_alloc _ _)
  have l1 : Nums .i64 W1 (.slice (some ⟨wa.heap.size, 0, none⟩) 1 1) [(n2 : Int)] := by
    refine .inr ⟨_, 1, rfl, fun j u hj => ?_⟩
    match j, hj with
    | 0, hj =>
      simp [vals] at hj
      subst hj
      rw [addr_plus, ← hW1]
      simp [go_sem]
    | j + 1, hj => simp [vals] at hj
  have l2 : Nums .i64 W1 (.slice (some ⟨wa.heap.size + 1, 0, none⟩) 1 1) [(n2 : Int)] := by
    refine .inr ⟨_, 1, rfl, fun j u hj => ?_⟩
    match j, hj with
    | 0, hj =>
      simp [vals] at hj
      subst hj
      rw [addr_plus, ← hW1]
      simp [go_sem]
    | j + 1, hj => simp [vals] at hj
  have HB_W1 : Hid (Below w.heap.size w W1) := bstep HB_wa.out hL1
  clear hW1 hL1
  refine (cb.out _ _ W1 HB_W1.out l1 l2).mono ?_
  rintro e w5 ⟨v5, rfl, ⟨s5, t5, rfl, hs5, ht5⟩, hB5⟩
  obtain ⟨ps5, ns5, cs5, rfl, _⟩ := hs5.nums.lst
  have htn := ht5.nums
  obtain ⟨pt5, nt5, ct5, rfl, HTl⟩ := htn.lst
  obtain rfl : nt5 = n2 := by rw [← HTl.out.1, HV.out.1]
  have HB_w5 : Hid (Below w.heap.size w w5) := bstep HB_W1.out hB5
  clear hB5 hs5 ht5 l1 l2 cb HB_wa
  go_wp2_with fail
  generalize hW6 : World.alloc _ _ = W6
  have hL6 : Below w5.heap.size w5 W6 := by rw [← hW6]; exact up_alloc w5 _
  have X5 : Hid (Cel W6 w5.heap.size (.slice ps5 ns5 cs5) (.slice pt5 nt5 ct5)) := by show Cel _ _ _ _; unfold Cel; rw [← hW6]; simp [go_sem]
  have HB_W6 : Hid (Below w.heap.size w W6) := bstep HB_w5.out hL6
  have HTV : Hid (Nums .i64 W6 (.slice pt5 nt5 ct5) V) := htn.up hL6
  obtain ⟨b5, hb5⟩ : ∃ b5, w5.heap.size = b5 := ⟨_, rfl⟩
  rw [hb5] at X5 ⊢
  clear hW6 hL6 htn HTl hb5 HB_w5 HB_W1
  go_loopg [7] nt5 (fun gg i wr => ∃ (I : Nat), I ≤ nt5 ∧ gg = nt5 - I ∧ i = .int .i64 (I : Int) ∧ Hid (Below W6.heap.size W6 wr))
  case atStart => exact ⟨0, by omega, by omega, by first | rfl | simp, Below.refl _ _⟩
  case round =>
    obtain ⟨I, hI, hgI, rfl, hBI⟩ := hrel
    obtain ⟨R1, hR1⟩ : ∃ R1 : World, R1 = wr := ⟨_, rfl⟩
    subst hR1
    by_cases hIn : I < nt5
    · have hI' : (I : Int) < (nt5 : Int) := by omega
      have hIn' : decide (I < nt5) = true := decide_eq_true hIn
      obtain ⟨k1, k2⟩ := HV.out.2 I hIn
      obtain ⟨_, _, _, e4, HXl⟩ := HA.out.1.lst
      cases e4
      obtain ⟨_, _, _, e4, HYl⟩ := HA.out.2.lst
      cases e4
      obtain ⟨_, _, _, e4, HVl⟩ := HTV.out.lst
      cases e4
      obtain ⟨qx, ox, ex2, hcx⟩ := HXl.out.2 I hIn
      obtain ⟨qy, oy, ey2, hcy⟩ := HYl.out.2 I hIn
      obtain ⟨qv, ov, ev2, hcv⟩ := HVl.out.2 I hIn
      subst ex2 ey2 ev2
      have hBw : Below w.heap.size w R1 := bstep HB_W6.out hBI.out
      have hcx1 := cell_low hcx hBw
      have hcy1 := cell_low hcy hBw
      have hcv1 := cell_low hcv hBI.out
      have ltx := cell_lt hcx1
      have lty := cell_lt hcy1
      have ltv := cell_lt hcv1
      obtain ⟨x50, x51, _, _⟩ := X5.out.up hBI.out
      have x5z := cell_lt x50
      obtain ⟨X, eX⟩ : ∃ X, x.getD I 0 = X := ⟨_, rfl⟩
      obtain ⟨Y, eY⟩ : ∃ Y, y.getD I 0 = Y := ⟨_, rfl⟩
      rw [eX] at hcx1 k1 k2
      rw [eY] at hcy1 k1
      by_cases hX : 0 < X
      · rw [k1 hX] at hcv1
        have g1 : decide (0 < X) = true := decide_eq_true hX
        have g2 : decide (X ≤ 0) = false := decide_eq_false (by omega)
        have g3 : (Y != Y) = false := by simp
        clear k1 k2 eX eY hcx hcy hcv HXl HYl HVl hBw hX
        go_wp2_with fail
        go_quiet (fail)
        generalize hw8 : World.drewN R1 nq = w8
        have hB8 : Hid (Below W6.heap.size W6 w8) := by show Below _ _ _; rw [← hw8]; exact bstep hBI.out (bdrew _ _)
        clear hw8 x50 x51 x5z hcx1 hcy1 hcv1 ltx lty ltv g1 g2 g3
        go_wp2
        go_roundg (nt5 - (I + 1))
        case measure => omega
        case rel => exact ⟨I + 1, by omega, rfl, by first | rfl | simp, hB8⟩
      · rw [k2 (by omega)] at hcv1
        have g1 : decide (0 < X) = false := decide_eq_false hX
        have g2 : decide (X ≤ 0) = true := decide_eq_true (by omega)
        clear k1 k2 eX eY hcx hcy hcv HXl HYl HVl hBw hX
        go_wp2_with fail
        go_quiet (fail)
        generalize hw8 : World.drewN R1 nq = w8
        have hB8 : Hid (Below W6.heap.size W6 w8) := by show Below _ _ _; rw [← hw8]; exact bstep hBI.out (bdrew _ _)
        clear hw8 x50 x51 x5z hcx1 hcy1 hcv1 ltx lty ltv g1 g2
        go_wp2
        go_roundg (nt5 - (I + 1))
        case measure => omega
        case rel => exact ⟨I + 1, by omega, rfl, by first | rfl | simp, hB8⟩
    · obtain rfl : nt5 = I := by omega
      go_wp2
      go_ret
      exact ⟨rfl, bstep HB_W6.out hBI.out⟩
end Go.Proofs.Ytlehlikgehbnfaa.Wd
