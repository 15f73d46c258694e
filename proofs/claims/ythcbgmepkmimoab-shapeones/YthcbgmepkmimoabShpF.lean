/- What package shape's From hands back. -/
import Derived.Test.YthcbgmepkmimoabShpD
import Derived.Test.YthcbgmepkmimoabShpK
namespace Go.Proofs.Ythcbgmepkmimoab.Wd
open Go.RowKit
set_option linter.unusedVariables false
set_option linter.unusedSimpArgs false
theorem RI_joinL (a b : List Int) : RI (joinL a b) := fun y hy => by have := joinL_rng a b y hy; omega
theorem below_drew {w w1 : World} {B : Nat} (h : Below B w w1) (n : Nat) : Below B w (w1.drewN n) := h.trans ⟨rfl, rfl, rfl, Nat.le_refl _, fun _ _ => rfl⟩
theorem ret_two {a b : Int} {c d : Bool} (h1 : a = b) (h2 : c = d) : Ending.returned (.tuple #[.int .i64 a, .bool c]) = .returned (.tuple #[.int .i64 b, .bool d]) := by rw [h1, h2]
set_option maxHeartbeats 2000000 in
theorem from_any (u v : Value) (d big : List Int) (hd : RI d) (hb : RI big) (a : Int) (w : World) (hu : Nums .i64 w u d) (hv : Nums .i64 w v big) :
    Calls Try.prog 8 #[u, v, .int .i64 a] w fun e w' => e = .returned (.tuple #[.int .i64 (fromI d big a), .bool (fromB d big a)]) ∧ Below w.heap.size w w' := by
  have cj := join_any u v d big hd hb w hu hv
  have HU : Hid (Nums .i64 w u d) := hu
  have HV : Hid (Nums .i64 w v big) := hv
  have HR : Hid (RI d ∧ RI big) := ⟨hd, hb⟩
  have hE := joinE_rng d big
  obtain ⟨E, eE⟩ : ∃ E, joinE d big = E := ⟨_, rfl⟩
  have HE : Hid (joinE d big = E) := eE
  rw [eE] at cj hE
  obtain ⟨RF, eF⟩ : ∃ RF, fromI d big a = RF := ⟨_, rfl⟩
  obtain ⟨RB, eB⟩ : ∃ RB, fromB d big a = RB := ⟨_, rfl⟩
  have HT : Hid (fromI d big a = RF ∧ fromB d big a = RB) := ⟨eF, eB⟩
  rw [eF, eB]
  obtain ⟨p2, m, c2, rfl, HB⟩ := hv.lst
  obtain ⟨p, n, c, rfl, HA⟩ := hu.lst
  clear hu hv hd hb eE eF eB
  go_enter Try.func8, Try.ntmps8
  go_wp2_with fail
  refine cj.mono ?_
  rintro e w1 ⟨v1, rfl, hown, hB1⟩
  have HO : Hid (OwnK .i64 3 w1 w.heap.size v1 (joinL d big) ∧ Below w.heap.size w w1) := ⟨hown, hB1⟩
  clear hown hB1 cj
  by_cases hE0 : E = 0
  · subst hE0
    have cs := same_any v1 (.slice p2 m c2) (joinL d big) big (by have := joinL_len d big; omega) w1 HO.out.1.nums (HV.out.up HO.out.2)
    go_wp2_with fail
    refine cs.mono ?_
    rintro e w2 ⟨rfl, nn, hw2⟩
    have hB2 : Below w.heap.size w w2 := by rw [hw2]; exact below_drew HO.out.2 nn
    have HB2 : Hid (Below w.heap.size w w2) := hB2
    clear cs hw2 hB2
    by_cases hsame : joinL d big = big
    · rw [decide_eq_true hsame]
      by_cases ha0 : a < 0
      · have HN : Hid (RB = false ∧ RF = 0) := by have := from_no (d := d) (big := big) (a := a) (fun h => by omega); rw [HT.out.1, HT.out.2] at this; exact this
        clear hsame
        go_wp2
        go_ret2
        exact ⟨ret_two HN.out.2.symm HN.out.1.symm, HB2.out⟩
      have cz := size_any (.slice p2 m c2) big HR.out.2 w2 (HV.out.up HB2.out)
      obtain ⟨z, ez⟩ : ∃ z : Int, ((sizeN (ntl big) : Nat) : Int) = z := ⟨_, rfl⟩
      rw [ez] at cz
      by_cases haz : z ≤ a
      · have HN : Hid (RB = false ∧ RF = 0) := by have := from_no (d := d) (big := big) (a := a) (fun h => by rw [ez] at h; omega); rw [HT.out.1, HT.out.2] at this; exact this
        clear hsame ez
        go_wp2_with fail
        refine cz.mono ?_
        rintro e w3 ⟨rfl, rfl⟩
        go_wp2
        go_ret2
        exact ⟨ret_two HN.out.2.symm HN.out.1.symm, HB2.out⟩
      have haz' : a < z := by omega
      obtain ⟨x, y, a', rfl, rfl, haa, hx, hy, hf, hj, ha, hyes, hval⟩ := from_yes (d := d) (big := big) (a := a) ⟨HE.out, hsame, by omega, by rw [ez]; exact haz'⟩
      have hxn : x.length = n := by rw [← itl_len x]; exact HA.out.1
      have hym : y.length = m := by rw [← itl_len y]; exact HB.out.1
      have hnm : n ≤ m := by rw [← hxn, ← hym]; exact join_le hj
      have hn : n ≤ 4 := by rw [← hxn]; exact hx.1
      have hn' : (n : Int) ≤ 4 := by omega
      have HX : Hid (goodN x ∧ goodN y ∧ fitsN x y ∧ joinN x y = y ∧ a' < prodN y ∧ x.length = n ∧ y.length = m) := ⟨hx, hy, hf, hj, ha, hxn, hym⟩
      obtain ⟨Q, eQ⟩ : ∃ Q, qN x y a' = Q := ⟨_, rfl⟩
      have HQ : Hid (qN x y a' = Q ∧ Q.length = x.length) := ⟨eQ, by rw [← eQ]; exact qN_len x y a' (join_le hj)⟩
      have ha4 : Hid (a' < 4096) := by have := hy.2.2; show _ < _; omega
      have HRR : Hid (fK x Q n = RF ∧ RB = true) := by
        refine ⟨?_, ?_⟩
        · rw [← HT.out.1, hval, ← eQ, ← fK_full, hxn]
        · rw [← HT.out.2, hyes]
      have HAA : Hid (a = aK y a' 0) := by show _ = _; rw [aK_zero, haa]
      have hA : 0 ≤ a := by omega
      clear hsame ez haa eQ hx hy hf hj ha hxn hym hyes hval HE HO HA HB HT
      go_wp2_with fail
      refine cz.mono ?_
      rintro e w3 ⟨rfl, rfl⟩
      clear cz
      go_wp2_with fail
      go_loopg [2, 10, 11, 12] n (fun gg t f s b wr => ∃ (k : Nat) (T F S : Int), k ≤ n ∧ gg = n - k ∧ t = .int .i64 T ∧ f = .int .i64 F ∧ s = .int .i64 S ∧ b = .int .i64 ((k : Int) + 1) ∧ Hid (T = aK y a' k ∧ F = fK x Q k ∧ S = sK x k) ∧ 0 ≤ F ∧ F ≤ (k : Int) * 16777216 ∧ wr = w3)
      case atStart => exact ⟨0, a, 0, 1, by omega, by omega, rfl, rfl, rfl, by first | rfl | simp, ⟨HAA.out, (fK_zero x Q).symm, (sK_zero x).symm⟩, by omega, by omega, rfl⟩
      case round =>
        obtain ⟨k, T, F, S, hk, hg, rfl, rfl, rfl, rfl, HK, hF0, hF1, rfl⟩ := hrel
        by_cases hkn : k < n
        · have hkn' : (k : Int) + 1 ≤ (n : Int) := by omega
          have c1 := last_any _ x HX.out.1 (k + 1) ⟨by omega, by omega⟩ wr (HU.out.up HB2.out)
          have c2 := last_any _ y HX.out.2.1 (k + 1) ⟨by omega, by omega⟩ wr (HV.out.up HB2.out)
          rw [show ((k + 1 : Nat) : Int) = (k : Int) + 1 by omega] at c1 c2
          obtain ⟨j, hj⟩ : ∃ j, j + k + 1 = n := ⟨n - 1 - k, by omega⟩
          have hjx : j + k + 1 = x.length := by rw [HX.out.2.2.2.2.2.1]; exact hj
          have hjy : (m - 1 - k) + k + 1 = y.length := by rw [HX.out.2.2.2.2.2.2]; omega
          have s1 := side_rng HX.out.1 (k + 1)
          have s2 := side_rng HX.out.2.1 (k + 1)
          have hq := qN_mod HX.out.1.2.1 HX.out.2.1 HX.out.2.2.1 HX.out.2.2.2.1 a' j k HX.out.2.2.2.2.1 hjx
          rw [HQ.out.1] at hq
          have e1 := aK_succ y a' (m - 1 - k) k hjy
          rw [getD_side y (m - 1 - k) k hjy] at e1
          have e2 := sK_succ x j k hjx
          rw [getD_side x j k hjx] at e2
          have e3 := fK_succ x Q HQ.out.2 j k hjx
          rw [hq] at e3
          have r1 := aK_rng y a' k ha4.out
          have r2 := sK_rng HX.out.1 k
          have r3 := sK_rng HX.out.1 (k + 1)
          have r4 := aK_rng y a' (k + 1) ha4.out
          rw [← HK.out.1] at e1 e3 r1
          rw [← HK.out.2.2] at e2 e3 r2
          rw [← HK.out.2.1] at e3
          obtain ⟨X, eX⟩ : ∃ X : Int, ((sideN x (k + 1) : Nat) : Int) = X := ⟨_, rfl⟩
          obtain ⟨Y, eY⟩ : ∃ Y : Int, ((sideN y (k + 1) : Nat) : Int) = Y := ⟨_, rfl⟩
          have hX : 1 ≤ X ∧ X ≤ 4096 := by omega
          have hY : 1 ≤ Y ∧ Y ≤ 4096 := by omega
          rw [eX] at c1 e2 e3
          rw [eY] at c2 e1 e3
          obtain ⟨t1, et1⟩ : ∃ t, T % Y = t := ⟨_, rfl⟩
          obtain ⟨t2, et2⟩ : ∃ t, t1 % X = t := ⟨_, rfl⟩
          obtain ⟨t3, et3⟩ : ∃ t, t2 * S = t := ⟨_, rfl⟩
          obtain ⟨t4, et4⟩ : ∃ t, S * X = t := ⟨_, rfl⟩
          obtain ⟨t5, et5⟩ : ∃ t, T / Y = t := ⟨_, rfl⟩
          have h1 := mod_rng T Y hY.1
          have h2 := mod_rng t1 X hX.1
          rw [et1] at h1 e3
          rw [et2] at h2 e3
          rw [et3] at e3
          rw [et4] at e2
          rw [et5] at e1
          have h3 := mul_small t2 S h2.1 (by omega) (by omega) (by omega)
          rw [et3] at h3
          rw [e2] at r3
          rw [e1] at r4
          have d1 : Int.tmod T Y = t1 := by rw [Int.tmod_eq_emod_of_nonneg r1.1]; exact et1
          have d2 : Int.tmod t1 X = t2 := by rw [Int.tmod_eq_emod_of_nonneg h1.1]; exact et2
          have d3 : Int.tdiv T Y = t5 := by rw [Int.tdiv_eq_ediv_of_nonneg r1.1]; exact et5
          have HN : Hid (t5 = aK y a' (k + 1) ∧ F + t3 = fK x Q (k + 1) ∧ t4 = sK x (k + 1)) := ⟨e1.symm, e3.symm, e2.symm⟩
          have hF2 : F + t3 ≤ ((k + 1 : Nat) : Int) * 16777216 := by omega
          have hF3 : F + t3 ≤ 67108864 := by omega
          obtain ⟨t6, et6⟩ : ∃ t, F + t3 = t := ⟨_, rfl⟩
          rw [et6] at HN hF2 hF3
          have hF4 : 0 ≤ t6 := by omega
          clear eX eY e1 e2 e3 hq hj hjx hjy s1 s2
          go_wp2_with fail
          refine c1.mono ?_
          rintro e w5 ⟨rfl, rfl⟩
          go_wp2_with fail
          refine c2.mono ?_
          rintro e w5 ⟨rfl, rfl⟩
          go_wp2
          go_roundg (n - (k + 1))
          case measure => omega
          case rel => exact ⟨k + 1, t5, t6, t4, by omega, rfl, by first | rfl | simp [et5], by first | rfl | simp [et6], by first | rfl | simp [et4], by first | rfl | simp, HN, hF4, hF2, rfl⟩
        · obtain rfl : k = n := by omega
          go_wp2
          go_ret2
          exact ⟨ret_two (HK.out.2.1.trans HRR.out.1) HRR.out.2.symm, HB2.out⟩
    · rw [decide_eq_false hsame]
      have HN : Hid (RB = false ∧ RF = 0) := by have := from_no (d := d) (big := big) (a := a) (fun h => hsame h.2.1); rw [HT.out.1, HT.out.2] at this; exact this
      clear hsame
      go_wp2
      go_ret2
      exact ⟨ret_two HN.out.2.symm HN.out.1.symm, HB2.out⟩
  · have HN : Hid (RB = false ∧ RF = 0) := by have := from_no (d := d) (big := big) (a := a) (fun h => hE0 (by rw [← HE.out]; exact h.1)); rw [HT.out.1, HT.out.2] at this; exact this
    have hE1 : (E != 0) = true := by simp [hE0]
    go_wp2
    go_ret2
    exact ⟨ret_two HN.out.2.symm HN.out.1.symm, HO.out.2⟩
end Go.Proofs.Ythcbgmepkmimoab.Wd
