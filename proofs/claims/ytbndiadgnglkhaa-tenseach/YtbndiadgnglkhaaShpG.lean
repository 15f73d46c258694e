/- What the reference's From hands back. -/
import Derived.Test.YtbndiadgnglkhaaShpE
import Derived.Test.YtbndiadgnglkhaaShpF
namespace Go.Proofs.Ytbndiadgnglkhaa.Wd
open Go.RowKit
set_option linter.unusedVariables false
set_option linter.unusedSimpArgs false
theorem decide_iff {a b : Prop} [Decidable a] [Decidable b] (h : a ↔ b) : decide a = decide b := decide_eq_decide.2 h
set_option maxHeartbeats 2000000 in
theorem rfrom_any (u v : Value) (d big : List Int) (hd : RI d) (hb : RI big) (a : Int) (w : World) (hu : Nums .i64 w u d) (hv : Nums .i64 w v big) :
    Calls Try.prog 48 #[u, v, .int .i64 a] w fun e w' => e = .returned (.tuple #[.int .i64 (fromI d big a), .bool (fromB d big a)]) ∧ Below w.heap.size w w' := by
  have cj := rjoin_any u v d big hd hb w hu hv
  have HU : Hid (Nums .i64 w u d) := hu
  have HV : Hid (Nums .i64 w v big) := hv
  have HR : Hid (RI d ∧ RI big) := ⟨hd, hb⟩
  have hE := joinE_rng d big
  obtain ⟨E, eE⟩ : ∃ E, joinE d big = E := ⟨_, rfl⟩
  have HE : Hid (joinE d big = E) := eE
  rw [eE] at cj hE
  obtain ⟨RF, eF⟩ : ∃ RF, fromI d big a = RF := ⟨_, rfl⟩
  obtain ⟨RB, eB⟩ : ∃ RB, fromB d big a = RB := ⟨_, rfl⟩
  have HT : Hid (fromI d big a = RF ∧ fromB d big a = RB) := ⟨eF, eB⟩
  rw [eF, eB]
  obtain ⟨p2, m, c2, rfl, HB⟩ := hv.lst
  obtain ⟨p, n, c, rfl, HA⟩ := hu.lst
  clear hu hv hd hb eE eF eB
  go_enter Try.func48, Try.ntmps48
  go_wp2_with fail
  refine cj.mono ?_
  rintro e w1 ⟨v1, rfl, hown, hB1⟩
  have HO : Hid (OwnK .i64 3 w1 w.heap.size v1 (joinL d big) ∧ Below w.heap.size w w1) := ⟨hown, hB1⟩
  clear hown hB1 cj
  by_cases hE0 : E = 0
  · subst hE0
    have cs := rsame_any v1 (.slice p2 m c2) (joinL d big) big (by have := joinL_len d big; omega) w1 HO.out.1.nums (HV.out.up HO.out.2)
    go_wp2_with fail
    refine cs.mono ?_
    rintro e w2 ⟨rfl, nn, hw2⟩
    have hB2 : Below w.heap.size w w2 := by rw [hw2]; exact below_drew HO.out.2 nn
    have HB2 : Hid (Below w.heap.size w w2) := hB2
    clear cs hw2 hB2
    by_cases hsame : joinL d big = big
    · rw [decide_eq_true hsame]
      have cp := rplace_any (.slice p2 m c2) big HR.out.2 a w2 (HV.out.up HB2.out)
      by_cases hin : 0 ≤ a ∧ a < ((sizeN (ntl big) : Nat) : Int)
      · rw [decide_eq_true hin] at cp
        have eP : placeI big a = itl (placeN (ntl big) a.toNat) := if_pos hin
        rw [eP] at cp
        obtain ⟨x, y, a', rfl, rfl, haa, hx, hy, hf, hj, ha, hyes, hval⟩ := from_yes (d := d) (big := big) (a := a) ⟨HE.out, hsame, hin⟩
        have hxn : x.length = n := by rw [← itl_len x]; exact HA.out.1
        have hym : y.length = m := by rw [← itl_len y]; exact HB.out.1
        have hnm : n ≤ m := by rw [← hxn, ← hym]; exact join_le hj
        have hn : n ≤ 4 := by rw [← hxn]; exact hx.1
        have hm : m ≤ 4 := by rw [← hym]; exact hy.1
        have HX : Hid (goodN x ∧ goodN y ∧ x.length = n ∧ y.length = m) := ⟨hx, hy, hxn, hym⟩
        obtain ⟨Q, eQ⟩ : ∃ Q, qN x y a' = Q := ⟨_, rfl⟩
        obtain ⟨PL, ePL⟩ : ∃ PL, itl (placeN y a') = PL := ⟨_, rfl⟩
        have HQ : Hid (Inside x Q ∧ ∀ i, i < n → ((Q.getD i 0 : Nat) : Int) = if ((x.getD i 0 : Nat) : Int) = 1 then 0 else PL.getD (m - n + i) 0) := by
          refine ⟨by rw [← eQ]; exact qN_inside hx hy hf hj a' ha, fun i hi => ?_⟩
          rw [← eQ, ← ePL, qN_pick (join_le hj) a' i (by omega), hxn, hym]
        have HRR : Hid (gK x Q n = RF ∧ RB = true) := by
          refine ⟨?_, ?_⟩
          · rw [← HT.out.1, hval, ← eQ]
            unfold gK
            rw [← hxn, hornK_from x y a' (join_le hj)]
          · rw [← HT.out.2, hyes]
        rw [ntl_itl, haa, Int.toNat_natCast, ePL, ← haa] at cp
        have HPL : Hid (PL.length = m) := by show _ = _; rw [← ePL, itl_len, placeN_len]; exact hym
        clear hsame eP haa eQ ePL hx hy hf hj ha hxn hym hyes hval HE HO HB HT hin
        go_wp2_with fail
        refine cp.mono ?_
        rintro e w3 ⟨v3, rfl, ho3, hB3⟩
        clear cp
        obtain ⟨p3, m3, c3, rfl, HP⟩ := ho3.nums.lst
        have hm3 : PL.length = m3 := HP.out.1
        have hB4 : Below w.heap.size w w3 := HB2.out.trans (hB3.mono HB2.out.size)
        have HB4 : Hid (Below w.heap.size w w3) := hB4
        have hnmI : (m : Int) - (n : Int) = ((m - n : Nat) : Int) := by omega
        clear ho3 hB3 hB4
        obtain rfl : m3 = m := by rw [← hm3]; exact HPL.out
        clear hm3
        go_wp2_with fail
        go_loopg [12, 13] n (fun gg f b wr => ∃ (k : Nat) (F : Int), k ≤ n ∧ gg = n - k ∧ f = .int .i64 F ∧ b = .int .i64 (k : Int) ∧ Hid (F = gK x Q k) ∧ wr = w3)
        case atStart => exact ⟨0, 0, by omega, by omega, rfl, by first | rfl | simp, rfl, rfl⟩
        case round =>
          obtain ⟨k, F, hk, hg, rfl, rfl, HK, rfl⟩ := hrel
          by_cases hkn : k < n
          · have hkn' : (k : Int) < (n : Int) := by omega
            obtain ⟨q, o, rfl, ca⟩ := (HA.out.up HB4.out).2 k hkn
            obtain ⟨q3, o3, rfl, cb⟩ := HP.out.2 (m3 - n + k) (by omega)
            rw [itl_getD] at ca
            have e1 := HQ.out.2 k hkn
            have e2 := gK_succ x Q k
            have r0 := HX.out.1.at k (by rw [HX.out.2.2.1]; exact hkn)
            have r1 := gK_rng HX.out.1 HQ.out.1 k (by rw [HX.out.2.2.1]; omega)
            have r2 := gK_rng HX.out.1 HQ.out.1 (k + 1) (by rw [HX.out.2.2.1]; omega)
            rw [← HK.out] at e2 r1
            obtain ⟨X, eX⟩ : ∃ X : Int, ((x.getD k 0 : Nat) : Int) = X := ⟨_, rfl⟩
            obtain ⟨Y, eY⟩ : ∃ Y : Int, PL.getD (m3 - n + k) 0 = Y := ⟨_, rfl⟩
            have hX : 1 ≤ X ∧ X ≤ 4096 := by omega
            rw [eX] at ca e1 e2
            rw [eY] at cb e1
            rw [e1] at e2
            have hidx : ((m3 - n : Nat) : Int) + (k : Int) = ((m3 - n + k : Nat) : Int) := by omega
            obtain ⟨jj, ejj⟩ : ∃ jj, m3 - n + k = jj := ⟨_, rfl⟩
            rw [ejj] at hidx cb
            have hjj : (jj : Int) < (m3 : Int) := by omega
            have hq0 : (0 : Int) ≤ ((Q.getD k 0 : Nat) : Int) := by omega
            rw [e1] at hq0
            have h3 := mul_small F X r1.1 (by omega) (by omega) (by omega)
            obtain ⟨t3, et3⟩ : ∃ t, F * X = t := ⟨_, rfl⟩
            rw [et3] at h3 e2
            by_cases hX1 : X = 1
            · subst hX1
              rw [if_pos rfl] at e2
              have HN : Hid (t3 + 0 = gK x Q (k + 1)) := e2.symm
              rw [e2] at r2
              have HN' : Hid (t3 = gK x Q (k + 1)) := by show _ = _; rw [e2, Int.add_zero]
              clear eX eY e1 e2 ejj
              go_wp2
              go_roundg (n - (k + 1))
              case measure => omega
              case rel => exact ⟨k + 1, t3, by omega, rfl, by first | rfl | simp [et3], by first | rfl | simp, HN', rfl⟩
            · rw [if_neg hX1] at e2 hq0
              have hX1' : (X == 1) = false := by simp [hX1]
              obtain ⟨t4, et4⟩ : ∃ t, t3 + Y = t := ⟨_, rfl⟩
              rw [et4] at e2
              rw [e2] at r2
              have HN : Hid (t4 = gK x Q (k + 1)) := e2.symm
              clear eX eY e1 e2 ejj
              go_wp2
              go_roundg (n - (k + 1))
              case measure => omega
              case rel => exact ⟨k + 1, t4, by omega, rfl, by first | rfl | simp [et3, et4], by first | rfl | simp, HN, rfl⟩
          · obtain rfl : k = n := by omega
            go_wp2
            go_ret2
            exact ⟨ret_two (HK.out.trans HRR.out.1) HRR.out.2.symm, HB4.out⟩
      · rw [decide_eq_false hin] at cp
        have HN : Hid (RB = false ∧ RF = 0) := by have := from_no (d := d) (big := big) (a := a) (fun h => hin h.2.2); rw [HT.out.1, HT.out.2] at this; exact this
        clear hsame hin
        go_wp2_with fail
        refine cp.mono ?_
        rintro e w3 ⟨v3, rfl, ho3, hB3⟩
        have hB4 : Below w.heap.size w w3 := HB2.out.trans (hB3.mono HB2.out.size)
        have HB4 : Hid (Below w.heap.size w w3) := hB4
        clear ho3 hB3 hB4 cp
        go_wp2
        go_ret2
        exact ⟨ret_two HN.out.2.symm HN.out.1.symm, HB4.out⟩
    · rw [decide_eq_false hsame]
      have HN : Hid (RB = false ∧ RF = 0) := by have := from_no (d := d) (big := big) (a := a) (fun h => hsame h.2.1); rw [HT.out.1, HT.out.2] at this; exact this
      clear hsame
      go_wp2
      go_ret2
      exact ⟨ret_two HN.out.2.symm HN.out.1.symm, HB2.out⟩
  · have HN : Hid (RB = false ∧ RF = 0) := by have := from_no (d := d) (big := big) (a := a) (fun h => hE0 (by rw [← HE.out]; exact h.1)); rw [HT.out.1, HT.out.2] at this; exact this
    have hE1 : (E != 0) = true := by simp [hE0]
    go_wp2
    go_ret2
    exact ⟨ret_two HN.out.2.symm HN.out.1.symm, HO.out.2⟩
theorem from_at {x y : List Nat} (hx : goodN x) (hy : goodN y) (hf : fitsN x y) (hj : joinN x y = y) (k : Nat) (hk : k < prodN y) : fromI (itl x) (itl y) (k : Int) = ((fromN x y k : Nat) : Int) ∧ fromB (itl x) (itl y) (k : Int) = true := by
  have hgj : goodN (joinN x y) := by rw [hj]; exact hy
  obtain ⟨h1, h2⟩ := join_fine hx hy hf hgj
  have hb : fromB (itl x) (itl y) (k : Int) = true := by
    unfold fromB
    refine decide_eq_true ⟨h2, by rw [h1, hj], by omega, ?_⟩
    rw [ntl_itl, sizeN_good hy]
    omega
  refine ⟨?_, hb⟩
  unfold fromI
  rw [if_pos hb, ntl_itl, ntl_itl, Int.toNat_natCast]
end Go.Proofs.Ytbndiadgnglkhaa.Wd
