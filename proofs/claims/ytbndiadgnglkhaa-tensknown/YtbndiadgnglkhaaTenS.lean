/- Tensors: what tens.spread hands back. -/
import Derived.Test.YtbndiadgnglkhaaTenW
import Derived.Test.YtbndiadgnglkhaaStay
namespace Go.Proofs.Ytbndiadgnglkhaa.Wd
open Go.RowKit
set_option linter.unusedVariables false
set_option linter.unusedSimpArgs false
theorem itl_set (l : List Nat) (j x : Nat) : itl (l.set j x) = (itl l).set j (x : Int) := by unfold itl; rw [List.map_set]
set_option maxHeartbeats 4000000 in
theorem spread_any (u v : Value) (d big : List Nat) (hd : goodN d) (hb : goodN big) (hl : d.length ≤ big.length) (w : World) (hu : Nums .i64 w u (itl d)) (hv : Nums .i64 w v (itl big)) :
    Calls Try.prog 42 #[u, v] w fun e w' => ∃ v', e = .returned v' ∧ OwnK .i64 3 w' w.heap.size v' (itl (spreadN d big)) ∧ Below w.heap.size w w' := by
  have cs : ∀ W, Below w.heap.size w W → Calls Try.prog 34 #[u] W fun e w' => ∃ v', e = .returned v' ∧ OwnK .i64 3 w' W.heap.size v' (itl (stridesN d)) ∧ Below W.heap.size W w' := fun W hW => by
    have := strides_any u (itl d) (RI_itl hd.le) W (hu.up hW)
    rw [show stridesI (itl d) = itl (stridesN d) by unfold stridesI; rw [ntl_itl, if_pos hd]] at this
    exact this
  have HUV : Hid (Nums .i64 w u (itl d) ∧ Nums .i64 w v (itl big)) := ⟨hu, hv⟩
  obtain ⟨p, n, c, rfl, HA⟩ := hu.lst
  obtain ⟨p2, n2, c2, rfl, HB⟩ := hv.lst
  have hdn : d.length = n := by rw [← itl_len d]; exact HA.out.1
  have hbn : big.length = n2 := by rw [← itl_len big]; exact HB.out.1
  have hn : n ≤ n2 := by omega
  have hn4 : n2 ≤ 4 := by rw [← hbn]; exact hb.1
  have hn' : (n : Int) ≤ (n2 : Int) := by omega
  have hn4' : (n2 : Int) ≤ 4 := by omega
  have HD : Hid (goodN d ∧ goodN big ∧ d.length = n ∧ big.length = n2) := ⟨hd, hb, hdn, hbn⟩
  obtain ⟨L, eL⟩ : ∃ L, itl (spreadN d big) = L := ⟨_, rfl⟩
  have HL : Hid (itl (walkN big (stepK d n2 n)) = L) := by show _ = _; rw [← eL, ← hbn, ← hdn]; rfl
  obtain ⟨ah, eah⟩ : ∃ ah, n2 - n = ah := ⟨_, rfl⟩
  have eah' : (n2 : Int) - (n : Int) = (ah : Int) := by omega
  have hah : ah ≤ 4 := by omega
  rw [eL]
  clear eL hd hb hl hdn hbn hu hv
  go_enter Try.func42, Try.ntmps42
  go_wp2_with (at_make; refine wpList_makeK numT (by decide) _ rfl (.tmp 10) (.tmp 10) rfl .i64 .i64 n2 n2 n2 rfl rfl rfl rfl (by omega) w.heap.size w (Nat.le_refl _) (Below.refl _ _) ?_; intro w1 HO B0 B1; clear B0)
  rw [show List.replicate n2 (0 : Int) = itl (stepK d n2 0) by unfold itl stepK; rw [List.map_replicate]; rfl] at HO
  refine (cs w1 B1).mono ?_
  rintro e w2 ⟨vs, rfl, hs2, hB2⟩
  obtain ⟨p3, n3, c3, rfl, HS0⟩ := hs2.nums.lst
  obtain rfl : n3 = n := by rw [← HS0.out.1, itl_len, stridesN_len, HD.out.2.2.1]
  have HS : Hid (OwnK .i64 3 w2 w1.heap.size (.slice p3 n3 c3) (itl (stridesN d))) := hs2
  have HO2 : Hid (OwnK .i64 3 w2 w.heap.size (.slice (some ⟨w.heap.size, 0, none⟩) n2 n2) (itl (stepK d n2 0))) := HO.out.up hB2
  have HB2 : Hid (Below w.heap.size w w2) := bstep B1 hB2
  have Hg : Hid (w.heap.size < w1.heap.size) := HO.out.size
  clear hs2 hB2 HO B1 cs HS0
  go_wp2_with fail
  go_loopg [20] n3 (fun gg i wr => ∃ (k : Nat), k ≤ n3 ∧ gg = n3 - k ∧ i = .int .i64 (k : Int) ∧ Hid (OwnK .i64 3 wr w.heap.size (.slice (some ⟨w.heap.size, 0, none⟩) n2 n2) (itl (stepK d n2 k))) ∧ Hid (Below w.heap.size w wr) ∧ Hid (Stay w.heap.size w2 wr))
  case atStart => exact ⟨0, by omega, by omega, by first | rfl | simp, HO2, HB2, Stay.refl _ _⟩
  case round =>
    obtain ⟨k, hk, hg, rfl, HR, hB, hS⟩ := hrel
    by_cases hkn : k < n3
    · have hk' : (k : Int) < (n3 : Int) := by omega
      have hs3 := (HS.out.nums.stay hS.out (HS.out.off Hg.out)).lst
      obtain ⟨p4, n4, c4, e4, HS4⟩ := hs3
      cases e4
      obtain ⟨q, o, rfl, hc1⟩ := HS4.out.2 k hkn
      obtain ⟨q2, o2, rfl, hc0⟩ := HA.out.2 k hkn
      have hc2 := cell_low hc0 hB.out
      rw [itl_getD] at hc1 hc2
      obtain ⟨st, es⟩ : ∃ st, (stridesN d).getD k 0 = st := ⟨_, rfl⟩
      obtain ⟨D, eD⟩ : ∃ D, d.getD k 0 = D := ⟨_, rfl⟩
      rw [es] at hc1
      rw [eD] at hc2
      have HE : Hid ((stridesN d).getD k 0 = st ∧ d.getD k 0 = D) := ⟨es, eD⟩
      have hst := strides_le HD.out.1 k
      rw [es] at hst
      have hst' : (st : Int) ≤ 4096 := by omega
      have hD := HD.out.1.at k (by rw [HD.out.2.2.1]; exact hkn)
      rw [eD] at hD
      have hD' : 1 ≤ (D : Int) ∧ (D : Int) ≤ 4096 := by omega
      clear es eD hc0 HS4 hst
      by_cases h1 : 1 < D
      · have h1' : (1 : Int) < (D : Int) := by omega
        obtain ⟨j, ej⟩ : ∃ j, ah + k = j := ⟨_, rfl⟩
        have ej' : (ah : Int) + (k : Int) = (j : Int) := by omega
        have hj : j < n2 := by omega
        have hj' : (j : Int) < (n2 : Int) := by omega
        have Hj : Hid (n2 - d.length + k = j) := by show _ = _; rw [HD.out.2.2.1]; omega
        obtain ⟨hown, hfz⟩ := HR.out.cell (by rw [itl_len, stepK_len]) j hj
        have H2 : Hid (OwnK .i64 3 (wr.setCell ⟨w.heap.size, j, none⟩ (.int .i64 (st : Int))) w.heap.size (.slice (some ⟨w.heap.size, 0, none⟩) n2 n2) (itl (stepK d n2 (k + 1)))) := by
          have := HR.out.store (by rw [itl_len, stepK_len]) j (st : Int)
          rw [← itl_set, ← HE.out.1, ← Hj.out] at this
          show OwnK _ _ _ _ _ _
          rw [stepK, if_pos (by rw [HE.out.2]; exact h1), ← HE.out.1, ← Hj.out]
          exact this
        have HB3 : Hid (Below w.heap.size w (wr.setCell ⟨w.heap.size, j, none⟩ (.int .i64 (st : Int)))) := hB.out.setCell (p := ⟨w.heap.size, j, none⟩) (Nat.le_refl _) _
        have HS3 : Hid (Stay w.heap.size w2 (wr.setCell ⟨w.heap.size, j, none⟩ (.int .i64 (st : Int)))) := hS.out.set _ _
        clear ej
        go_wp2
        go_roundg (n3 - (k + 1))
        case measure => omega
        case rel => exact ⟨k + 1, by omega, rfl, by first | rfl | simp, H2, HB3, HS3⟩
      · have h1' : (D : Int) ≤ 1 := by omega
        have H2 : Hid (OwnK .i64 3 wr w.heap.size (.slice (some ⟨w.heap.size, 0, none⟩) n2 n2) (itl (stepK d n2 (k + 1)))) := by
          show OwnK _ _ _ _ _ _
          rw [stepK, if_neg (by rw [HE.out.2]; exact h1)]
          exact HR.out
        go_wp2
        go_roundg (n3 - (k + 1))
        case measure => omega
        case rel => exact ⟨k + 1, by omega, rfl, by first | rfl | simp, H2, hB, hS⟩
    · obtain rfl : k = n3 := by omega
      have cw := walk_any _ _ big (stepK d n2 k) HD.out.2.1 (by rw [stepK_len, HD.out.2.2.2]) (stepK_le HD.out.1 n2 k) wr (HUV.out.2.up hB.out) HR.out.nums
      rw [HL.out] at cw
      go_wp2_with fail
      refine cw.mono ?_
      rintro e w5 ⟨v5, rfl, h5, hB5⟩
      have HF : Hid (OwnK .i64 3 w5 w.heap.size v5 L ∧ Below w.heap.size w w5) := ⟨h5.low hB.out.size, bstep hB.out hB5⟩
      clear h5 hB5 cw
      go_wp2
      go_ret
      exact ⟨_, rfl, HF.out⟩
end Go.Proofs.Ytbndiadgnglkhaa.Wd
