/- DataShares: the members' shards are the batch. -/
import Derived.Test.YtimbidiogcfpeaaDaW
namespace Go.Proofs.Ytimbidiogcfpeaa.Wd
open Go.RowKit Fx
set_option linter.unusedVariables false
set_option linter.unusedSimpArgs false
set_option maxRecDepth 8000
set_option maxHeartbeats 8000000
theorem dshares_walk (w : World) (z : Nat → Int) (n c : Nat) (p : Option Addr) (y : Nat → Int) (l d : Nat) (q : Option Addr) (h1 : RowN .i64 w p n c z) (h2 : RowN .i64 w q l d y) :
    Calls Try.prog 5 #[.slice p n c, .slice q l d] w fun e w' => e = .returned (.bool true) ∧ Below w.heap.size w w' := by
  haveI : Nonempty World := ⟨w⟩
  obtain ⟨b, lb, db⟩ : ∃ P : List Int, P.length = n ∧ Nums .i64 w (.slice p n c) P := ⟨nlst n z, nlst_len n z, h1.nums⟩
  obtain ⟨m, lm, dm⟩ : ∃ M : List Int, M.length = l ∧ Nums .i64 w (.slice q l d) M := ⟨nlst l y, nlst_len l y, h2.nums⟩
  have HN : Hid (Nums .i64 w (.slice p n c) b ∧ Nums .i64 w (.slice q l d) m ∧ b.length = n ∧ m.length = l) := ⟨db, dm, lb, lm⟩
  obtain ⟨_, _, _, e1, HA⟩ := db.lst
  cases e1
  obtain ⟨_, _, _, e2, HM⟩ := dm.lst
  cases e2
  clear h1 h2 db dm lb lm
  go_enter Try.func5, Try.ntmps5
  go_wp2_with fail
  refine (awake16_any w).mono ?_
  rintro e w1 ⟨rfl, hB⟩
  have H1 : Hid (Below w.heap.size w w1) := hB
  clear hB
  by_cases t1 : 200 < n
  · have t1' : (200 : Int) < (n : Int) := by omega
    go_wp2
    go_ret
    exact ⟨rfl, H1.out⟩
  have t1' : (n : Int) ≤ 200 := by omega
  by_cases t2 : 20 < l
  · have t2' : (20 : Int) < (l : Int) := by omega
    go_wp2
    go_ret
    exact ⟨rfl, H1.out⟩
  have t2' : (l : Int) ≤ 20 := by omega
  have cc := dgood_any q l d m (by omega) w1 (HN.out.2.1.up H1.out)
  obtain ⟨r, er⟩ : ∃ r : Bool, decide (goodM m) = r := ⟨_, rfl⟩
  have HRes : Hid (decide (goodM m) = r) := er
  rw [er] at cc
  clear er
  go_wp2_with fail
  refine cc.mono ?_
  rintro e w2 ⟨rfl, hB⟩
  have H2 : Hid (Below w.heap.size w w2) := bstep H1.out hB
  clear hB cc H1
  cases r with
  | false =>
    go_wp2
    go_ret
    exact ⟨rfl, H2.out⟩
  | true =>
    have hg : goodM m := of_decide_eq_true HRes.out
    have HG : Hid (goodM m) := hg
    clear hg
    have hl1 : 1 ≤ l := by have := HG.out.1; rw [HN.out.2.2.2] at this; omega
    have HL : Hid (1 ≤ l ∧ l ≤ 20 ∧ n ≤ 200) := ⟨hl1, by omega, by omega⟩
    obtain ⟨a, ea⟩ : ∃ a, n / l = a := ⟨_, rfl⟩
    obtain ⟨s, es⟩ : ∃ s, n % l = s := ⟨_, rfl⟩
    have HD : Hid (l * a + s = n ∧ s < l ∧ ∀ i, i < l → shC n l i = a + if i < s then 1 else 0) := by
      refine ⟨by rw [← ea, ← es]; exact Nat.div_add_mod n l, by rw [← es]; exact Nat.mod_lt _ hl1, fun i hi => ?_⟩
      rw [shC_is (by omega) hi, ea, es]
    have ed : Int.tdiv (n : Int) (l : Int) = (a : Int) := by rw [← ea]; rfl
    have hd : ((l : Int) == 0) = false := by simpa using (show (l : Int) ≠ 0 by omega)
    have ha : (a : Int) ≤ 200 := by have := Nat.div_le_self n l; omega
    clear ea es t1 t2 HRes
    go_wp2_with fail
    go_loopg [5, 6, 7, 8, 9] l (fun gg v i s2 e2 k2 wr => ∃ (j x : Nat), j ≤ l ∧ gg = l - j ∧ v = .int .i64 (x : Int) ∧ i = .int .i64 (j : Int) ∧ Hid (x = j * a + min j s) ∧ Hid (Below w.heap.size w wr))
    case atStart => exact ⟨0, 0, by omega, by omega, by first | rfl | simp, by first | rfl | simp, (by show _ = _; omega), H2.out⟩
    case round =>
      obtain ⟨j, x, hj, hgg, rfl, rfl, HX, HB⟩ := hrel
      obtain ⟨R1, eR1⟩ : ∃ R1 : World, R1 = wr := ⟨_, rfl⟩
      subst eR1
      by_cases hjn : j < l
      · have hj' : (j : Int) < (l : Int) := by omega
        obtain ⟨Y, eY⟩ : ∃ x, m.getD j 0 = x := ⟨_, rfl⟩
        obtain ⟨g, o, rfl, c1⟩ := HM.out.2 j hjn
        replace c1 := cell_low c1 HB.out
        rw [eY] at c1
        have k1 := cell_lt c1
        obtain ⟨T, eT⟩ : ∃ T, shC n l j = T := ⟨_, rfl⟩
        have cc := dshard_any p (some ⟨g, o, none⟩) n c l d b m Y (by omega) (by omega) R1 (HN.out.1.up HB.out) (HN.out.2.1.up HB.out)
        have q1 := (shE_at HG.out (by rw [HN.out.2.2.2]; exact hjn)).2
        have q2 := shV_at (b := b) HG.out (p := j) (by rw [HN.out.2.2.2]; exact hjn)
        rw [eY] at q1 q2
        rw [HN.out.2.2.2, HN.out.2.2.1, eT] at q2
        rw [q1, q2] at cc
        have hT : T = a + if j < s then 1 else 0 := by rw [← eT]; exact HD.out.2.2 j hjn
        have HT : Hid ((∀ k, k < T ↔ j + k * l < n) ∧ T = a + if j < s then 1 else 0) := ⟨fun k => by rw [← eT]; exact shC_lt (by omega), hT⟩
        have hT1 : (a : Int) ≤ (T : Int) ∧ (T : Int) ≤ (a : Int) + 1 := by
          rw [hT]
          split <;> omega
        obtain ⟨hT1, hT2⟩ := hT1
        clear q1 q2 hT eT eY
        go_wp2_with fail
        refine cc.mono ?_
        rintro e w3 ⟨v3, rfl, hv, hB⟩
        replace hv := hv.nums
        obtain ⟨p3, n3, c3, rfl, H3⟩ := hv.lst
        obtain rfl : n3 = T := by rw [← dnums_len hv, shT_len]
        have HW3 : Hid (Below w.heap.size w w3) := bstep HB.out hB
        clear cc hB hv c1 k1 HB
        go_wp2_with fail
        go_loopg [9] n3 (fun gg kv wr => ∃ (k : Nat), k ≤ n3 ∧ gg = n3 - k ∧ kv = .int .i64 (k : Int) ∧ Hid (Below w3.heap.size w3 wr))
        case atStart => exact ⟨0, by omega, by omega, by first | rfl | simp, Below.refl _ _⟩
        case round =>
          obtain ⟨k, hk, hgg2, rfl, HB⟩ := hrel
          obtain ⟨R2, eR2⟩ : ∃ R2 : World, R2 = wr := ⟨_, rfl⟩
          subst eR2
          by_cases hkn : k < n3
          · have hk' : (k : Int) < (n3 : Int) := by omega
            have htn : j + k * l < n := (HT.out.1 k).1 hkn
            obtain ⟨pk, epk⟩ : ∃ x : Nat, k * l = x := ⟨_, rfl⟩
            rw [epk] at htn
            have ek : (k : Int) * (l : Int) = (pk : Int) := by rw [← epk]; exact (Int.natCast_mul k l).symm
            obtain ⟨t, et⟩ : ∃ t : Nat, j + pk = t := ⟨_, rfl⟩
            rw [et] at htn
            have et' : (j : Int) + (pk : Int) = (t : Int) := by omega
            have ht' : (t : Int) < (n : Int) := by omega
            have hd9 : decide ((n : Int) ≤ (t : Int)) = false := decide_eq_false (by omega)
            have hd8 : decide (n ≤ t) = false := decide_eq_false (by omega)
            obtain ⟨X, eX⟩ : ∃ x, b.getD t 0 = x := ⟨_, rfl⟩
            have eX2 : (dshT b l j n3).getD k 0 = X := by rw [shT_at _ _ _ _ _ hkn, epk, et, eX]
            obtain ⟨g1, o1, rfl, r1⟩ := H3.out.2 k hkn
            obtain ⟨g2, o2, rfl, r2⟩ := HA.out.2 t htn
            replace r1 := cell_low r1 HB.out
            replace r2 := cell_low r2 (bstep HW3.out HB.out)
            rw [eX2] at r1
            rw [eX] at r2
            have x1 := cell_lt r1
            have x2 := cell_lt r2
            clear eX eX2 epk et
            go_wp2_with fail
            refine flow 25 103 (by kernel_rfl) rfl rfl (by kernel_rfl) ?_
            apply Exists.intro
            refine ⟨?_, ?_⟩
            · intro F hF
              have hFc := hF.cell
              have hFf := hF.frozen
              simp only [List.take_succ_cons, List.take_zero, List.eraseIdx_cons_succ, List.eraseIdx_cons_zero]
              repeat (go_big_quiet_step (fail))
              refine wpQuiet_nil ?_
              exact rfl
            · intro W1 hb1
              simp only [List.drop_succ_cons, List.drop_zero]
              have H9 : Hid (Below w3.heap.size w3 W1) := bstep HB.out hb1
              clear r1 r2 hb1
              go_wp2
              go_roundg (n3 - (k + 1))
              case measure => omega
              case rel => exact ⟨k + 1, by omega, rfl, by first | rfl | simp, H9⟩
          · obtain rfl : k = n3 := by omega
            have HX2 : Hid (x + k = (j + 1) * a + min (j + 1) s) := by
              show _ = _
              have h3 := HX.out
              have h4 := HT.out.2
              rw [Nat.add_mul, Nat.one_mul, h3, h4]
              split <;> omega
            have hx9 : (x : Int) + (k : Int) ≤ 1000000 := by
              have h3 := HX2.out
              have h4 := HD.out.1
              have h5 : (j + 1) * a ≤ l * a := Nat.mul_le_mul_right _ (by omega)
              have h6 : min (j + 1) s ≤ s := Nat.min_le_right _ _
              have := HL.out
              omega
            have ex9 : ((x + k : Nat) : Int) = (x : Int) + (k : Int) := by omega
            go_wp2
            go_roundg (l - (j + 1))
            case measure => omega
            case rel => exact ⟨j + 1, x + k, by omega, rfl, by first | rfl | simp, by first | rfl | simp, HX2, bstep HW3.out HB.out⟩
      · obtain rfl : j = l := by omega
        have hx : x = n := by
          have h3 := HX.out
          have h4 := HD.out.1
          have h5 := HD.out.2.1
          rw [Nat.min_eq_right (by omega)] at h3
          omega
        subst hx
        go_wp2
        go_ret
        exact ⟨by simp, HB.out⟩
end Go.Proofs.Ytimbidiogcfpeaa.Wd
