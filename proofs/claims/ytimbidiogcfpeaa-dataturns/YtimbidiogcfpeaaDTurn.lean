/- DataTurns: batches one behind the other go through all examples. -/
import Derived.Test.YtimbidiogcfpeaaDaW
namespace Go.Proofs.Ytimbidiogcfpeaa.Wd
open Go.RowKit Fx
set_option linter.unusedVariables false
set_option linter.unusedSimpArgs false
set_option maxRecDepth 8000
set_option maxHeartbeats 8000000
theorem getD_appL (x y : List Int) (i : Nat) (h : i < x.length) : (x ++ y).getD i 0 = x.getD i 0 := by
  rw [List.getD_eq_getElem?_getD, List.getD_eq_getElem?_getD, List.getElem?_append_left h]
theorem getD_appR (x y : List Int) (i : Nat) (h : x.length ≤ i) : (x ++ y).getD i 0 = y.getD (i - x.length) 0 := by
  rw [List.getD_eq_getElem?_getD, List.getD_eq_getElem?_getD, List.getElem?_append_right h]
theorem turns_at {t s k : Int} (h : batE t s k = 0) (h2 : batE t s (k + 1) = 0) (i : Nat) (hi : i < s.toNat + s.toNat) : (batV t s k ++ batV t s (k + 1)).getD i 0 = (baS t s k + (i : Int)) % t := by
  have h5 := batE_ok.1 h
  have hl := batV_len h
  by_cases c : i < s.toNat
  · rw [getD_appL _ _ _ (by omega), batV_at h i c]
  · rw [getD_appR _ _ _ (by omega), batV_at h2 _ (by omega), baS_next h5.1, Int.emod_add_emod, hl]
    congr 1
    omega
theorem turns_next {a t : Int} {i : Nat} (ha : 0 ≤ a) (ht : 1 ≤ t) : Int.tmod ((a + (i : Int)) % t + 1) t = (a + ((i + 1 : Nat) : Int)) % t ∧ 0 ≤ (a + (i : Int)) % t ∧ (a + (i : Int)) % t < t := by
  obtain ⟨h1, h2⟩ := (mod_nat (a := a + (i : Int)) (t := t) (by omega) ht).2
  refine ⟨?_, h1, h2⟩
  rw [(mod_nat (by omega) ht).1, Int.emod_add_emod]
  congr 1
  omega
/-- An empty literal is a row of one's own. -/
theorem own_mt (W : World) : OwnK .i64 3 (W.alloc (.cells #[] 3)) W.heap.size (.slice (some ⟨W.heap.size, 0, none⟩) 0 0) [] :=
  ⟨by simp [vals], .inr ⟨W.heap.size, 0, #[], rfl, Nat.le_refl _, by show (W.heap.push _)[W.heap.size]? = _; simp, Nat.le_refl _, by unfold maxLen; omega, by simp [vals], by simp [vals]⟩⟩
theorem dturns_walk (w : World) (t s k : Int) (ht : -9223372036854775808 ≤ t ∧ t ≤ 9223372036854775807) (hs : -9223372036854775808 ≤ s ∧ s ≤ 9223372036854775807) (hk : -9223372036854775808 ≤ k ∧ k ≤ 9223372036854775807) :
    Calls Try.prog 6 #[.int .i64 t, .int .i64 s, .int .i64 k] w fun e w' => e = .returned (.bool true) ∧ Below w.heap.size w w' := by
  haveI : Nonempty World := ⟨w⟩
  go_enter Try.func6, Try.ntmps6
  go_wp2_with fail
  refine (awake16_any w).mono ?_
  rintro e w1 ⟨rfl, hB⟩
  have H1 : Hid (Below w.heap.size w w1) := hB
  clear hB
  by_cases c1 : t < 1
  · go_wp2
    go_ret
    exact ⟨rfl, H1.out⟩
  have d1 : 1 ≤ t := by omega
  by_cases c2 : 256 < t
  · go_wp2
    go_ret
    exact ⟨rfl, H1.out⟩
  have d2 : t ≤ 256 := by omega
  by_cases c3 : s < 1
  · go_wp2
    go_ret
    exact ⟨rfl, H1.out⟩
  have d3 : 1 ≤ s := by omega
  by_cases c4 : t < s
  · go_wp2
    go_ret
    exact ⟨rfl, H1.out⟩
  have d4 : s ≤ t := by omega
  by_cases c5 : k < 0
  · go_wp2
    go_ret
    exact ⟨rfl, H1.out⟩
  have d5 : 0 ≤ k := by omega
  by_cases c6 : 1125899906842624 < k
  · go_wp2
    go_ret
    exact ⟨rfl, H1.out⟩
  have d6 : k ≤ 1125899906842624 := by omega
  clear c1 c2 c3 c4 c5 c6
  obtain ⟨n, rfl⟩ : ∃ n : Nat, s = n := ⟨s.toNat, by omega⟩
  have hE : batE t n k = 0 := batE_ok.2 (by omega)
  have hE1 : batE t n (k + 1) = 0 := batE_ok.2 (by omega)
  have hE2 : batE t n (k + t) = 0 := batE_ok.2 (by omega)
  obtain ⟨A, eA⟩ : ∃ A, batV t n k = A := ⟨_, rfl⟩
  obtain ⟨B, eB⟩ : ∃ A, batV t n (k + 1) = A := ⟨_, rfl⟩
  have eC : batV t n (k + t) = A := by
    rw [← eA]
    unfold batV
    rw [if_pos hE, if_pos hE2, baS_round d1]
  obtain ⟨a, ea⟩ : ∃ a, baS t n k = a := ⟨_, rfl⟩
  have ha := baS_rng (s := n) (k := k) d1
  rw [ea] at ha
  have HV : Hid (A.length = n ∧ B.length = n ∧ n ≤ 256 ∧ 0 ≤ a ∧ ∀ i, i < n + n → (A ++ B).getD i 0 = (a + (i : Int)) % t) := by
    refine ⟨by rw [← eA, batV_len hE]; omega, by rw [← eB, batV_len hE1]; omega, by omega, ha.1, fun i hi => ?_⟩
    rw [← eA, ← eB, turns_at hE hE1 i (by omega), ea]
  have cA := dbatch_any t n k ht hs hk w1
  rw [hE, eA] at cA
  have cB : Hid (∀ W, Calls Try.prog 10 #[.int .i64 t, .int .i64 n, .int .i64 (k + 1)] W fun e w' => ∃ v, e = .returned (.tuple #[v, .int .i64 0]) ∧ OwnK .i64 3 w' W.heap.size v B ∧ Below W.heap.size W w') := fun W => by
    have cc := dbatch_any t n (k + 1) ht hs (by omega) W
    rw [hE1, eB] at cc
    exact cc
  have cC : Hid (∀ W, Calls Try.prog 10 #[.int .i64 t, .int .i64 n, .int .i64 (k + t)] W fun e w' => ∃ v, e = .returned (.tuple #[v, .int .i64 0]) ∧ OwnK .i64 3 w' W.heap.size v A ∧ Below W.heap.size W w') := fun W => by
    have cc := dbatch_any t n (k + t) ht hs (by omega) W
    rw [hE2, eC] at cc
    exact cc
  clear hE hE1 hE2 eA eB eC ea ha
  go_wp2_with fail
  refine cA.mono ?_
  rintro e w2 ⟨v, rfl, hv, hB⟩
  replace hv := hv.nums
  obtain ⟨pa, na, ca, rfl, LA⟩ := hv.lst
  obtain rfl : na = n := by rw [← dnums_len hv]; exact HV.out.1
  have H2 : Hid (Below w.heap.size w w2 ∧ Nums .i64 w2 (.slice pa na ca) A) := ⟨bstep H1.out hB, hv⟩
  clear hv hB cA H1 LA
  go_wp2_with fail
  refine (cB.out w2).mono ?_
  rintro e w3 ⟨v, rfl, hv, hB⟩
  replace hv := hv.nums
  obtain ⟨pb, nb, cb, rfl, _⟩ := hv.lst
  obtain rfl : nb = na := by rw [← dnums_len hv]; exact HV.out.2.1
  have H3 : Hid (Below w.heap.size w w3 ∧ Nums .i64 w3 (.slice pa nb ca) A ∧ Nums .i64 w3 (.slice pb nb cb) B) := ⟨bstep H2.out.1 hB, H2.out.2.up hB, hv⟩
  clear hv hB cB H2
  go_wp2_with fail
  refine (cC.out w3).mono ?_
  rintro e w4 ⟨v, rfl, hv, hB⟩
  replace hv := hv.nums
  obtain ⟨pc, nc, cc_, rfl, _⟩ := hv.lst
  obtain rfl : nc = nb := by rw [← dnums_len hv]; exact HV.out.1
  have H4 : Hid (Below w.heap.size w w4 ∧ Nums .i64 w4 (.slice pa nc ca) A ∧ Nums .i64 w4 (.slice pb nc cb) B ∧ Nums .i64 w4 (.slice pc nc cc_) A) := ⟨bstep H3.out.1 hB, H3.out.2.1.up hB, H3.out.2.2.up hB, hv⟩
  clear hv hB cC H3
  go_wp2_with fail
  have cc := dsame_any (.slice pa nc ca) (.slice pc nc cc_) A A (by have := HV.out.1; have := HV.out.2.2.1; omega) w4 H4.out.2.1 H4.out.2.2.2
  rw [decide_eq_true rfl] at cc
  refine cc.mono ?_
  rintro e w5 ⟨rfl, hB⟩
  have H5 : Hid (Below w.heap.size w w5 ∧ Nums .i64 w5 (.slice pa nc ca) A ∧ Nums .i64 w5 (.slice pb nc cb) B) := ⟨bstep H4.out.1 hB, H4.out.2.1.up hB, H4.out.2.2.1.up hB⟩
  clear hB cc H4
  obtain ⟨K, eK⟩ : ∃ K, w5.alloc (.cells #[] 3) = K := ⟨_, rfl⟩
  have hBK : Below w5.heap.size w5 K := by rw [← eK]; exact up_alloc w5 _
  have H6 : Hid (OwnK .i64 3 K w5.heap.size (.slice (some ⟨w5.heap.size, 0, none⟩) 0 0) [] ∧ Nums .i64 K (.slice pa nc ca) A ∧ Below w5.heap.size w5 K ∧ Below w.heap.size w w5) := ⟨by rw [← eK]; exact own_mt w5, H5.out.2.1.up hBK, hBK, H5.out.1⟩
  have HL1 : Hid (([] : List Int).length + A.length ≤ 1073741824 ∧ ([] ++ A).length + B.length ≤ 1073741824) := by
    have h1 := HV.out.1
    have h2 := HV.out.2.1
    have h3 := HV.out.2.2.1
    refine ⟨by simp only [List.length_nil]; omega, by simp only [List.nil_append]; omega⟩
  have HS5 : Hid (Nums .i64 w5 (.slice pb nc cb) B) := H5.out.2.2
  clear hBK H5
  go_wp2_with (first
    | (at_builtin; refine wpList_appendK numT (by decide) rfl (.tmp 86) (.tmp 87) rfl w5.heap.size _ _ rfl H6.out.1 _ A rfl H6.out.2.1 HL1.out.1 H6.out.2.2.1.size w5 H6.out.2.2.1 ?_; intro v6 w6 H7 B6; have HB6 := hid2 B6 B6; clear B6)
    | (at_builtin; refine wpList_appendK numT (by decide) rfl (.tmp 88) (.tmp 89) rfl w5.heap.size _ _ rfl H7.out _ B rfl (HS5.out.up HB6.out.1) HL1.out.2 HB6.out.1.size w5 HB6.out.1 ?_; intro v7 w7 H8 B7; have HB7 := hid2 B7 B7; clear B7))
  have hv7 := H8.out.nums
  rw [List.nil_append] at hv7
  obtain ⟨p7, n7, c7, rfl, L7⟩ := hv7.lst
  obtain rfl : n7 = nc + nc := by rw [← dnums_len hv7, List.length_append, HV.out.1, HV.out.2.1]
  have HB8 : Hid (Below w.heap.size w w7) := bstep H6.out.2.2.2 HB7.out.1
  have hn9 : (nc : Int) ≤ 256 := by have := HV.out.2.2.1; omega
  have hn8 : 1 ≤ nc := by omega
  have hd : (t == 0) = false := by simpa using (show t ≠ 0 by omega)
  have HT : Hid (1 ≤ t ∧ t ≤ 256) := ⟨d1, d2⟩
  clear hv7 H8 HB7 H7 HB6 HS5 H6 HL1 eK d1 d2 d3 d4 d5 d6
  go_wp2_with fail
  go_loopg [14] (nc + nc) (fun gg kv wr => ∃ (j : Nat), j + 1 ≤ nc + nc ∧ gg = nc + nc - j ∧ kv = .int .i64 ((j + 1 : Nat) : Int) ∧ Hid (Below w7.heap.size w7 wr))
  case atStart => exact ⟨0, by omega, by omega, by first | rfl | simp, Below.refl _ _⟩
  case round =>
    obtain ⟨j, hj, hgg, rfl, HB⟩ := hrel
    obtain ⟨R2, eR2⟩ : ∃ R2 : World, R2 = wr := ⟨_, rfl⟩
    subst eR2
    obtain ⟨i, ei⟩ : ∃ i, j + 1 = i := ⟨_, rfl⟩
    have ei' : (i : Int) - 1 = (j : Int) := by omega
    rw [ei] at hj
    (try rw [ei])
    by_cases hin : i < nc + nc
    · have hi' : (i : Int) < (nc : Int) + (nc : Int) := by omega
      have hi2 : (i : Int) < ((nc + nc : Nat) : Int) := by omega
      obtain ⟨X, eX⟩ : ∃ x, (A ++ B).getD i 0 = x := ⟨_, rfl⟩
      obtain ⟨Y, eY⟩ : ∃ x, (A ++ B).getD j 0 = x := ⟨_, rfl⟩
      have hm := turns_next (a := a) (t := t) (i := j) HV.out.2.2.2.1 HT.out.1
      rw [← HV.out.2.2.2.2 j (by omega), ei, ← HV.out.2.2.2.2 i hin, eX, eY] at hm
      obtain ⟨hm, hy1, hy2⟩ := hm
      obtain ⟨g1, o1, rfl, r1⟩ := L7.out.2 i hin
      obtain ⟨g2, o2, e2, r2⟩ := L7.out.2 j (by omega)
      cases e2
      replace r1 := cell_low r1 HB.out
      replace r2 := cell_low r2 HB.out
      rw [eX] at r1
      rw [eY] at r2
      have x1 := cell_lt r1
      have x2 := cell_lt r2
      have ht9 := HT.out.2
      clear eX eY
      go_wp2_with fail
      refine flow 13 110 (by kernel_rfl) rfl rfl (by kernel_rfl) ?_
      apply Exists.intro
      refine ⟨?_, ?_⟩
      · intro F hF
        have hFc := hF.cell
        have hFf := hF.frozen
        simp only [List.take_succ_cons, List.take_zero, List.eraseIdx_cons_succ, List.eraseIdx_cons_zero]
        repeat (go_big_quiet_step (fail))
        refine wpQuiet_nil ?_
        exact rfl
      · intro W1 hb1
        simp only [List.drop_succ_cons, List.drop_zero]
        have H9 : Hid (Below w7.heap.size w7 W1) := bstep HB.out hb1
        clear r1 r2 hb1
        go_wp2
        go_roundg (nc + nc - i)
        case measure => omega
        case rel => exact ⟨i, by omega, rfl, by first | rfl | simp, H9⟩
    · obtain rfl : i = nc + nc := by omega
      go_wp2
      go_ret
      exact ⟨by simp, bstep HB8.out HB.out⟩
end Go.Proofs.Ytimbidiogcfpeaa.Wd
