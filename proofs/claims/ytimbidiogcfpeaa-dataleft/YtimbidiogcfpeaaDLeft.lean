/- DataLeft: with one member fewer the others' shards are still the batch. -/
import Derived.Test.YtimbidiogcfpeaaDaW
import Derived.Test.YtimbidiogcfpeaaDaL
import Derived.Test.YtimbidiogcfpeaaCut
import Derived.Test.YtimbidiogcfpeaaApp
namespace Go.Proofs.Ytimbidiogcfpeaa.Wd
open Go.RowKit Fx
set_option linter.unusedVariables false
set_option linter.unusedSimpArgs false
set_option maxRecDepth 8000
set_option maxHeartbeats 8000000
theorem dleft_walk (w : World) (z : Nat → Int) (n c : Nat) (p : Option Addr) (y : Nat → Int) (l d : Nat) (q : Option Addr) (gone : Int) (h1 : RowN .i64 w p n c z) (h2 : RowN .i64 w q l d y) (hg_ : -9223372036854775808 ≤ gone ∧ gone ≤ 9223372036854775807) :
    Calls Try.prog 8 #[.slice p n c, .slice q l d, .int .i64 gone] w fun e w' => e = .returned (.bool true) ∧ Below w.heap.size w w' := by
  haveI : Nonempty World := ⟨w⟩
  have hld : l ≤ d := h2.1.1
  obtain ⟨b, lb, db⟩ : ∃ P : List Int, P.length = n ∧ Nums .i64 w (.slice p n c) P := ⟨nlst n z, nlst_len n z, h1.nums⟩
  obtain ⟨m, lm, dm⟩ : ∃ M : List Int, M.length = l ∧ Nums .i64 w (.slice q l d) M := ⟨nlst l y, nlst_len l y, h2.nums⟩
  have HN : Hid (Nums .i64 w (.slice p n c) b ∧ Nums .i64 w (.slice q l d) m ∧ b.length = n ∧ m.length = l) := ⟨db, dm, lb, lm⟩
  obtain ⟨_, _, _, e2, HM⟩ := dm.lst
  cases e2
  clear h1 h2 db dm lb lm
  go_enter Try.func8, Try.ntmps8
  go_wp2_with fail
  refine (awake16_any w).mono ?_
  rintro e w1 ⟨rfl, hB⟩
  have H1 : Hid (Below w.heap.size w w1) := hB
  clear hB
  by_cases t1 : (100 : Int) < (n : Int)
  · go_wp2
    go_ret
    exact ⟨rfl, H1.out⟩
  have t1' : (n : Int) ≤ 100 := by omega
  by_cases t2 : (l : Int) < 2
  · go_wp2
    go_ret
    exact ⟨rfl, H1.out⟩
  have t2' : 2 ≤ (l : Int) := by omega
  by_cases t3 : (16 : Int) < (l : Int)
  · go_wp2
    go_ret
    exact ⟨rfl, H1.out⟩
  have t3' : (l : Int) ≤ 16 := by omega
  have cc := dgood_any q l d m (by omega) w1 (HN.out.2.1.up H1.out)
  obtain ⟨r, er⟩ : ∃ r : Bool, decide (goodM m) = r := ⟨_, rfl⟩
  have HRes : Hid (decide (goodM m) = r) := er
  rw [er] at cc
  clear er t1 t2 t3
  go_wp2_with fail
  refine cc.mono ?_
  rintro e w2 ⟨rfl, hB⟩
  have H2 : Hid (Below w.heap.size w w2) := bstep H1.out hB
  clear hB cc H1
  cases r with
  | false =>
    go_wp2
    go_ret
    exact ⟨rfl, H2.out⟩
  | true =>
    have hg : goodM m := of_decide_eq_true HRes.out
    have HG : Hid (goodM m) := hg
    clear hg HRes
    by_cases t4 : gone < 0
    · go_wp2
      go_ret
      exact ⟨rfl, H2.out⟩
    have t4' : 0 ≤ gone := by omega
    obtain ⟨g, rfl⟩ : ∃ g : Nat, gone = g := ⟨gone.toNat, by omega⟩
    by_cases t5 : (l : Int) ≤ (g : Int)
    · go_wp2
      go_ret
      exact ⟨rfl, H2.out⟩
    have t5' : (g : Int) < (l : Int) := by omega
    clear t4 t5
    have hgl : g < l := by omega
    have hgm : g < m.length := by rw [HN.out.2.2.2]; exact hgl
    obtain ⟨l1, el1⟩ : ∃ k, l - 1 = k := ⟨_, rfl⟩
    have HL : Hid ((lessM m g).length = l1 ∧ 1 ≤ l1 ∧ l1 ≤ 15 ∧ n ≤ 100 ∧ goodM (lessM m g) ∧ shE (lessM m g) (m.getD g 0) = 1) := ⟨by rw [less_len hgm, HN.out.2.2.2]; exact el1, by omega, by omega, by omega, less_good HG.out (by rw [HN.out.2.2.2]; omega) hgm, less_gone HG.out hgm⟩
    obtain ⟨ZA, eZA⟩ := sliced_is q 0 g d
    obtain ⟨ZB, eZB⟩ := sliced_is q (g + 1) l d
    rw [Nat.sub_zero, Nat.sub_zero] at eZA
    obtain ⟨g1, eg1⟩ : ∃ k : Nat, g + 1 = k := ⟨_, rfl⟩
    have eg1' : (g : Int) + 1 = (g1 : Int) := by omega
    have HKA : Hid ((∀ W, Sem.run Try.prog (Instr.slice 23 (.slice q l d) none (some (.int .i64 (g : Int))) none) W = .ok (.slice ZA g d) W) ∧ (∀ W, Sem.run Try.prog (Instr.slice 23 (.slice q l d) (some (.int .i64 (g1 : Int))) none none) W = .ok (.slice ZB (l - g1) (d - g1)) W)) := ⟨fun W => by rw [cutI_h _ l d g (by omega) W, eZA], fun W => by rw [← eg1, cutI_l _ l d (g + 1) (by omega) W, eZB]⟩
    have HKN : Hid (∀ W, Below w.heap.size w W → Nums .i64 W (.slice ZA g d) (m.take g) ∧ Nums .i64 W (.slice ZB (l - g1) (d - g1)) (m.drop (g + 1))) := fun W hW => by
      have q1 := cut_nums (i := 0) (j := g) (by omega) (by omega) HN.out.2.2.2 hld (HN.out.2.1.up hW)
      have q2 := cut_nums (i := g + 1) (j := l) (by omega) (by omega) HN.out.2.2.2 hld (HN.out.2.1.up hW)
      rw [eZA] at q1
      rw [eZB, eg1] at q2
      refine ⟨by simpa using q1, ?_⟩
      rw [← eg1] at q2 ⊢
      rw [List.take_of_length_le (by rw [List.length_drop, HN.out.2.2.2]; exact Nat.le_refl _)] at q2
      exact q2
    have HS : Hid ((m.take g).length + (m.drop (g + 1)).length ≤ 1073741824) := by
      show _ ≤ _
      rw [List.length_take, List.length_drop, HN.out.2.2.2]
      omega
    clear eZA eZB eg1
    go_wp2_with fail
    refine rel [⟨0, 44, LitX 3 w2.heap.size []⟩, ⟨4, 48, RowX 3 w2.heap.size (m.take g)⟩] 9 94 (by kernel_rfl) rfl rfl (by kernel_rfl) (by rfl) ?_ ?_
    · intro e he v W W' h hb
      simp only [List.mem_cons, List.not_mem_nil, or_false] at he
      rcases he with rfl | rfl
      · exact LitX.up h hb
      · exact RowX.up h hb
    apply Exists.intro
    refine ⟨fun x => ?_, ?_, ?_⟩
    · simp only [List.take_succ_cons, List.take_zero]
      refine relTold rfl rfl ?_ ?_
      · intro F hF hf d
        have hFc := hF.cell
        have hFf := hF.frozen
        simp [yieldsR, yieldsUpon, go_sem]
        exact ⟨litX_new _ _ [] (F d) (hF.below d).size, up_alloc _ _⟩
      (try simp only [Act.put, List.setIfInBounds_toArray, List.set_cons_zero, List.set_cons_succ])
      refine relQuiet rfl rfl ?_
      apply Exists.intro
      refine ⟨fun F hF hf K hK => ?_, ?_⟩
      · have hFc := hF.cell
        have hFf := hF.frozen
        go_big_quiet_op
        first | exact hK | (apply Exists.intro; refine ⟨fun _ => ?_, ?_⟩; (· fail); exact hK)
      (try simp only [Act.put, List.setIfInBounds_toArray, List.set_cons_zero, List.set_cons_succ])
      refine relQuiet rfl rfl ?_
      apply Exists.intro
      refine ⟨fun F hF hf K hK => ?_, ?_⟩
      · have hFc := hF.cell
        have hFf := hF.frozen
        go_big_quiet_op
        first | exact hK | (apply Exists.intro; refine ⟨fun _ => ?_, ?_⟩; (· fail); exact hK)
      (try simp only [Act.put, List.setIfInBounds_toArray, List.set_cons_zero, List.set_cons_succ])
      refine relQuiet rfl rfl ?_
      apply Exists.intro
      refine ⟨fun F hF hf K hK => ?_, ?_⟩
      · have hFc := hF.cell
        have hFf := hF.frozen
        have kA := HKA.out.1
        go_big_quiet_op
        first | exact hK | (apply Exists.intro; refine ⟨fun _ => ?_, ?_⟩; (· fail); exact hK)
      (try simp only [Act.put, List.setIfInBounds_toArray, List.set_cons_zero, List.set_cons_succ])
      refine relTold rfl rfl ?_ ?_
      · intro F hF hf d
        have hFc := hF.cell
        have hFf := hF.frozen
        have h9 := hf _ List.mem_cons_self (by rfl) d
        obtain ⟨v8, w8, hr8, ho8, hb8⟩ := appX numT (by decide) 23 (F d) w2.heap.size _ h9 (hF.below d).size _ _ (HKN.out (F d) (bstep H2.out (hF.below d))).1 (by have := HS.out; omega)
        simp [yieldsR, yieldsUpon, execOp, resolve, invoke, builtin, Act.eval, hr8, Result.andThen]
        exact ⟨ho8, hb8⟩
      (try simp only [Act.put, List.setIfInBounds_toArray, List.set_cons_zero, List.set_cons_succ])
      refine relQuiet rfl rfl ?_
      apply Exists.intro
      refine ⟨fun F hF hf K hK => ?_, ?_⟩
      · have hFc := hF.cell
        have hFf := hF.frozen
        go_big_quiet_op
        first | exact hK | (apply Exists.intro; refine ⟨fun _ => ?_, ?_⟩; (· fail); exact hK)
      (try simp only [Act.put, List.setIfInBounds_toArray, List.set_cons_zero, List.set_cons_succ])
      refine relQuiet rfl rfl ?_
      apply Exists.intro
      refine ⟨fun F hF hf K hK => ?_, ?_⟩
      · have hFc := hF.cell
        have hFf := hF.frozen
        go_big_quiet_op
        first | exact hK | (apply Exists.intro; refine ⟨fun _ => ?_, ?_⟩; (· fail); exact hK)
      (try simp only [Act.put, List.setIfInBounds_toArray, List.set_cons_zero, List.set_cons_succ])
      refine relQuiet rfl rfl ?_
      apply Exists.intro
      refine ⟨fun F hF hf K hK => ?_, ?_⟩
      · have hFc := hF.cell
        have hFf := hF.frozen
        go_big_quiet_op
        first | exact hK | (apply Exists.intro; refine ⟨fun _ => ?_, ?_⟩; (· fail); exact hK)
      (try simp only [Act.put, List.setIfInBounds_toArray, List.set_cons_zero, List.set_cons_succ])
      refine relQuiet rfl rfl ?_
      apply Exists.intro
      refine ⟨fun F hF hf K hK => ?_, ?_⟩
      · have hFc := hF.cell
        have hFf := hF.frozen
        have kB := HKA.out.2
        go_big_quiet_op
        first | exact hK | (apply Exists.intro; refine ⟨fun _ => ?_, ?_⟩; (· fail); exact hK)
      (try simp only [Act.put, List.setIfInBounds_toArray, List.set_cons_zero, List.set_cons_succ])
      refine relEnd ?_
      exact rfl
    · intro x
      simp only [putsK, List.foldl_cons, List.foldl_nil, Act.put, List.setIfInBounds_toArray, List.set_cons_zero, List.set_cons_succ]
    · intro w3 xs hB3 hf
      simp only [List.drop_succ_cons, List.drop_zero]
      have h5 := hf _ (List.mem_cons_of_mem _ List.mem_cons_self)
      obtain ⟨x0, e0⟩ : ∃ q, xs 0 = q := ⟨_, rfl⟩
      obtain ⟨x5, e5⟩ : ∃ q, xs 4 = q := ⟨_, rfl⟩
      simp only [e5] at h5
      simp only [e0, e5]
      have H5o : Hid (OwnK .i64 3 w3 w2.heap.size x5 (m.take g)) := h5.1
      have H5n := HKN.out w3 (bstep H2.out hB3)
      have H5N : Hid (Nums .i64 w3 (.slice ZB (l - g1) (d - g1)) (m.drop (g + 1))) := H5n.2
      have HB3 : Hid (Below w2.heap.size w2 w3) := hB3
      clear hf h5 H5n hB3 e0 e5
      go_wp2_with (at_builtin; refine wpList_appendK numT (by decide) rfl (.tmp 48) (.tmp 52) rfl w2.heap.size _ _ rfl H5o.out _ _ rfl H5N.out HS.out HB3.out.size w2 HB3.out ?_; intro v6 w4 H6 B6; have hv6 : Nums .i64 w4 v6 (lessM m g) := H6.out.nums; obtain ⟨p7, n7, c7, rfl, L7⟩ := hv6.lst; have HB4 := hid2 B6 B6; obtain ⟨Y, eY⟩ : ∃ x, m.getD g 0 = x := ⟨_, rfl⟩; obtain ⟨gq, oq, rfl, r1⟩ := HM.out.2 g hgl; replace r1 := cell_low r1 (bstep H2.out B6); rw [eY] at r1; have x1 := cell_lt r1; clear B6)
      have hn7 : n7 = l1 := by rw [← dnums_len hv6]; exact HL.out.1
      subst hn7
      have HV7 : Hid (Nums .i64 w4 (.slice p7 n7 c7) (lessM m g) ∧ Below w.heap.size w w4) := ⟨hv6, bstep H2.out HB4.out.1⟩
      have cc := dshard_any p p7 n c n7 c7 b (lessM m g) Y (by omega) (by have := HL.out; omega) w4 (HN.out.1.up HV7.out.2) HV7.out.1
      rw [← eY, HL.out.2.2.2.2.2, eY] at cc
      clear hv6 H6 HB4 H5o H5N HB3 HS HKN HKA r1 x1 eY
      refine cc.mono ?_
      rintro e w5 ⟨v5, rfl, _, hB⟩
      have H5 : Hid (Below w.heap.size w w5 ∧ Below w4.heap.size w4 w5) := ⟨bstep HV7.out.2 hB, hB⟩
      clear hB cc
      have hl1 : 1 ≤ n7 := HL.out.2.1
      have hl2 : (n7 : Int) ≤ 15 := by have := HL.out.2.2.1; omega
      obtain ⟨a, ea⟩ : ∃ a, n / n7 = a := ⟨_, rfl⟩
      obtain ⟨s, es⟩ : ∃ s, n % n7 = s := ⟨_, rfl⟩
      have HD : Hid (n7 * a + s = n ∧ s < n7 ∧ ∀ i, i < n7 → shC n n7 i = a + if i < s then 1 else 0) := by
        refine ⟨by rw [← ea, ← es]; exact Nat.div_add_mod n n7, by rw [← es]; exact Nat.mod_lt _ hl1, fun i hi => ?_⟩
        rw [shC_is (by omega) hi, ea, es]
      clear ea es
      go_wp2_with fail
      go_loopg [10, 11, 12, 13] n7 (fun gg v i s2 e2 wr => ∃ (j x : Nat), j ≤ n7 ∧ gg = n7 - j ∧ v = .int .i64 (x : Int) ∧ i = .int .i64 (j : Int) ∧ Hid (x = j * a + min j s) ∧ Hid (Below w4.heap.size w4 wr))
      case atStart => exact ⟨0, 0, by omega, by omega, by first | rfl | simp, by first | rfl | simp, (by show _ = _; omega), H5.out.2⟩
      case round =>
        obtain ⟨j, x, hj, hgg, rfl, rfl, HX, HB⟩ := hrel
        obtain ⟨R1, eR1⟩ : ∃ R1 : World, R1 = wr := ⟨_, rfl⟩
        subst eR1
        by_cases hjn : j < n7
        · have hj' : (j : Int) < (n7 : Int) := by omega
          obtain ⟨Y, eY⟩ : ∃ x, (lessM m g).getD j 0 = x := ⟨_, rfl⟩
          obtain ⟨g9, o9, rfl, c1⟩ := L7.out.2 j hjn
          replace c1 := cell_low c1 HB.out
          rw [eY] at c1
          have k1 := cell_lt c1
          obtain ⟨T, eT⟩ : ∃ T, shC n n7 j = T := ⟨_, rfl⟩
          have cc := dshard_any p (some ⟨g9, o9, none⟩) n c n7 c7 b (lessM m g) Y (by omega) (by omega) R1 (HN.out.1.up (bstep HV7.out.2 HB.out)) (HV7.out.1.up HB.out)
          have q1 := (shE_at HL.out.2.2.2.2.1 (by rw [HL.out.1]; exact hjn)).2
          have q2 := shV_at (b := b) HL.out.2.2.2.2.1 (p := j) (by rw [HL.out.1]; exact hjn)
          rw [eY] at q1 q2
          rw [HL.out.1, HN.out.2.2.1, eT] at q2
          rw [q1, q2] at cc
          have hT : T = a + if j < s then 1 else 0 := by rw [← eT]; exact HD.out.2.2 j hjn
          have HT : Hid (T = a + if j < s then 1 else 0) := hT
          clear q1 q2 hT eT eY
          go_wp2_with fail
          refine cc.mono ?_
          rintro e w6 ⟨v3, rfl, hv, hB⟩
          replace hv := hv.nums
          obtain ⟨p3, n3, c3, rfl, H3⟩ := hv.lst
          obtain rfl : n3 = T := by rw [← dnums_len hv, shT_len]
          have HW3 : Hid (Below w4.heap.size w4 w6) := bstep HB.out hB
          clear cc hB hv c1 k1 HB
          have HX2 : Hid (x + n3 = (j + 1) * a + min (j + 1) s) := by
            show _ = _
            have h3 := HX.out
            have h4 := HT.out
            rw [Nat.add_mul, Nat.one_mul, h3, h4]
            split <;> omega
          have hx9 : (x : Int) + (n3 : Int) ≤ 1000000 := by
            have h3 := HX2.out
            have h4 := HD.out.1
            have h5 : (j + 1) * a ≤ n7 * a := Nat.mul_le_mul_right _ (by omega)
            have h6 : min (j + 1) s ≤ s := Nat.min_le_right _ _
            have := HL.out
            omega
          have ex9 : ((x + n3 : Nat) : Int) = (x : Int) + (n3 : Int) := by omega
          go_wp2
          go_roundg (n7 - (j + 1))
          case measure => omega
          case rel => exact ⟨j + 1, x + n3, by omega, rfl, by first | rfl | simp, by first | rfl | simp, HX2, HW3⟩
        · obtain rfl : j = n7 := by omega
          have hx : x = n := by
            have h3 := HX.out
            have h4 := HD.out.1
            have h5 := HD.out.2.1
            rw [Nat.min_eq_right (by omega)] at h3
            omega
          subst hx
          go_wp2
          go_ret
          exact ⟨by simp, bstep HV7.out.2 HB.out⟩
end Go.Proofs.Ytimbidiogcfpeaa.Wd
