/- OptMeans: twice the gradient of twice as many is the same step. -/
import Derived.Test.YtknadgffflhlgaaOpX
namespace Go.Proofs.Ytknadgffflhlgaa.Wd
open Go.RowKit Fx
set_option linter.unusedVariables false
set_option linter.unusedSimpArgs false
set_option maxRecDepth 8000
set_option maxHeartbeats 8000000
def tw (l : List Int) : List Int := l.map fun x => x + x
theorem tw_at (l : List Int) (i : Nat) : (tw l).getD i 0 = l.getD i 0 + l.getD i 0 := by
  unfold tw
  rw [List.getD_eq_getElem?_getD, List.getElem?_map, List.getD_eq_getElem?_getD]
  cases l[i]? <;> rfl
theorem opD_twice (l : List Int) (many bb : Int) (h : 0 < many) (i : Nat) : opD (tw l) (2 * many) bb i = opD l many bb i := by
  unfold opD
  rw [tw_at, ovI_twice h]
theorem opM_twice (M l : List Int) (many bb kk : Int) (h : 0 < many) : opM M (tw l) (2 * many) bb kk = opM M l many bb kk := by
  unfold opM
  rw [show (tw l).length = l.length by simp [tw]]
  exact List.map_congr_left fun i _ => by rw [opD_twice l many bb h]
theorem opP_twice (P M l : List Int) (many ss bb kk : Int) (h : 0 < many) : opP P M (tw l) (2 * many) ss bb kk = opP P M l many ss bb kk := by
  unfold opP
  rw [show (tw l).length = l.length by simp [tw]]
  exact List.map_congr_left fun i _ => by rw [opD_twice l many bb h]
theorem take_push (l : List Int) (k : Nat) (h : k < l.length) : l.take (k + 1) = l.take k ++ [l.getD k 0] := by
  rw [List.take_add_one, List.getD_eq_getElem?_getD, List.getElem?_eq_getElem h]
  rfl
theorem tw_push (l : List Int) (k : Nat) (h : k < l.length) : tw (l.take (k + 1)) = tw (l.take k) ++ [l.getD k 0 + l.getD k 0] := by
  rw [take_push l k h]
  unfold tw
  rw [List.map_append]
  rfl
/-- A literal of one Wide, newly made. -/
def NewL (hi lo : Int) (v : Value) (W : World) : Prop := ∃ g, v = .slice (some ⟨g, 0, none⟩) 1 1 ∧ W.heap[g]? = some (.cells #[.int .i64 hi, .int .u64 lo] 30 (0, 0))
theorem NewL.up {hi lo : Int} {v : Value} {W W' : World} (h : NewL hi lo v W) (hB : Below W.heap.size W W') : NewL hi lo v W' := by
  obtain ⟨b, e, a⟩ := h
  exact ⟨b, e, by rw [hB.block b (heap_lt a)]; exact a⟩
theorem omeans_walk (w : World) (z : Nat → Int) (n c : Nat) (p : Option Addr) (y : Nat → Int) (m d : Nat) (q : Option Addr) (zg : Nat → Int) (ng cg : Nat) (pg : Option Addr) (many ss kk bb : Int) (h1 : RowN .i64 w p n c z) (h2 : RowN .i64 w q m d y) (h3 : RowN .i64 w pg ng cg zg) (ha : -9223372036854775808 ≤ many ∧ many ≤ 9223372036854775807) (hs : -9223372036854775808 ≤ ss ∧ ss ≤ 9223372036854775807) (hk : -9223372036854775808 ≤ kk ∧ kk ≤ 9223372036854775807) (hb : -9223372036854775808 ≤ bb ∧ bb ≤ 9223372036854775807) :
    Calls Try.prog 8 #[.slice p n c, .slice q m d, .slice pg ng cg, .int .i64 many, .agg #[.int .i64 ss, .int .i64 kk, .int .i64 bb]] w fun e w' => e = .returned (.bool true) ∧ Below w.heap.size w w' := by
  haveI : Nonempty World := ⟨w⟩
  obtain ⟨P, lP, dP, rP⟩ : ∃ P : List Int, P.length = n ∧ Nums .i64 w (.slice p n c) P ∧ RI P := ⟨nlst n z, nlst_len n z, h1.nums, h1.riI⟩
  obtain ⟨M, lM, dM, rM⟩ : ∃ M : List Int, M.length = m ∧ Nums .i64 w (.slice q m d) M ∧ RI M := ⟨nlst m y, nlst_len m y, h2.nums, h2.riI⟩
  obtain ⟨G, lG, dG, rG⟩ : ∃ M : List Int, M.length = ng ∧ Nums .i64 w (.slice pg ng cg) M ∧ RI M := ⟨nlst ng zg, nlst_len ng zg, h3.nums, h3.riI⟩
  obtain ⟨_, _, _, e9, LG⟩ := dG.lst
  cases e9
  have HN : Hid (Nums .i64 w (.slice p n c) P ∧ Nums .i64 w (.slice q m d) M ∧ RI P ∧ RI M ∧ RI G ∧ P.length = n ∧ M.length = m ∧ G.length = ng ∧ InR ss ∧ InR kk ∧ InR bb) := ⟨dP, dM, rP, rM, rG, lP, lM, lG, hs, hk, hb⟩
  clear h1 h2 h3 lP lM dP dM rP rM lG dG rG
  go_enter Try.func8, Try.ntmps8
  go_wp2_with fail
  generalize hW0 : World.alloc _ _ = W0
  have HB0 : Hid (Below w.heap.size w W0) := by rw [← hW0]; exact up_alloc w _
  have XA : Hid (Cel3 W0 w.heap.size ss kk bb) := celX hW0 (by simp [go_sem])
  clear hW0
  refine (awake15_any W0).mono ?_
  rintro e w1 ⟨rfl, hB⟩
  have H1 : Hid (Below w.heap.size w w1 ∧ Cel3 w1 w.heap.size ss kk bb) := ⟨bstep HB0.out hB, XA.out.up hB⟩
  clear hB HB0 XA
  obtain ⟨a0, a1, a2⟩ := H1.out.2
  have ka := cell_lt a0
  by_cases t1 : 40 < n
  · have t1' : (40 : Int) < (n : Int) := by omega
    go_wp2
    go_ret
    exact ⟨rfl, H1.out.1⟩
  have t1' : (n : Int) ≤ 40 := by omega
  by_cases t2 : ¬ m = n
  · have t2' : ((m : Int) != (n : Int)) = true := by simpa using (show (m : Int) ≠ (n : Int) by omega)
    go_wp2
    go_ret
    exact ⟨rfl, H1.out.1⟩
  obtain rfl : n = m := by omega
  by_cases t3 : ¬ ng = n
  · have t3' : ((ng : Int) != (n : Int)) = true := by simpa using (show (ng : Int) ≠ (n : Int) by omega)
    go_wp2
    go_ret
    exact ⟨rfl, H1.out.1⟩
  obtain rfl : n = ng := by omega
  by_cases t4 : many < 1
  · skip
    go_wp2
    go_ret
    exact ⟨rfl, H1.out.1⟩
  have t4' : 1 ≤ many := by omega
  by_cases t5 : 1099511627776 < many
  · skip
    go_wp2
    go_ret
    exact ⟨rfl, H1.out.1⟩
  have t5' : many ≤ 1099511627776 := by omega
  by_cases t6 : bb < 0
  · skip
    go_wp2
    go_ret
    exact ⟨rfl, H1.out.1⟩
  have t6' : 0 ≤ bb := by omega
  go_wp2_with fail
  clear a0 a1 a2 ka
  go_loopg [11, 12, 13] n (fun gg va vb i wr => ∃ (k : Nat), k ≤ n ∧ gg = n - k ∧ i = .int .i64 (k : Int) ∧ Hid (OwnW wr w1.heap.size va (G.take k) ∧ OwnW wr w1.heap.size vb (tw (G.take k)) ∧ (∀ g, ¬ (va.ownBlock = some g ∧ vb.ownBlock = some g))) ∧ Hid (Below w1.heap.size w1 wr))
  case atStart => exact ⟨0, by omega, by omega, by first | rfl | simp, ⟨OwnW.nil _ _, OwnW.nil _ _, fun g h => by cases h.1⟩, Below.refl _ _⟩
  case round =>
    obtain ⟨k, hk_, hgg, rfl, HR, HB⟩ := hrel
    obtain ⟨R1, eR1⟩ : ∃ R1 : World, R1 = wr := ⟨_, rfl⟩
    subst eR1
    by_cases hkn : k < n
    · have hk' : (k : Int) < (n : Int) := by omega
      obtain ⟨f1, o1, rfl, r1⟩ := LG.out.2 k hkn
      replace r1 := cell_low r1 (bstep H1.out.1 HB.out)
      have kr := cell_lt r1
      obtain ⟨x, ex⟩ : ∃ x, G.getD k 0 = x := ⟨_, rfl⟩
      have rx : InR x := by rw [← ex]; exact getD_R HN.out.2.2.2.2.1 k (by rw [HN.out.2.2.2.2.2.2.2.1]; exact hkn)
      have wx : InW x := by unfold InW; unfold InR at rx; omega
      have wxx : InW (x + x) := by unfold InW; unfold InR at rx; omega
      rw [ex] at r1
      obtain ⟨hi, e1⟩ : ∃ y, x / 18446744073709551616 = y := ⟨_, rfl⟩
      obtain ⟨lo, e2⟩ : ∃ y, x % 18446744073709551616 = y := ⟨_, rfl⟩
      obtain ⟨hj, e3⟩ : ∃ y, (x + x) / 18446744073709551616 = y := ⟨_, rfl⟩
      obtain ⟨lj, e4⟩ : ∃ y, (x + x) % 18446744073709551616 = y := ⟨_, rfl⟩
      have cO : Hid (∀ W, Calls Try.prog 11 #[.int .i64 x] W fun e w' => e = .returned (.agg #[.int .i64 hi, .int .u64 lo]) ∧ Below W.heap.size W w') := of_at2 rx e1 e2
      have cA : Hid (∀ W, Calls Try.prog 19 #[.agg #[.int .i64 hi, .int .u64 lo], .agg #[.int .i64 hi, .int .u64 lo]] W fun e w' => e = .returned (.agg #[.int .i64 hj, .int .u64 lj]) ∧ Below W.heap.size W w') := fun W => by
        have := Wd.add_any x x wx wx W
        rw [wr_in wxx] at this
        unfold wd at this
        rw [e1, e2, e3, e4] at this
        exact this
      have HL : Hid (G.take (k + 1) = G.take k ++ [x] ∧ tw (G.take (k + 1)) = tw (G.take k) ++ [x + x] ∧ InW x ∧ InW (x + x) ∧ x / 18446744073709551616 = hi ∧ x % 18446744073709551616 = lo ∧ (x + x) / 18446744073709551616 = hj ∧ (x + x) % 18446744073709551616 = lj ∧ (G.take k).length ≤ 1000 ∧ (tw (G.take k)).length ≤ 1000) := ⟨by rw [take_push G k (by rw [HN.out.2.2.2.2.2.2.2.1]; exact hkn), ex], by rw [tw_push G k (by rw [HN.out.2.2.2.2.2.2.2.1]; exact hkn), ex], wx, wxx, e1, e2, e3, e4, by rw [List.length_take]; omega, by unfold tw; rw [List.length_map, List.length_take]; omega⟩
      clear ex rx wx wxx e1 e2 e3 e4
      go_wp2_with fail
      refine (cO.out R1).mono ?_
      rintro e w2 ⟨rfl, hB⟩
      have hB2 := up_alloc w2 (.cells #[.int .i64 hi, .int .u64 lo] 30)
      have H3 : Hid (OwnW (w2.alloc (.cells #[.int .i64 hi, .int .u64 lo] 30)) w1.heap.size u11 (G.take k) ∧ OwnW (w2.alloc (.cells #[.int .i64 hi, .int .u64 lo] 30)) w1.heap.size u12 (tw (G.take k)) ∧ (w2.alloc (.cells #[.int .i64 hi, .int .u64 lo] 30)).heap[w2.heap.size]? = some (.cells #[.int .i64 hi, .int .u64 lo] 30 (0, 0)) ∧ Below w1.heap.size w1 (w2.alloc (.cells #[.int .i64 hi, .int .u64 lo] 30))) := ⟨HR.out.1.up (bstep hB hB2), HR.out.2.1.up (bstep hB hB2), heap_alloc_new _ _, bstep HB.out (bstep hB hB2)⟩
      have HP : Hid (∀ g, ¬ (u11.ownBlock = some g ∧ u12.ownBlock = some g)) := HR.out.2.2
      clear hB hB2 HR HB r1 kr
      go_wp2_with (at_builtin; refine wpList_appW rfl (.tmp 57) (.tmp 63) rfl w1.heap.size _ (G.take k) rfl H3.out.1 w2.heap.size x hi lo _ rfl HL.out.2.2.1 HL.out.2.2.2.2.1 HL.out.2.2.2.2.2.1 H3.out.2.2.1 HL.out.2.2.2.2.2.2.2.2.1 H3.out.2.2.2.size w1 H3.out.2.2.2 _ _ H3.out.2.1 HP.out ?_; intro va w4 H4 hB4)
      have H5 : Hid (OwnW w4 w1.heap.size va (G.take k ++ [x]) ∧ OwnW w4 w1.heap.size u12 (tw (G.take k)) ∧ (∀ g, ¬ (va.ownBlock = some g ∧ u12.ownBlock = some g)) ∧ Below w1.heap.size w1 w4) := ⟨H4.out.1, H4.out.2.1, H4.out.2.2, hB4⟩
      obtain ⟨_, _, i9, r1⟩ := LG.out.2 k hkn
      cases i9
      replace r1 := cell_low r1 (bstep H1.out.1 hB4)
      have kr := cell_lt r1
      have ex : G.getD k 0 = x := by
        have := HL.out.1
        rw [take_push G k (by rw [HN.out.2.2.2.2.2.2.2.1]; exact hkn)] at this
        simpa using this
      rw [ex] at r1
      clear ex H4 hB4 H3 HP
      refine rel [⟨12, 77, NewL hj lj⟩] 13 152 (by kernel_rfl) rfl rfl (by kernel_rfl) (by rfl) ?_ ?_
      · intro e he v W W' h hb
        simp only [List.mem_cons, List.not_mem_nil, or_false] at he
        subst he
        exact NewL.up h hb
      apply Exists.intro
      refine ⟨fun x => ?_, ?_, ?_⟩
      · simp only [List.take_succ_cons, List.take_zero]
        refine relQuiet rfl rfl ?_
        apply Exists.intro
        refine ⟨fun F hF hf K hK => ?_, ?_⟩
        · have hFc := hF.cell
          have hFf := hF.frozen
          go_big_quiet_op
          first | exact hK | (apply Exists.intro; refine ⟨fun _ => ?_, ?_⟩; (· fail); exact hK)
        (try simp only [Act.put, List.setIfInBounds_toArray, List.set_cons_zero, List.set_cons_succ])
        refine relQuiet rfl rfl ?_
        apply Exists.intro
        refine ⟨fun F hF hf K hK => ?_, ?_⟩
        · have hFc := hF.cell
          have hFf := hF.frozen
          go_big_quiet_op
          first | exact hK | (apply Exists.intro; refine ⟨fun _ => ?_, ?_⟩; (· fail); exact hK)
        (try simp only [Act.put, List.setIfInBounds_toArray, List.set_cons_zero, List.set_cons_succ])
        refine relQuiet rfl rfl ?_
        apply Exists.intro
        refine ⟨fun F hF hf K hK => ?_, ?_⟩
        · have hFc := hF.cell
          have hFf := hF.frozen
          go_big_quiet_op
          first | exact hK | (apply Exists.intro; refine ⟨fun _ => ?_, ?_⟩; (· fail); exact hK)
        (try simp only [Act.put, List.setIfInBounds_toArray, List.set_cons_zero, List.set_cons_succ])
        refine relQuiet rfl rfl ?_
        apply Exists.intro
        refine ⟨fun F hF hf K hK => ?_, ?_⟩
        · have hFc := hF.cell
          have hFf := hF.frozen
          go_big_quiet_op
          first | exact hK | (apply Exists.intro; refine ⟨fun _ => ?_, ?_⟩; (· fail); exact hK)
        (try simp only [Act.put, List.setIfInBounds_toArray, List.set_cons_zero, List.set_cons_succ])
        refine relQuiet rfl rfl ?_
        apply Exists.intro
        refine ⟨fun F hF hf K hK => ?_, ?_⟩
        · have hFc := hF.cell
          have hFf := hF.frozen
          go_big_quiet_op
          first | exact hK | (apply Exists.intro; refine ⟨fun _ => ?_, ?_⟩; (· fail); exact hK)
        (try simp only [Act.put, List.setIfInBounds_toArray, List.set_cons_zero, List.set_cons_succ])
        refine relQuiet rfl rfl ?_
        apply Exists.intro
        refine ⟨fun F hF hf K hK => ?_, ?_⟩
        · have hFc := hF.cell
          have hFf := hF.frozen
          go_big_quiet_op
          first | exact hK | (apply Exists.intro; refine ⟨fun _ => ?_, ?_⟩; (· exact hF.call (cO.out _)); exact hK)
        (try simp only [Act.put, List.setIfInBounds_toArray, List.set_cons_zero, List.set_cons_succ])
        refine relQuiet rfl rfl ?_
        apply Exists.intro
        refine ⟨fun F hF hf K hK => ?_, ?_⟩
        · have hFc := hF.cell
          have hFf := hF.frozen
          go_big_quiet_op
          first | exact hK | (apply Exists.intro; refine ⟨fun _ => ?_, ?_⟩; (· fail); exact hK)
        (try simp only [Act.put, List.setIfInBounds_toArray, List.set_cons_zero, List.set_cons_succ])
        refine relQuiet rfl rfl ?_
        apply Exists.intro
        refine ⟨fun F hF hf K hK => ?_, ?_⟩
        · have hFc := hF.cell
          have hFf := hF.frozen
          go_big_quiet_op
          first | exact hK | (apply Exists.intro; refine ⟨fun _ => ?_, ?_⟩; (· fail); exact hK)
        (try simp only [Act.put, List.setIfInBounds_toArray, List.set_cons_zero, List.set_cons_succ])
        refine relQuiet rfl rfl ?_
        apply Exists.intro
        refine ⟨fun F hF hf K hK => ?_, ?_⟩
        · have hFc := hF.cell
          have hFf := hF.frozen
          go_big_quiet_op
          first | exact hK | (apply Exists.intro; refine ⟨fun _ => ?_, ?_⟩; (· fail); exact hK)
        (try simp only [Act.put, List.setIfInBounds_toArray, List.set_cons_zero, List.set_cons_succ])
        refine relQuiet rfl rfl ?_
        apply Exists.intro
        refine ⟨fun F hF hf K hK => ?_, ?_⟩
        · have hFc := hF.cell
          have hFf := hF.frozen
          go_big_quiet_op
          first | exact hK | (apply Exists.intro; refine ⟨fun _ => ?_, ?_⟩; (· fail); exact hK)
        (try simp only [Act.put, List.setIfInBounds_toArray, List.set_cons_zero, List.set_cons_succ])
        refine relQuiet rfl rfl ?_
        apply Exists.intro
        refine ⟨fun F hF hf K hK => ?_, ?_⟩
        · have hFc := hF.cell
          have hFf := hF.frozen
          go_big_quiet_op
          first | exact hK | (apply Exists.intro; refine ⟨fun _ => ?_, ?_⟩; (· exact hF.call (cO.out _)); exact hK)
        (try simp only [Act.put, List.setIfInBounds_toArray, List.set_cons_zero, List.set_cons_succ])
        refine relQuiet rfl rfl ?_
        apply Exists.intro
        refine ⟨fun F hF hf K hK => ?_, ?_⟩
        · have hFc := hF.cell
          have hFf := hF.frozen
          go_big_quiet_op
          first | exact hK | (apply Exists.intro; refine ⟨fun _ => ?_, ?_⟩; (· exact hF.call (cA.out _)); exact hK)
        (try simp only [Act.put, List.setIfInBounds_toArray, List.set_cons_zero, List.set_cons_succ])
        refine relTold rfl rfl ?_ ?_
        · intro F hF hf d
          have hFc := hF.cell
          have hFf := hF.frozen
          simp [yieldsR, yieldsUpon, go_sem]
          exact ⟨⟨(F d).heap.size, rfl, heap_alloc_new _ _⟩, up_alloc _ _⟩
        (try simp only [Act.put, List.setIfInBounds_toArray, List.set_cons_zero, List.set_cons_succ])
        refine relEnd ?_
        exact rfl
      · exact fun x => rfl
      · intro w9 xs hB9 hf
        simp only [List.drop_succ_cons, List.drop_zero]
        obtain ⟨z9, ez9⟩ : ∃ z, xs 12 = z := ⟨_, rfl⟩
        have hN := hf _ List.mem_cons_self
        simp only [] at hN
        rw [ez9] at hN
        obtain ⟨g9, rfl, hg9⟩ := hN
        simp only [ez9]
        have H6 : Hid (OwnW w9 w1.heap.size va (G.take k ++ [x]) ∧ OwnW w9 w1.heap.size u12 (tw (G.take k)) ∧ (∀ g, ¬ (u12.ownBlock = some g ∧ va.ownBlock = some g)) ∧ Below w1.heap.size w1 w9 ∧ w9.heap[g9]? = some (.cells #[.int .i64 hj, .int .u64 lj] 30 (0, 0))) := ⟨H5.out.1.up hB9, H5.out.2.1.up hB9, fun g h => H5.out.2.2.1 g ⟨h.2, h.1⟩, bstep H5.out.2.2.2 hB9, hg9⟩
        clear hf hB9 hg9 ez9 H5 r1 kr cO cA
        go_wp2_with (at_builtin; refine wpList_appW rfl (.tmp 65) (.tmp 77) rfl w1.heap.size _ (tw (G.take k)) rfl H6.out.2.1 g9 (x + x) hj lj _ rfl HL.out.2.2.2.1 HL.out.2.2.2.2.2.2.1 HL.out.2.2.2.2.2.2.2.1 H6.out.2.2.2.2 HL.out.2.2.2.2.2.2.2.2.2 H6.out.2.2.2.1.size w1 H6.out.2.2.2.1 _ _ H6.out.1 H6.out.2.2.1 ?_; intro vb w6 H7 hB6; have HB6 := hid2 hB6 hB6; clear hB6)
        go_roundg (n - (k + 1))
        case measure => omega
        case rel => exact ⟨k + 1, by omega, rfl, by first | rfl | simp, by
          rw [HL.out.2.1, HL.out.1]
          exact ⟨H7.out.2.1, H7.out.1, fun g h => H7.out.2.2 g ⟨h.2, h.1⟩⟩, HB6.out.1⟩
    · obtain rfl : k = n := by omega
      have eT : G.take k = G := List.take_of_length_le (by rw [HN.out.2.2.2.2.2.2.2.1]; exact Nat.le_refl _)
      have hA := HR.out.1
      have hB_ := HR.out.2.1
      rw [eT] at hA hB_
      obtain ⟨pa, ca, rfl, wa⟩ := hA.wdr
      obtain ⟨pb, cb, rfl, wb⟩ := hB_.wdr
      have lT : (tw G).length = k := by unfold tw; rw [List.length_map]; exact HN.out.2.2.2.2.2.2.2.1
      have lG := HN.out.2.2.2.2.2.2.2.1
      rw [lG] at wa ⊢
      rw [lT] at wb ⊢
      have hBw := bstep H1.out.1 HB.out
      have H3 : Hid (Below w.heap.size w R1 ∧ Cel3 R1 w.heap.size ss kk bb ∧ WdR R1 pa k G ∧ WdR R1 pb k (tw G)) := ⟨hBw, H1.out.2.up HB.out, wa, wb⟩
      clear eT hA hB_ wa wb lT lG hBw HR HB H1
      obtain ⟨M', eM⟩ : ∃ M', opM M G many bb kk = M' := ⟨_, rfl⟩
      obtain ⟨P', eP⟩ : ∃ P', opP P M G many ss bb kk = P' := ⟨_, rfl⟩
      have HV : Hid (P'.length = k ∧ M'.length = k ∧ opM M (tw G) (2 * many) bb kk = M' ∧ opP P M (tw G) (2 * many) ss bb kk = P') := ⟨by rw [← eP, opP_len]; exact HN.out.2.2.2.2.2.2.2.1, by rw [← eM, opM_len]; exact HN.out.2.2.2.2.2.2.2.1, by rw [opM_twice _ _ _ _ _ (by omega)]; exact eM, by rw [opP_twice _ _ _ _ _ _ _ (by omega)]; exact eP⟩
      obtain ⟨a0, a1, a2⟩ := H3.out.2.1
      have cc := apply_ok p q pa k c d ca P M G many ss kk bb (by omega) HN.out.2.2.1 HN.out.2.2.2.1 ha HN.out.2.2.2.2.2.2.2.2.1 HN.out.2.2.2.2.2.2.2.2.2.1 HN.out.2.2.2.2.2.2.2.2.2.2 (by omega) (by omega) HN.out.2.2.2.2.2.1 HN.out.2.2.2.2.2.2.1 R1 (HN.out.1.up H3.out.1) (HN.out.2.1.up H3.out.1) H3.out.2.2.1
      rw [eM, eP] at cc
      clear eM eP
      go_wp2_with fail
      refine cc.mono ?_
      rintro e w2 ⟨v, rfl, ⟨p2, n2, c2, q2, m2, d2, rfl, hP, hM⟩, hB⟩
      replace hP := hP.nums
      replace hM := hM.nums
      obtain rfl : k = n2 := by rw [← HV.out.1]; exact nums_len hP
      obtain rfl : k = m2 := by rw [← HV.out.2.1]; exact nums_len hM
      obtain ⟨b2, eb2⟩ : ∃ b, w2.heap.size = b := ⟨_, rfl⟩
      obtain ⟨K2, eK2⟩ : ∃ K, w2.alloc (.cells #[.slice p2 k c2, .slice q2 k d2] 25) = K := ⟨_, rfl⟩
      have hB2 : Below w2.heap.size w2 K2 := by rw [← eK2]; exact up_alloc w2 _
      have H4 : Hid (Below w.heap.size w K2 ∧ Cel3 K2 w.heap.size ss kk bb ∧ WdR K2 pb k (tw G) ∧ Cel K2 b2 (.slice p2 k c2) (.slice q2 k d2) ∧ Nums .i64 K2 (.slice p2 k c2) P' ∧ Nums .i64 K2 (.slice q2 k d2) M') := ⟨bstep H3.out.1 (bstep hB hB2), H3.out.2.1.up (bstep hB hB2), H3.out.2.2.2.up (bstep hB hB2), by rw [← eK2, ← eb2]; unfold Cel; simp [go_sem], hP.up hB2, hM.up hB2⟩
      (try rw [eb2])
      clear a0 a1 a2 hP hM hB hB2 cc H3
      obtain ⟨a0, a1, a2⟩ := H4.out.2.1
      have cc := apply_ok p q pb k c d cb P M (tw G) (2 * many) ss kk bb (by omega) HN.out.2.2.1 HN.out.2.2.2.1 (by unfold InR; omega) HN.out.2.2.2.2.2.2.2.2.1 HN.out.2.2.2.2.2.2.2.2.2.1 HN.out.2.2.2.2.2.2.2.2.2.2 (by omega) (by omega) HN.out.2.2.2.2.2.1 HN.out.2.2.2.2.2.2.1 K2 (HN.out.1.up H4.out.1) (HN.out.2.1.up H4.out.1) H4.out.2.2.1
      rw [HV.out.2.2.1, HV.out.2.2.2] at cc
      go_wp2_with fail
      clear eK2 eb2
      refine cc.mono ?_
      rintro e w3 ⟨v, rfl, ⟨p3, n3, c3, q3, m3, d3, rfl, hP, hM⟩, hB⟩
      replace hP := hP.nums
      replace hM := hM.nums
      obtain rfl : k = n3 := by rw [← HV.out.1]; exact nums_len hP
      obtain rfl : k = m3 := by rw [← HV.out.2.1]; exact nums_len hM
      obtain ⟨b3, eb3⟩ : ∃ b, w3.heap.size = b := ⟨_, rfl⟩
      obtain ⟨K3, eK3⟩ : ∃ K, w3.alloc (.cells #[.slice p3 k c3, .slice q3 k d3] 25) = K := ⟨_, rfl⟩
      have hB3 : Below w3.heap.size w3 K3 := by rw [← eK3]; exact up_alloc w3 _
      have H5 : Hid (Below w.heap.size w K3 ∧ Cel K3 b2 (.slice p2 k c2) (.slice q2 k d2) ∧ Cel K3 b3 (.slice p3 k c3) (.slice q3 k d3) ∧ Nums .i64 K3 (.slice p2 k c2) P' ∧ Nums .i64 K3 (.slice q2 k d2) M' ∧ Nums .i64 K3 (.slice p3 k c3) P' ∧ Nums .i64 K3 (.slice q3 k d3) M') := ⟨bstep H4.out.1 (bstep hB hB3), H4.out.2.2.2.1.up (bstep hB hB3), by rw [← eK3, ← eb3]; unfold Cel; simp [go_sem], H4.out.2.2.2.2.1.up (bstep hB hB3), H4.out.2.2.2.2.2.up (bstep hB hB3), hP.up hB3, hM.up hB3⟩
      (try rw [eb3])
      obtain ⟨_, _, _, i1, L1⟩ := H5.out.2.2.2.1.lst
      cases i1
      obtain ⟨_, _, _, i2, L2⟩ := H5.out.2.2.2.2.1.lst
      cases i2
      obtain ⟨_, _, _, i3, L3⟩ := H5.out.2.2.2.2.2.1.lst
      cases i3
      obtain ⟨_, _, _, i4, L4⟩ := H5.out.2.2.2.2.2.2.lst
      cases i4
      clear a0 a1 a2 hP hM hB hB3 cc H4
      obtain ⟨s0, s1, _, _⟩ := H5.out.2.1
      obtain ⟨t0, t1, _, _⟩ := H5.out.2.2.1
      go_wp2_with fail
      clear eK3 eb3 s0 s1 t0 t1
      go_loopg [18] k (fun gg i wr => ∃ (j : Nat), j ≤ k ∧ gg = k - j ∧ i = .int .i64 (j : Int) ∧ Hid (Below K3.heap.size K3 wr))
      case atStart => exact ⟨0, by omega, by omega, by first | rfl | simp, Below.refl _ _⟩
      case round =>
        obtain ⟨j, hj_, hgg2, rfl, HB⟩ := hrel
        obtain ⟨R2, eR2⟩ : ∃ R2 : World, R2 = wr := ⟨_, rfl⟩
        subst eR2
        by_cases hjn : j < k
        · have hj' : (j : Int) < (k : Int) := by omega
          obtain ⟨f1, o1, rfl, r1⟩ := L1.out.2 j hjn
          obtain ⟨f2, o2, rfl, r2⟩ := L2.out.2 j hjn
          obtain ⟨f3, o3, rfl, r3⟩ := L3.out.2 j hjn
          obtain ⟨f4, o4, rfl, r4⟩ := L4.out.2 j hjn
          replace r1 := cell_low r1 HB.out
          replace r2 := cell_low r2 HB.out
          replace r3 := cell_low r3 HB.out
          replace r4 := cell_low r4 HB.out
          obtain ⟨X, eX⟩ : ∃ X, P'.getD j 0 = X := ⟨_, rfl⟩
          obtain ⟨Y, eY⟩ : ∃ X, M'.getD j 0 = X := ⟨_, rfl⟩
          rw [eX] at r1 r3
          rw [eY] at r2 r4
          obtain ⟨s0, s1, _, _⟩ := H5.out.2.1.up HB.out
          obtain ⟨t0, t1, _, _⟩ := H5.out.2.2.1.up HB.out
          have k1 := cell_lt r1
          have k2 := cell_lt r2
          have k3 := cell_lt r3
          have k4 := cell_lt r4
          have k5 := cell_lt s0
          have k6 := cell_lt t0
          have n1 : (X != X) = false := by simp
          have n2 : (Y != Y) = false := by simp
          clear eX eY
          go_wp2_with fail
          refine flow 24 152 (by kernel_rfl) rfl rfl (by kernel_rfl) ?_
          apply Exists.intro
          refine ⟨?_, ?_⟩
          · intro F hF
            have hFc := hF.cell
            have hFf := hF.frozen
            simp only [List.take_succ_cons, List.take_zero, List.eraseIdx_cons_succ, List.eraseIdx_cons_zero]
            repeat (go_big_quiet_step (fail))
            refine wpQuiet_nil ?_
            exact rfl
          · intro W1 hb1
            simp only [List.drop_succ_cons, List.drop_zero]
            have H9 : Hid (Below K3.heap.size K3 W1) := bstep HB.out hb1
            clear r1 r2 r3 r4 k1 k2 k3 k4 k5 k6 s0 s1 t0 t1 hb1
            go_wp2
            go_roundg (k - (j + 1))
            case measure => omega
            case rel => exact ⟨j + 1, by omega, rfl, by first | rfl | simp, H9⟩
        · obtain rfl : j = k := by omega
          go_wp2
          go_ret
          exact ⟨rfl, bstep H5.out.1 HB.out⟩
end Go.Proofs.Ytknadgffflhlgaa.Wd
