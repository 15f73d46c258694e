/- The reference's messages: May, Put. -/
import Derived.Test.YthmpfdkbpdbhnaaFrQ
import Derived.Test.YthmpfdkbpdbhnaaFrN
import Derived.Test.YthmpfdkbpdbhnaaWpr
namespace Go.Proofs.Ythmpfdkbpdbhnaa.Wd
open Go.RowKit
set_option linter.unusedVariables false
set_option linter.unusedSimpArgs false
set_option maxRecDepth 8000
set_option maxHeartbeats 4000000
abbrev MsV (k f t v s : Int) (N V : Value) : Value := .agg #[.int .i64 k, .int .i64 f, .int .i64 t, .int .u32 v, .int .u32 s, N, V]
theorem rmay_any (k f t v s : Int) (pn pv : Option Addr) (n cn m cv : Nat) (w : World) :
    Calls Try.prog 17 #[MsV k f t v s (.slice pn n cn) (.slice pv m cv)] w fun e w' => e = .returned (.bool (decide (goodG k f t n m))) ∧ Below w.heap.size w w' := by
  obtain ⟨r, er⟩ : ∃ r, decide (goodG k f t n m) = r := ⟨_, rfl⟩
  obtain ⟨z1, e1⟩ : ∃ z, decide (1 ≤ k ∧ k ≤ 20) = z := ⟨_, rfl⟩
  obtain ⟨z2, e2⟩ : ∃ z, decide (0 ≤ f ∧ f ≤ 15) = z := ⟨_, rfl⟩
  obtain ⟨z3, e3⟩ : ∃ z, decide (0 ≤ t ∧ t ≤ 15) = z := ⟨_, rfl⟩
  have c1 := fun W => fin_any k 1 20 z1 e1 W
  have c2 := fun W => fin_any f 0 15 z2 e2 W
  have c3 := fun W => fin_any t 0 15 z3 e3 W
  have HZ : Hid (r = ((((z1 && z2) && z3) && decide (n ≤ 500)) && decide (m ≤ 500))) := by
    show _ = _
    rw [← er, ← e1, ← e2, ← e3]
    simp only [← Bool.decide_and]
    exact decide_eq_decide.2 (by unfold goodG; omega)
  rw [er]
  clear er e1 e2 e3
  go_enter Try.func17, Try.ntmps17
  go_wp2_with fail
  refine (c1 _).mono ?_
  rintro e w1 ⟨rfl, rfl⟩
  cases z1 with
  | false =>
    go_wp2
    go_ret
    exact ⟨by rw [HZ.out]; rfl, up_alloc _ _⟩
  | true =>
    go_wp2_with fail
    refine (c2 _).mono ?_
    rintro e w1 ⟨rfl, rfl⟩
    cases z2 with
    | false =>
      go_wp2
      go_ret
      exact ⟨by rw [HZ.out]; rfl, up_alloc _ _⟩
    | true =>
      go_wp2_with fail
      refine (c3 _).mono ?_
      rintro e w1 ⟨rfl, rfl⟩
      cases z3 with
      | false =>
        go_wp2
        go_ret
        exact ⟨by rw [HZ.out]; rfl, up_alloc _ _⟩
      | true =>
        by_cases h4 : (n : Int) ≤ 500
        · go_wp2
          go_ret
          exact ⟨by rw [HZ.out, decide_eq_true (show n ≤ 500 by omega), decide_eq_decide.2 (show ((m : Int) ≤ 500) ↔ m ≤ 500 by omega)]; rfl, up_alloc _ _⟩
        · go_wp2
          go_ret
          exact ⟨by rw [HZ.out, decide_eq_false (show ¬ n ≤ 500 by omega)]; rfl, up_alloc _ _⟩
theorem ms_cells {W : World} {g : Nat} {τ : TypeId} {a0 a1 a2 a3 a4 a5 a6 : Value} (h : W.heap[g]? = some (.cells #[a0, a1, a2, a3, a4, a5, a6] τ (0, 0))) :
    (W.cell? ⟨g, 0, none⟩ = some a0 ∧ W.cell? ⟨g, 1, none⟩ = some a1 ∧ W.cell? ⟨g, 2, none⟩ = some a2 ∧ W.cell? ⟨g, 3, none⟩ = some a3 ∧ W.cell? ⟨g, 4, none⟩ = some a4 ∧ W.cell? ⟨g, 5, none⟩ = some a5 ∧ W.cell? ⟨g, 6, none⟩ = some a6) ∧ (W.frozen? ⟨g, 0, none⟩ = false ∧ W.frozen? ⟨g, 1, none⟩ = false ∧ W.frozen? ⟨g, 2, none⟩ = false ∧ W.frozen? ⟨g, 3, none⟩ = false ∧ W.frozen? ⟨g, 4, none⟩ = false ∧ W.frozen? ⟨g, 5, none⟩ = false ∧ W.frozen? ⟨g, 6, none⟩ = false) := by
  have c : ∀ j u, (#[a0, a1, a2, a3, a4, a5, a6] : Array Value)[j]? = some u → W.cell? ⟨g, j, none⟩ = some u := fun j u hj => by
    unfold World.cell?
    rw [h]
    exact hj
  have fz : ∀ j, W.frozen? ⟨g, j, none⟩ = false := fun j => by
    unfold World.frozen?
    rw [h]
    simp
  exact ⟨⟨c 0 _ rfl, c 1 _ rfl, c 2 _ rfl, c 3 _ rfl, c 4 _ rfl, c 5 _ rfl, c 6 _ rfl⟩, fz 0, fz 1, fz 2, fz 3, fz 4, fz 5, fz 6⟩
theorem rput_any (k f t v s : Int) (pn pv : Option Addr) (n cn m cv : Nat) (N V : List Int) (hv : 0 ≤ v ∧ v < 4294967296) (hs : 0 ≤ s ∧ s < 4294967296) (w : World) (hN : Nums .i64 w (.slice pn n cn) N) (hn : N.length = n) (hV : WdR w pv m V) :
    Calls Try.prog 18 #[MsV k f t v s (.slice pn n cn) (.slice pv m cv)] w fun e w' => ∃ v', e = .returned v' ∧ Own8 w' w.heap.size v' (putG k f t v s N V) ∧ Below w.heap.size w w' := by
  haveI : Nonempty World := ⟨w⟩
  have cg := fun W => rmay_any k f t v s pn pv n cn m cv W
  have hm := hV.1
  by_cases hg : goodG k f t n m
  case neg =>
    rw [decide_eq_false hg] at cg
    have HE : Hid (putG k f t v s N V = []) := if_neg (by rw [hn, hm]; exact hg)
    rw [HE.out]
    clear hg hN hV hn hm
    go_enter Try.func18, Try.ntmps18
    go_wp2_with fail
    refine (cg _).mono ?_
    rintro e w1 ⟨rfl, hB1⟩
    have HB1 : Hid (Below w.heap.size w w1) := bstep (up_alloc w _) hB1
    clear hB1 cg
    go_wp2
    exact bodyPost_ret (v := .slice none 0 0) (by simp [results, Try.results18, go_sem]) rfl ⟨_, rfl, ⟨rfl, .inl ⟨rfl, rfl⟩⟩, HB1.out⟩
  rw [decide_eq_true hg] at cg
  obtain ⟨L, eL⟩ : ∃ L, putG k f t v s N V = L := ⟨_, rfl⟩
  have HE : Hid (encF k f t v s (bodyG N V) = L ∧ n ≤ 500 ∧ m ≤ 500 ∧ N.length = n ∧ V.length = m ∧ Nums .i64 w (.slice pn n cn) N ∧ WdR w pv m V) :=
    ⟨by rw [← eL]; exact (if_pos (by rw [hn, hm]; exact hg)).symm, hg.2.2.2.1, hg.2.2.2.2, hn, hm, hN, hV⟩
  rw [eL]
  have hn5 : (n : Int) ≤ 500 := by have := hg.2.2.2.1; omega
  have hm5 : (m : Int) ≤ 500 := by have := hg.2.2.2.2; omega
  clear hg eL hN hV hn hm
  go_enter Try.func18, Try.ntmps18
  go_wp2_with fail
  generalize hW0 : World.alloc _ _ = W0
  have hA : Below w.heap.size w W0 ∧ W0.heap[w.heap.size]? = some (.cells #[.int .i64 k, .int .i64 f, .int .i64 t, .int .u32 v, .int .u32 s, .slice pn n cn, .slice pv m cv] 35 (0, 0)) := by
    rw [← hW0]
    exact ⟨up_alloc _ _, by show (w.heap.push _)[w.heap.size]? = _; simp⟩
  clear hW0
  refine (cg _).mono ?_
  rintro e w1 ⟨rfl, hB1⟩
  have HB1 : Hid (Below w.heap.size w w1 ∧ w1.heap[w.heap.size]? = some (.cells #[.int .i64 k, .int .i64 f, .int .i64 t, .int .u32 v, .int .u32 s, .slice pn n cn, .slice pv m cv] 35 (0, 0))) := ⟨bstep hA.1 hB1, (hB1.block _ (heap_in8 hA.2)).trans hA.2⟩
  clear hB1 hA cg
  obtain ⟨⟨_, _, _, _, _, x5, _⟩, _⟩ := ms_cells HB1.out.2
  have kx := cell_lt x5
  go_wp2_with fail
  refine (u16_any (.slice none 0 0) [] (by simp) (n : Int) (by omega) w1 (.inl ⟨rfl, rfl⟩)).mono ?_
  rintro e w2 ⟨b2, rfl, ho2, hb2⟩
  have H2 : Hid (Below w1.heap.size w1 w2 ∧ Own8 w2 w1.heap.size b2 (be 2 (n : Int) ++ eN (N.take 0))) := ⟨hb2, ho2⟩
  clear ho2 hb2 x5 kx
  go_wp2_with fail
  go_loopg [3, 4] n (fun gg u vv wr => ∃ i : Nat, i ≤ n ∧ gg = n - i ∧ vv = .int .i64 (i : Int) ∧ Hid (Own8 wr w1.heap.size u (be 2 (n : Int) ++ eN (N.take i)) ∧ Below w1.heap.size w1 wr))
  case atStart => exact ⟨0, by omega, by omega, rfl, hid2 H2.out.2 H2.out.1⟩
  case round =>
    obtain ⟨i, hi, hg, rfl, HI⟩ := hrel
    have hbx := (HI.out.2.block _ (heap_in8 HB1.out.2)).trans HB1.out.2
    obtain ⟨⟨x0, x1, x2, x3, x4, x5, x6⟩, _⟩ := ms_cells hbx
    have kx := cell_lt x5
    clear hbx
    by_cases h : i < n
    · have h' : (i : Int) < (n : Int) := by omega
      obtain ⟨p0, c0, e0, hc⟩ := HE.out.2.2.2.2.2.1.view
      rw [HE.out.2.2.2.1] at e0 hc
      cases e0
      obtain ⟨q, o, rfl, hcell⟩ := hc i h
      replace hcell := still_cell (bstep HB1.out.1 HI.out.2) hcell
      have hn1 := take_next N i (by rw [HE.out.2.2.2.1]; exact h)
      obtain ⟨x, ex⟩ : ∃ x, N.getD i 0 = x := ⟨_, rfl⟩
      rw [ex] at hcell hn1
      obtain ⟨y, ey⟩ : ∃ y, x % 18446744073709551616 = y := ⟨_, rfl⟩
      have ew : IntKind.u64.wrap x = y := by rw [IntKind.wrap_u64, ey]
      have HY : Hid ((0 ≤ y ∧ y < 18446744073709551616) ∧ be 2 (n : Int) ++ eN (N.take i) ++ be 8 y = be 2 (n : Int) ++ eN (N.take (i + 1)) ∧ (be 2 (n : Int) ++ eN (N.take i)).length ≤ 1073741816) := by
        refine ⟨by omega, ?_, ?_⟩
        · rw [hn1, eN_app, ← ey, be8_mod, List.append_assoc]
        · rw [List.length_append, be_len, eN_len, List.length_take]
          omega
      clear hc hn1 ex ey x0 x1 x2 x3 x4 x6
      go_wp2_with fail
      refine (u64_any _ _ HY.out.2.2 y HY.out.1 _ HI.out.1.bytes).mono ?_
      rintro e wr2 ⟨u2, rfl, ho, hb⟩
      rw [HY.out.2.1] at ho
      have HI2 : Hid (Own8 wr2 w1.heap.size u2 (be 2 (n : Int) ++ eN (N.take (i + 1))) ∧ Below w1.heap.size w1 wr2) := hid2 (ho.low HI.out.2.size) (bstep HI.out.2 hb)
      clear ho hb HI
      go_wp2
      go_roundg (n - (i + 1))
      case measure => omega
      case rel => exact ⟨i + 1, by omega, rfl, by first | rfl | simp, HI2⟩
    · have hin : n = i := by omega
      subst hin
      rw [show N.take n = N by rw [← HE.out.2.2.2.1]; exact List.take_length ..] at HI
      go_wp2_with fail
      clear x0 x1 x2 x3 x4 x5 x6 kx h H2
      refine (u16_any _ _ (by rw [List.length_append, be_len, eN_len, HE.out.2.2.2.1]; omega) (m : Int) (by omega) _ HI.out.1.bytes).mono ?_
      rintro e w3 ⟨b3, rfl, ho3, hb3⟩
      have H3 : Hid (Below w1.heap.size w1 w3 ∧ Own8 w3 w1.heap.size b3 (be 2 (n : Int) ++ eN N ++ be 2 (m : Int) ++ eW (V.take 0))) := hid2 (bstep HI.out.2 hb3) (by rw [List.take_zero, show eW [] = [] from rfl, List.append_nil]; exact ho3.low HI.out.2.size)
      clear ho3 hb3 HI
      go_wp2_with fail
      go_loopg [3, 5] m (fun gg u vv wr => ∃ i : Nat, i ≤ m ∧ gg = m - i ∧ vv = .int .i64 (i : Int) ∧ Hid (Own8 wr w1.heap.size u (be 2 (n : Int) ++ eN N ++ be 2 (m : Int) ++ eW (V.take i)) ∧ Below w1.heap.size w1 wr))
      case atStart => exact ⟨0, by omega, by omega, rfl, hid2 H3.out.2 H3.out.1⟩
      case round =>
        obtain ⟨i, hi, hg, rfl, HI⟩ := hrel
        have hbx := (HI.out.2.block _ (heap_in8 HB1.out.2)).trans HB1.out.2
        obtain ⟨⟨x0, x1, x2, x3, x4, x5, x6⟩, _⟩ := ms_cells hbx
        have kx := cell_lt x5
        clear hbx
        by_cases h : i < m
        · have h' : (i : Int) < (m : Int) := by omega
          obtain ⟨q, o, rfl, hc1, hc2⟩ := HE.out.2.2.2.2.2.2.2.2 i h
          replace hc1 := still_cell (bstep HB1.out.1 HI.out.2) hc1
          replace hc2 := still_cell (bstep HB1.out.1 HI.out.2) hc2
          have hn1 := take_next V i (by rw [HE.out.2.2.2.2.1]; exact h)
          have hw := wput_any (V.getD i 0) (HE.out.2.2.2.2.2.2.2.1 _ (by rw [List.getD_eq_getElem?_getD, List.getElem?_eq_getElem (by rw [HE.out.2.2.2.2.1]; exact h)]; exact List.getElem_mem _)) wr
          obtain ⟨x, ex⟩ : ∃ x, V.getD i 0 = x := ⟨_, rfl⟩
          rw [ex] at hc1 hc2 hn1 hw
          unfold wd at hw
          obtain ⟨y1, ey1⟩ : ∃ y, x / 18446744073709551616 = y := ⟨_, rfl⟩
          obtain ⟨y2, ey2⟩ : ∃ y, x % 18446744073709551616 = y := ⟨_, rfl⟩
          rw [ey1] at hc1 hw
          rw [ey2] at hc2 hw
          have hc3 : wr.cell? ⟨q, o + (i * 2 + 1), none⟩ = some (.int .u64 y2) := by rw [← Nat.add_assoc]; exact hc2
          have HY : Hid (be 2 (n : Int) ++ eN N ++ be 2 (m : Int) ++ eW (V.take i) ++ be 16 x = be 2 (n : Int) ++ eN N ++ be 2 (m : Int) ++ eW (V.take (i + 1)) ∧ (be 2 (n : Int) ++ eN N ++ be 2 (m : Int) ++ eW (V.take i)).length + (be 16 x).length ≤ 1073741824) := by
            refine hid2 ?_ ?_
            · rw [hn1, eW_app, List.append_assoc]
            · rw [List.length_append, List.length_append, List.length_append, be_len, be_len, be_len, eN_len, eW_len, List.length_take, HE.out.2.2.2.1]
              omega
          have HW := hid2 hw hw
          clear hn1 ex ey1 ey2 x0 x1 x2 x3 x4 x5 hw
          go_wp2_with fail
          refine HW.out.1.mono ?_
          rintro e wr2 ⟨u2, rfl, ho, hb⟩
          have HI2 : Hid (Own8 wr2 w1.heap.size u3 (be 2 (n : Int) ++ eN N ++ be 2 (m : Int) ++ eW (V.take i)) ∧ Below w1.heap.size w1 wr2 ∧ Bytes wr2 u2 (be 16 x)) := hid2 (Own8.up HI.out.1 hb) ⟨bstep HI.out.2 hb, ho.bytes⟩
          clear ho hb HI HW
          go_wp2_with (at_builtin; refine wpList_append8 rfl (.tmp 40) (.tmp 46) rfl w1.heap.size _ _ rfl HI2.out.1 _ (be 16 x) rfl HI2.out.2.2 HY.out.2 HI2.out.2.1.size w1 HI2.out.2.1 ?_; intro u4 W6 HO6 B6; have HB6 := hid2 B6 B6; clear B6)
          have HI3 : Hid (Own8 W6 w1.heap.size u4 (be 2 (n : Int) ++ eN N ++ be 2 (m : Int) ++ eW (V.take (i + 1))) ∧ Below w1.heap.size w1 W6) := hid2 (by rw [← HY.out.1]; exact HO6.out) HB6.out.1
          clear HO6 HB6 HI2
          go_roundg (m - (i + 1))
          case measure => omega
          case rel => exact ⟨i + 1, by omega, rfl, by first | rfl | simp, HI3⟩
        · have hin : m = i := by omega
          subst hin
          rw [show V.take m = V by rw [← HE.out.2.2.2.2.1]; exact List.take_length ..] at HI
          obtain ⟨pa, na, ca, rfl⟩ := own8_sl HI.out.1
          go_wp2_with fail
          have hbd : be 2 (n : Int) ++ eN N ++ be 2 (m : Int) ++ eW V = bodyG N V := by
            unfold bodyG
            rw [HE.out.2.2.2.1, HE.out.2.2.2.2.1, List.append_assoc, List.append_assoc]
          have hO := HI.out.1
          rw [hbd] at hO
          have hna : (bodyG N V).length = na := by
            obtain ⟨_, _, e, _⟩ := hO.bytes.view
            cases e
            rfl
          have c := rfenc_any k f t v s pa na ca (bodyG N V) hv hs (bodyG_by N V) wr hO.bytes hna
          rw [HE.out.1] at c
          refine c.mono ?_
          rintro e w9 ⟨v9, rfl, ho, hb⟩
          have hbw : Below w.heap.size w wr := bstep HB1.out.1 HI.out.2
          have H9 : Hid (Own8 w9 w.heap.size v9 L ∧ Below w.heap.size w w9) := hid2 (ho.low hbw.size) (bstep hbw hb)
          clear c ho hb hbw hO hbd hna
          go_wp2
          exact bodyPost_ret (v := v9) (by simp [results, Try.results18, go_sem]) rfl ⟨_, rfl, H9.out⟩
end Go.Proofs.Ythmpfdkbpdbhnaa.Wd
