/- The program's messages: body, Put. -/
import Derived.Test.YthmpfdkbpdbhnaaMqA
import Derived.Test.YthmpfdkbpdbhnaaWpk
namespace Go.Proofs.Ythmpfdkbpdbhnaa.Wd
open Go.RowKit
set_option linter.unusedVariables false
set_option linter.unusedSimpArgs false
set_option maxRecDepth 8000
set_option maxHeartbeats 4000000
theorem pbody_any (k f t v s : Int) (pn pv : Option Addr) (n cn m cv : Nat) (N V : List Int) (hn5 : n ≤ 500) (hm5 : m ≤ 500) (w : World) (hR : MsgR w pn n cn pv m cv N V) :
    Calls Try.prog 26 #[MsV k f t v s (.slice pn n cn) (.slice pv m cv)] w fun e w' => ∃ v', e = .returned v' ∧ Own8 w' w.heap.size v' (bodyG N V) ∧ Below w.heap.size w w' := by
  haveI : Nonempty World := ⟨w⟩
  have HE : Hid (n ≤ 500 ∧ m ≤ 500 ∧ N.length = n ∧ V.length = m ∧ Nums .i64 w (.slice pn n cn) N ∧ WdR w pv m V) := ⟨hn5, hm5, hR.nlen, hR.wds.1, hR.nums, hR.wds⟩
  replace hn5 : (n : Int) ≤ 500 := by omega
  replace hm5 : (m : Int) ≤ 500 := by omega
  clear hR
  go_enter Try.func26, Try.ntmps26
  go_wp2_with fail
  generalize hW0 : World.alloc _ _ = w1
  have HB1 : Hid (Below w.heap.size w w1 ∧ w1.heap[w.heap.size]? = some (.cells #[.int .i64 k, .int .i64 f, .int .i64 t, .int .u32 v, .int .u32 s, .slice pn n cn, .slice pv m cv] 27 (0, 0))) := by
    rw [← hW0]
    exact ⟨up_alloc _ _, by show (w.heap.push _)[w.heap.size]? = _; simp⟩
  clear hW0
  refine (pu16_any (.slice none 0 0) [] (by simp) (n : Int) (by omega) w1 (.inl ⟨rfl, rfl⟩)).mono ?_
  rintro e w2 ⟨b2, rfl, ho2, hb2⟩
  rw [List.nil_append] at ho2
  have H2 : Hid (Below w1.heap.size w1 w2 ∧ Own8 w2 w1.heap.size b2 (be 2 (n : Int) ++ eN (N.take 0))) := ⟨hb2, by rw [List.take_zero, show eN [] = [] from rfl, List.append_nil]; exact ho2⟩
  obtain ⟨⟨_, _, _, _, _, x5, _⟩, _⟩ := ms_cells ((hb2.block _ (heap_in8 HB1.out.2)).trans HB1.out.2)
  have kx := cell_lt x5
  clear ho2 hb2
  go_wp2_with fail
  clear x5 kx
  go_loopg [3, 15] n (fun gg u vv wr => ∃ i : Nat, i ≤ n ∧ gg = n - i ∧ vv = .int .i64 (i : Int) ∧ Hid (Own8 wr w1.heap.size u (be 2 (n : Int) ++ eN (N.take i)) ∧ Below w1.heap.size w1 wr))
  case atStart => exact ⟨0, by omega, by omega, rfl, hid2 H2.out.2 H2.out.1⟩
  case round =>
    obtain ⟨i, hi, hg, rfl, HI⟩ := hrel
    by_cases h : i < n
    · have h' : (i : Int) < (n : Int) := by omega
      obtain ⟨p0, c0, e0, hc⟩ := HE.out.2.2.2.2.1.view
      rw [HE.out.2.2.1] at e0 hc
      cases e0
      obtain ⟨q, o, rfl, hcell⟩ := hc i h
      replace hcell := still_cell (bstep HB1.out.1 HI.out.2) hcell
      have hn1 := take_next N i (by rw [HE.out.2.2.1]; exact h)
      obtain ⟨x, ex⟩ : ∃ x, N.getD i 0 = x := ⟨_, rfl⟩
      rw [ex] at hcell hn1
      obtain ⟨y, ey⟩ : ∃ y, x % 18446744073709551616 = y := ⟨_, rfl⟩
      have ew : IntKind.u64.wrap x = y := by rw [IntKind.wrap_u64, ey]
      have HY : Hid ((0 ≤ y ∧ y < 18446744073709551616) ∧ be 2 (n : Int) ++ eN (N.take i) ++ be 8 y = (be 2 (n : Int) ++ eN (N.take (i + 1))) ∧ (be 2 (n : Int) ++ eN (N.take i)).length + (be 8 y).length ≤ 1073741824) := by
        refine ⟨by omega, ?_, ?_⟩
        · rw [hn1, eN_app, ← ey, be8_mod, List.append_assoc]
        · rw [List.length_append, be_len, be_len, eN_len, List.length_take]
          omega
      clear hc hn1 ex ey
      go_wp2_with fail
      refine (pu64_any (.slice none 0 0) [] (by simp) y HY.out.1 _ (.inl ⟨rfl, rfl⟩)).mono ?_
      rintro e wr2 ⟨u2, rfl, ho, hb⟩
      rw [List.nil_append] at ho
      have HI2 : Hid (Own8 wr2 w1.heap.size u3 (be 2 (n : Int) ++ eN (N.take i)) ∧ Below w1.heap.size w1 wr2 ∧ Bytes wr2 u2 (be 8 y)) := hid2 (Own8.up HI.out.1 hb) ⟨bstep HI.out.2 hb, ho.bytes⟩
      clear ho hb HI
      go_wp2_with (at_builtin; refine wpList_append8 rfl (.tmp 19) (.tmp 22) rfl w1.heap.size _ _ rfl HI2.out.1 _ (be 8 y) rfl HI2.out.2.2 HY.out.2.2 HI2.out.2.1.size w1 HI2.out.2.1 ?_; intro u4 W6 HO6 B6; have HB6 := hid2 B6 B6; clear B6)
      have HI3 : Hid (Own8 W6 w1.heap.size u4 ((be 2 (n : Int) ++ eN (N.take (i + 1)))) ∧ Below w1.heap.size w1 W6) := hid2 (by rw [← HY.out.2.1]; exact HO6.out) HB6.out.1
      clear HO6 HB6 HI2
      go_roundg (n - (i + 1))
      case measure => omega
      case rel => exact ⟨i + 1, by omega, rfl, by first | rfl | simp, HI3⟩
    · have hin : n = i := by omega
      subst hin
      rw [show N.take n = N by rw [← HE.out.2.2.1]; exact List.take_length ..] at HI
      clear h H2
      obtain ⟨⟨_, _, _, _, _, _, x6⟩, _⟩ := ms_cells ((HI.out.2.block _ (heap_in8 HB1.out.2)).trans HB1.out.2)
      have kx := cell_lt x6
      go_wp2_with fail
      clear x6 kx
      refine (pu16_any (.slice none 0 0) [] (by simp) (m : Int) (by omega) wr (.inl ⟨rfl, rfl⟩)).mono ?_
      rintro e w3 ⟨b3, rfl, ho3, hb3⟩
      rw [List.nil_append] at ho3
      have H3 : Hid (Below w1.heap.size w1 w3 ∧ Own8 w3 w1.heap.size u3 (be 2 (n : Int) ++ eN N) ∧ Bytes w3 b3 (be 2 (m : Int)) ∧ (be 2 (n : Int) ++ eN N).length + (be 2 (m : Int)).length ≤ 1073741824) := hid2 (bstep HI.out.2 hb3) ⟨Own8.up HI.out.1 hb3, ho3.bytes, by rw [List.length_append, be_len, be_len, eN_len, HE.out.2.2.1]; omega⟩
      clear ho3 hb3 HI
      obtain ⟨⟨_, _, _, _, _, _, x6⟩, _⟩ := ms_cells ((H3.out.1.block _ (heap_in8 HB1.out.2)).trans HB1.out.2)
      have kx := cell_lt x6
      go_wp2_with (at_builtin; refine wpList_append8 rfl (.tmp 25) (.tmp 29) rfl w1.heap.size _ _ rfl H3.out.2.1 _ (be 2 (m : Int)) rfl H3.out.2.2.1 H3.out.2.2.2 H3.out.1.size w1 H3.out.1 ?_; intro u4 W4 HO4 B4; have HB4 := hid2 B4 B4; clear B4 x6 kx; obtain ⟨⟨_, _, _, _, _, _, x6⟩, _⟩ := ms_cells ((HB4.out.1.block _ (heap_in8 HB1.out.2)).trans HB1.out.2); have kx := cell_lt x6)
      have H4 : Hid (Below w1.heap.size w1 W4 ∧ Own8 W4 w1.heap.size u4 (be 2 (n : Int) ++ eN N ++ be 2 (m : Int) ++ eW (V.take 0))) := hid2 HB4.out.1 (by rw [List.take_zero, show eW [] = [] from rfl, List.append_nil]; exact HO4.out)
      clear HO4 HB4 H3 x6 kx
      go_loopg [3, 34] m (fun gg u vv wr => ∃ i : Nat, i ≤ m ∧ gg = m - i ∧ vv = .int .i64 (i : Int) ∧ Hid (Own8 wr w1.heap.size u (be 2 (n : Int) ++ eN N ++ be 2 (m : Int) ++ eW (V.take i)) ∧ Below w1.heap.size w1 wr))
      case atStart => exact ⟨0, by omega, by omega, rfl, hid2 H4.out.2 H4.out.1⟩
      case round =>
        obtain ⟨i, hi, hg, rfl, HI⟩ := hrel
        by_cases h : i < m
        · have h' : (i : Int) < (m : Int) := by omega
          obtain ⟨q, o, rfl, hc1, hc2⟩ := HE.out.2.2.2.2.2.2.2 i h
          replace hc1 := still_cell (bstep HB1.out.1 HI.out.2) hc1
          replace hc2 := still_cell (bstep HB1.out.1 HI.out.2) hc2
          have hn1 := take_next V i (by rw [HE.out.2.2.2.1]; exact h)
          have hw := fun W => put_any (V.getD i 0) (HE.out.2.2.2.2.2.2.1 _ (by rw [List.getD_eq_getElem?_getD, List.getElem?_eq_getElem (by rw [HE.out.2.2.2.1]; exact h)]; exact List.getElem_mem _)) W
          obtain ⟨x, ex⟩ : ∃ x, V.getD i 0 = x := ⟨_, rfl⟩
          rw [ex] at hc1 hc2 hn1 hw
          unfold wd at hw
          obtain ⟨y1, ey1⟩ : ∃ y, x / 18446744073709551616 = y := ⟨_, rfl⟩
          obtain ⟨y2, ey2⟩ : ∃ y, x % 18446744073709551616 = y := ⟨_, rfl⟩
          rw [ey1] at hc1 hw
          rw [ey2] at hc2 hw
          have hc3 : wr.cell? ⟨q, o + (i * 2 + 1), none⟩ = some (.int .u64 y2) := by rw [← Nat.add_assoc]; exact hc2
          have HY : Hid (be 2 (n : Int) ++ eN N ++ be 2 (m : Int) ++ eW (V.take i) ++ be 16 x = (be 2 (n : Int) ++ eN N ++ be 2 (m : Int) ++ eW (V.take (i + 1))) ∧ (be 2 (n : Int) ++ eN N ++ be 2 (m : Int) ++ eW (V.take i)).length + (be 16 x).length ≤ 1073741824) := by
            refine hid2 ?_ ?_
            · rw [hn1, eW_app, List.append_assoc]
            · rw [List.length_append, List.length_append, List.length_append, be_len, be_len, be_len, eN_len, eW_len, List.length_take, HE.out.2.2.1]
              omega
          have HW := hid2 hw hw
          clear hn1 ex ey1 ey2 hw
          go_wp2_with fail
          refine (HW.out.1 _).mono ?_
          rintro e wr2 ⟨bx, rfl, _, ho, hb0⟩
          have hb : Below wr.heap.size wr wr2 := bstep (up_alloc _ _) hb0
          have HI2 : Hid (Own8 wr2 w1.heap.size u3 (be 2 (n : Int) ++ eN N ++ be 2 (m : Int) ++ eW (V.take i)) ∧ Below w1.heap.size w1 wr2 ∧ Bytes wr2 (.slice (some ⟨bx, 0, none⟩) 16 16) (be 16 x)) := hid2 (Own8.up HI.out.1 hb) ⟨bstep HI.out.2 hb, ho⟩
          clear ho hb hb0 HI HW
          go_wp2_with (at_builtin; refine wpList_append8 rfl (.tmp 38) (.tmp 40) rfl w1.heap.size _ _ rfl HI2.out.1 _ (be 16 x) rfl HI2.out.2.2 HY.out.2 HI2.out.2.1.size w1 HI2.out.2.1 ?_; intro u7 W6 HO6 B6; have HB6 := hid2 B6 B6; clear B6)
          have HI3 : Hid (Own8 W6 w1.heap.size u7 ((be 2 (n : Int) ++ eN N ++ be 2 (m : Int) ++ eW (V.take (i + 1)))) ∧ Below w1.heap.size w1 W6) := hid2 (by rw [← HY.out.1]; exact HO6.out) HB6.out.1
          clear HO6 HB6 HI2
          go_roundg (m - (i + 1))
          case measure => omega
          case rel => exact ⟨i + 1, by omega, rfl, by first | rfl | simp, HI3⟩
        · have hin : m = i := by omega
          subst hin
          rw [show V.take m = V by rw [← HE.out.2.2.2.1]; exact List.take_length ..] at HI
          have hO := HI.out.1
          rw [show be 2 (n : Int) ++ eN N ++ be 2 (m : Int) ++ eW V = bodyG N V by
            unfold bodyG
            rw [HE.out.2.2.1, HE.out.2.2.2.1, List.append_assoc, List.append_assoc]] at hO
          have H9 : Hid (Own8 wr w.heap.size u3 (bodyG N V) ∧ Below w.heap.size w wr) := hid2 (hO.low HB1.out.1.size) (bstep HB1.out.1 HI.out.2)
          clear hO HI
          go_wp2
          exact bodyPost_ret (v := u3) (by simp [results, Try.results26, go_sem]) rfl ⟨_, rfl, H9.out⟩
theorem pmput_any (k f t v s : Int) (pn pv : Option Addr) (n cn m cv : Nat) (N V : List Int) (hv : 0 ≤ v ∧ v < 4294967296) (hs : 0 ≤ s ∧ s < 4294967296) (w : World) (hR : MsgR w pn n cn pv m cv N V) :
    Calls Try.prog 10 #[MsV k f t v s (.slice pn n cn) (.slice pv m cv)] w fun e w' => ∃ v', e = .returned v' ∧ Own8 w' w.heap.size v' (putG k f t v s N V) ∧ Below w.heap.size w w' := by
  haveI : Nonempty World := ⟨w⟩
  have hn := hR.nlen
  have hm := hR.wds.1
  have cg := fun W => pmgood_any k f t v s pn pv n cn m cv W
  by_cases hg : goodG k f t n m
  case neg =>
    rw [decide_eq_false hg] at cg
    have HE : Hid (putG k f t v s N V = []) := if_neg (by rw [hn, hm]; exact hg)
    rw [HE.out]
    clear hg hR hn hm
    go_enter Try.func10, Try.ntmps10
    go_wp2_with fail
    refine (cg _).mono ?_
    rintro e w1 ⟨rfl, hB1⟩
    have HB1 : Hid (Below w.heap.size w w1) := bstep (up_alloc w _) hB1
    clear hB1 cg
    go_wp2
    exact bodyPost_ret (v := .slice none 0 0) (by simp [results, Try.results10, go_sem]) rfl ⟨_, rfl, ⟨rfl, .inl ⟨rfl, rfl⟩⟩, HB1.out⟩
  rw [decide_eq_true hg] at cg
  obtain ⟨L, eL⟩ : ∃ L, putG k f t v s N V = L := ⟨_, rfl⟩
  have HE : Hid (encF k f t v s (bodyG N V) = L) := by rw [← eL]; exact (if_pos (by rw [hn, hm]; exact hg)).symm
  have HC : Hid (∀ W, Below w.heap.size w W → _) := fun W hW => pbody_any k f t v s pn pv n cn m cv N V hg.2.2.2.1 hg.2.2.2.2 W (hR.up hW)
  rw [eL]
  clear hg eL hR hn hm
  go_enter Try.func10, Try.ntmps10
  go_wp2_with fail
  generalize hW0 : World.alloc _ _ = W0
  have hA : Below w.heap.size w W0 ∧ W0.heap[w.heap.size]? = some (.cells #[.int .i64 k, .int .i64 f, .int .i64 t, .int .u32 v, .int .u32 s, .slice pn n cn, .slice pv m cv] 27 (0, 0)) := by
    rw [← hW0]
    exact ⟨up_alloc _ _, by show (w.heap.push _)[w.heap.size]? = _; simp⟩
  clear hW0
  refine (cg _).mono ?_
  rintro e w1 ⟨rfl, hB1⟩
  have HB1 : Hid (Below w.heap.size w w1 ∧ w1.heap[w.heap.size]? = some (.cells #[.int .i64 k, .int .i64 f, .int .i64 t, .int .u32 v, .int .u32 s, .slice pn n cn, .slice pv m cv] 27 (0, 0))) := ⟨bstep hA.1 hB1, (hB1.block _ (heap_in8 hA.2)).trans hA.2⟩
  clear hB1 hA cg
  obtain ⟨⟨x0, x1, x2, x3, x4, x5, x6⟩, _⟩ := ms_cells HB1.out.2
  have kx := cell_lt x5
  go_wp2_with fail
  refine rel [⟨2, 8, fun v W => Own8 W w1.heap.size v (bodyG N V)⟩] 3 11 (by kernel_rfl) rfl rfl (by kernel_rfl) (by rfl) ?_ ?_
  · intro e he v W W' h hb
    simp only [List.mem_cons, List.not_mem_nil, or_false] at he
    rcases he with rfl
    exact Own8.up h hb
  apply Exists.intro
  refine ⟨fun x => ?_, ?_, ?_⟩
  · simp only [List.take_succ_cons, List.take_zero]
    refine relQuiet rfl rfl ?_
    apply Exists.intro
    refine ⟨fun F hF hf K hK => ?_, ?_⟩
    · have hFc := hF.cell
      have hFf := hF.frozen
      go_big_quiet_op
      first | exact hK | (apply Exists.intro; refine ⟨fun _ => ?_, ?_⟩; (· fail); exact hK)
    (try simp only [Act.put, List.setIfInBounds_toArray, List.set_cons_zero, List.set_cons_succ])
    refine relQuiet rfl rfl ?_
    apply Exists.intro
    refine ⟨fun F hF hf K hK => ?_, ?_⟩
    · have hFc := hF.cell
      have hFf := hF.frozen
      go_big_quiet_op
      first | exact hK | (apply Exists.intro; refine ⟨fun _ => ?_, ?_⟩; (· fail); exact hK)
    (try simp only [Act.put, List.setIfInBounds_toArray, List.set_cons_zero, List.set_cons_succ])
    refine relTold rfl rfl ?_ ?_
    · intro F hF hf d
      have hFc := hF.cell
      have hFf := hF.frozen
      simp [yieldsR, yieldsUpon, go_sem]
      refine (HC.out _ (HB1.out.1.trans ((hF.below d).mono HB1.out.1.size))).mono ?_
      rintro e' w8 ⟨v8, rfl, h8, hb8⟩
      exact ⟨_, rfl, h8.low ((hF.below d).size), hb8⟩
    (try simp only [Act.put, List.setIfInBounds_toArray, List.set_cons_zero, List.set_cons_succ])
    refine relEnd ?_
    exact rfl
  · exact fun x => rfl
  · intro W4 xs hB4 hf
    simp only [List.drop_succ_cons, List.drop_zero]
    have h8 := hf _ List.mem_cons_self
    obtain ⟨x8, ex8⟩ : ∃ q, xs 2 = q := ⟨_, rfl⟩
    simp only [ex8] at h8
    simp only [ex8]
    obtain ⟨pb, cb, rfl, hcb⟩ := own8_form h8
    have H4 : Hid (Own8 W4 w1.heap.size (.slice pb (bodyG N V).length cb) (bodyG N V) ∧ Below w.heap.size w W4) := ⟨h8, bstep HB1.out.1 hB4⟩
    clear hf h8 hB4 ex8 x0 x1 x2 x3 x4 x5 x6 kx HB1 HC
    go_wp2_with fail
    refine (pframed_any k f t v s pn pv pb n cn m cv (bodyG N V).length cb W4).mono ?_
    rintro e W5 ⟨rfl, hb⟩
    have H5 : Hid (Bytes W5 (.slice pb (bodyG N V).length cb) (bodyG N V) ∧ Below w.heap.size w W5) := ⟨(Own8.up H4.out.1 hb).bytes, bstep H4.out.2 hb⟩
    clear hb H4
    unfold FrV
    go_wp2_with fail
    have c := pfenc_any k f t v s pb (bodyG N V).length cb (bodyG N V) hv hs (bodyG_by N V) W5 H5.out.1 rfl
    rw [HE.out] at c
    refine c.mono ?_
    rintro e w9 ⟨v9, rfl, ho, hb⟩
    have H9 : Hid (Own8 w9 w.heap.size v9 L ∧ Below w.heap.size w w9) := hid2 (ho.low H5.out.2.size) (bstep H5.out.2 hb)
    clear c ho hb H5
    go_wp2
    exact bodyPost_ret (v := v9) (by simp [results, Try.results10, go_sem]) rfl ⟨_, rfl, H9.out⟩
end Go.Proofs.Ythmpfdkbpdbhnaa.Wd
