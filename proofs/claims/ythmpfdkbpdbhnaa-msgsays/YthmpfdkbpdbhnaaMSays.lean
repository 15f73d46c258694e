/- MsgSays: any bytes are a message or none, any message is bytes or nothing, as the document says. -/
import Derived.Test.YthmpfdkbpdbhnaaMsS
import Derived.Test.YthmpfdkbpdbhnaaMsW
import Derived.Test.YthmpfdkbpdbhnaaMsO
namespace Go.Proofs.Ythmpfdkbpdbhnaa.Wd
open Go.RowKit
set_option linter.unusedVariables false
set_option linter.unusedSimpArgs false
set_option maxRecDepth 20000
set_option maxHeartbeats 8000000
theorem msays_walk (w : World) (zb : Nat → Int) (nb cc : Nat) (pp : Option Addr) (k1 f1 t1 v1 s1 : Int) (z1 : Nat → Int) (n1 cn1 : Nat) (pn1 : Option Addr) (V1 : List Int) (m1 cv1 : Nat) (pv1 : Option Addr) (k2 f2 t2 v2 s2 : Int) (z2 : Nat → Int) (n2 cn2 : Nat) (pn2 : Option Addr) (V2 : List Int) (m2 cv2 : Nat) (pv2 : Option Addr)
    (hrb : RowN .u8 w pp nb cc zb) (hv1 : 0 ≤ v1 ∧ v1 < 4294967296) (hs1 : 0 ≤ s1 ∧ s1 < 4294967296) (hr1 : RowN .i64 w pn1 n1 cn1 z1) (hw1 : WdsN w pv1 m1 cv1 V1) (hv2 : 0 ≤ v2 ∧ v2 < 4294967296) (hs2 : 0 ≤ s2 ∧ s2 < 4294967296) (hr2 : RowN .i64 w pn2 n2 cn2 z2) (hw2 : WdsN w pv2 m2 cv2 V2) :
    Calls Try.prog 4 #[.slice pp nb cc, MsV k1 f1 t1 v1 s1 (.slice pn1 n1 cn1) (.slice pv1 m1 cv1), MsV k2 f2 t2 v2 s2 (.slice pn2 n2 cn2) (.slice pv2 m2 cv2)] w fun e w' => e = .returned (.bool true) ∧ Below w.heap.size w w' := by
  haveI : Nonempty World := ⟨w⟩
  have hcc : nb ≤ cc := hrb.1.1
  obtain ⟨N1, eN1⟩ : ∃ l, nlst n1 z1 = l := ⟨_, rfl⟩
  have HR1 : Hid (MsgR w pn1 n1 cn1 pv1 m1 cv1 N1 V1 ∧ (0 ≤ v1 ∧ v1 < 4294967296) ∧ (0 ≤ s1 ∧ s1 < 4294967296)) := ⟨by rw [← eN1]; exact msgR_in hr1 hw1, hv1, hs1⟩
  clear eN1 hr1 hw1 hv1 hs1
  obtain ⟨N2, eN2⟩ : ∃ l, nlst n2 z2 = l := ⟨_, rfl⟩
  have HR2 : Hid (MsgR w pn2 n2 cn2 pv2 m2 cv2 N2 V2 ∧ (0 ≤ v2 ∧ v2 < 4294967296) ∧ (0 ≤ s2 ∧ s2 < 4294967296)) := ⟨by rw [← eN2]; exact msgR_in hr2 hw2, hv2, hs2⟩
  clear eN2 hr2 hw2 hv2 hs2
  obtain ⟨l, el⟩ : ∃ l, lst nb zb = l := ⟨_, rfl⟩
  have HL : Hid (Bytes w (.slice pp nb cc) l ∧ By8 l ∧ l.length = nb) := by
    rw [← el]
    exact ⟨hrb.bytes, hrb.rng, lst_len _ _⟩
  clear el hrb
  go_enter Try.func4, Try.ntmps4
  go_wp2_with fail
  generalize hW0 : World.alloc _ _ = W0
  have H0 : Hid (Below w.heap.size w W0 ∧ W0.heap[w.heap.size]? = some (.cells #[.int .i64 k1, .int .i64 f1, .int .i64 t1, .int .u32 v1, .int .u32 s1, .slice pn1 n1 cn1, .slice pv1 m1 cv1] 27 (0, 0)) ∧ W0.heap[w.heap.size + 1]? = some (.cells #[.int .i64 k2, .int .i64 f2, .int .i64 t2, .int .u32 v2, .int .u32 s2, .slice pn2 n2 cn2, .slice pv2 m2 cv2] 27 (0, 0))) := by
    rw [← hW0]
    refine ⟨bstep (up_alloc _ _) (up_alloc _ _), ?_, ?_⟩
    · show ((w.heap.push _).push _)[w.heap.size]? = _
      rw [Array.getElem?_push_lt (by simp)]
      simp
    · have h := (Array.getElem?_push_size : ((w.heap.push (.cells #[.int .i64 k1, .int .i64 f1, .int .i64 t1, .int .u32 v1, .int .u32 s1, .slice pn1 n1 cn1, .slice pv1 m1 cv1] 27 (0, 0))).push (.cells #[.int .i64 k2, .int .i64 f2, .int .i64 t2, .int .u32 v2, .int .u32 s2, .slice pn2 n2 cn2, .slice pv2 m2 cv2] 27 (0, 0)))[(w.heap.push (.cells #[.int .i64 k1, .int .i64 f1, .int .i64 t1, .int .u32 v1, .int .u32 s1, .slice pn1 n1 cn1, .slice pv1 m1 cv1] 27 (0, 0))).size]? = some _)
      rw [Array.size_push] at h
      exact h
  clear hW0
  have HX : Hid (∀ W, Below W0.heap.size W0 W → Below w.heap.size w W ∧ W.heap[w.heap.size]? = some (.cells #[.int .i64 k1, .int .i64 f1, .int .i64 t1, .int .u32 v1, .int .u32 s1, .slice pn1 n1 cn1, .slice pv1 m1 cv1] 27 (0, 0)) ∧ W.heap[w.heap.size + 1]? = some (.cells #[.int .i64 k2, .int .i64 f2, .int .i64 t2, .int .u32 v2, .int .u32 s2, .slice pn2 n2 cn2, .slice pv2 m2 cv2] 27 (0, 0))) := fun W hW => ⟨bstep H0.out.1 hW, (hW.block _ (heap_in8 H0.out.2.1)).trans H0.out.2.1, (hW.block _ (heap_in8 H0.out.2.2)).trans H0.out.2.2⟩
  refine (awake19_any W0).mono ?_
  rintro e w1 ⟨rfl, hB⟩
  have H1 : Hid (Below W0.heap.size W0 w1) := hB
  clear hB
  by_cases b1 : 2000 < nb
  · have : (2000 : Int) < (nb : Int) := by omega
    go_wp2
    go_ret
    exact ⟨rfl, (HX.out w1 H1.out).1⟩
  have b1' : (nb : Int) ≤ 2000 := by omega
  obtain ⟨⟨x0, x1, x2, x3, x4, x5, x6⟩, _⟩ := ms_cells (HX.out w1 H1.out).2.1
  have kx := cell_lt x0
  go_wp2_with fail
  refine (mheavy_any k1 f1 t1 v1 s1 pn1 pv1 n1 cn1 m1 cv1 w1).mono ?_
  rintro e w2 ⟨rfl, hB⟩
  have H2 : Hid (Below W0.heap.size W0 w2) := bstep H1.out hB
  clear hB H1 x0 x1 x2 x3 x4 x5 x6 kx
  by_cases hh1 : 520 < n1 ∨ 520 < m1
  case pos =>
    rw [decide_eq_true hh1]
    go_wp2
    go_ret
    exact ⟨rfl, (HX.out w2 H2.out).1⟩
  rw [decide_eq_false hh1]
  obtain ⟨⟨x0, x1, x2, x3, x4, x5, x6⟩, _⟩ := ms_cells (HX.out w2 H2.out).2.2
  have kx := cell_lt x0
  go_wp2_with fail
  refine (mheavy_any k2 f2 t2 v2 s2 pn2 pv2 n2 cn2 m2 cv2 w2).mono ?_
  rintro e w3 ⟨rfl, hB⟩
  have H3 : Hid (Below W0.heap.size W0 w3) := bstep H2.out hB
  clear hB H2 x0 x1 x2 x3 x4 x5 x6 kx
  by_cases hh2 : 520 < n2 ∨ 520 < m2
  case pos =>
    rw [decide_eq_true hh2]
    go_wp2
    go_ret
    exact ⟨rfl, (HX.out w3 H3.out).1⟩
  rw [decide_eq_false hh2]
  have hnm : n1 ≤ 520 ∧ m1 ≤ 520 ∧ n2 ≤ 520 ∧ m2 ≤ 520 := by omega
  have HNM := hid2 hnm hnm
  have cG := pmget_any pp nb cc l HL.out.2.1 HL.out.2.2 (by omega) hcc w3 (HL.out.1.up (HX.out w3 H3.out).1)
  have cR : ∀ W, Below w3.heap.size w3 W → _ := fun W hW => rget_any pp nb cc l HL.out.2.1 HL.out.2.2 (by omega) hcc W (HL.out.1.up (bstep (HX.out w3 H3.out).1 hW))
  obtain ⟨A1, eA1⟩ : ∃ x, qI l (uK l) = x := ⟨_, rfl⟩
  obtain ⟨A2, eA2⟩ : ∃ x, qI l (uF l) = x := ⟨_, rfl⟩
  obtain ⟨A3, eA3⟩ : ∃ x, qI l (uT l) = x := ⟨_, rfl⟩
  obtain ⟨A4, eA4⟩ : ∃ x, qI l (uV l) = x := ⟨_, rfl⟩
  obtain ⟨A5, eA5⟩ : ∃ x, qI l (uS l) = x := ⟨_, rfl⟩
  rw [eA1, eA2, eA3, eA4, eA5] at cG cR
  have CR := hid2 cR True.intro
  clear eA1 eA2 eA3 eA4 eA5 hh1 hh2 hnm b1 cR
  go_wp2_with fail
  refine cG.mono ?_
  rintro e w4 ⟨vN, vV, rfl, hN, hV, hB⟩
  obtain ⟨pa, ca, qa, da, rfl, rfl, hR⟩ := msgR_own hN hV (qN_in l)
  have H4 : Hid (Below w3.heap.size w3 w4 ∧ MsgR w4 pa (qN l).length ca qa (qW l).length da (qN l) (qW l)) := ⟨hB, hR⟩
  clear hN hV hR hB cG
  by_cases d : getP l
  · rw [if_pos d]
    go_wp2_with fail
    generalize hW5 : World.alloc _ _ = W5
    have h5 : Below w4.heap.size w4 W5 ∧ W5.heap[w4.heap.size]? = some (.cells #[.int .i64 A1, .int .i64 A2, .int .i64 A3, .int .u32 A4, .int .u32 A5, .slice pa (qN l).length ca, .slice qa (qW l).length da] 27 (0, 0)) := by
      rw [← hW5]
      exact ⟨up_alloc _ _, by show (w4.heap.push _)[w4.heap.size]? = _; simp⟩
    have H5 : Hid (Below w3.heap.size w3 W5 ∧ MsgR W5 pa (qN l).length ca qa (qW l).length da (qN l) (qW l) ∧ W5.heap[w4.heap.size]? = some (.cells #[.int .i64 A1, .int .i64 A2, .int .i64 A3, .int .u32 A4, .int .u32 A5, .slice pa (qN l).length ca, .slice qa (qW l).length da] 27 (0, 0))) := ⟨bstep H4.out.1 h5.1, H4.out.2.up h5.1, h5.2⟩
    clear hW5 h5 H4
    refine (CR.out.1 W5 H5.out.1).mono ?_
    rintro e w6 ⟨vN, vV, rfl, hN, hV, hB⟩
    obtain ⟨pb, cb, qb, db, rfl, rfl, hR⟩ := msgR_own hN hV (qN_in l)
    rw [decide_eq_true d]
    have H6 : Hid (Below w3.heap.size w3 w6 ∧ MsgR w6 pa (qN l).length ca qa (qW l).length da (qN l) (qW l) ∧ MsgR w6 pb (qN l).length cb qb (qW l).length db (qN l) (qW l) ∧ w6.heap[w4.heap.size]? = some (.cells #[.int .i64 A1, .int .i64 A2, .int .i64 A3, .int .u32 A4, .int .u32 A5, .slice pa (qN l).length ca, .slice qa (qW l).length da] 27 (0, 0))) := ⟨bstep H5.out.1 hB, H5.out.2.1.up hB, hR, (hB.block _ (heap_in8 H5.out.2.2)).trans H5.out.2.2⟩
    clear hN hV hR hB H5 CR
    go_wp2_with fail
    generalize hW8 : World.alloc _ _ = W8
    have h8 : Below w6.heap.size w6 W8 ∧ W8.heap[w6.heap.size]? = some (.cells #[.int .i64 A1, .int .i64 A2, .int .i64 A3, .int .u32 A4, .int .u32 A5, .slice pb (qN l).length cb, .slice qb (qW l).length db] 35 (0, 0)) := by
      rw [← hW8]
      exact ⟨up_alloc _ _, by show (w6.heap.push _)[w6.heap.size]? = _; simp⟩
    have hx8 := (h8.1.block _ (heap_in8 H6.out.2.2.2)).trans H6.out.2.2.2
    have H8 : Hid (Below W0.heap.size W0 W8 ∧ MsgR W8 pa (qN l).length ca qa (qW l).length da (qN l) (qW l) ∧ MsgR W8 pb (qN l).length cb qb (qW l).length db (qN l) (qW l)) := ⟨bstep (bstep H3.out H6.out.1) h8.1, H6.out.2.1.up h8.1, H6.out.2.2.1.up h8.1⟩
    obtain ⟨⟨g0, g1, g2, g3, g4, g5, g6⟩, _⟩ := ms_cells hx8
    obtain ⟨⟨i0, i1, i2, i3, i4, i5, i6⟩, _⟩ := ms_cells h8.2
    have kg := cell_lt g0
    have ki := cell_lt i0
    clear hx8 h8 hW8 H6
    obtain ⟨⟨x0, x1, x2, x3, x4, x5, x6⟩, _⟩ := ms_cells (HX.out W8 H8.out.1).2.1
    have kx := cell_lt x0
    obtain ⟨⟨y0, y1, y2, y3, y4, y5, y6⟩, _⟩ := ms_cells (HX.out W8 H8.out.1).2.2
    have ky := cell_lt y0
    have cO1 := fun W => mown_any A1 A2 A3 A4 A5 pa qa (qN l).length ca (qW l).length da W
    have cO2 := fun W => mown_any k1 f1 t1 v1 s1 pn1 pv1 n1 cn1 m1 cv1 W
    have cO3 := fun W => mown_any k2 f2 t2 v2 s2 pn2 pv2 n2 cn2 m2 cv2 W
    have cS1 : Hid (∀ W, Below W8.heap.size W8 W → Calls Try.prog 15 #[MsV A1 A2 A3 A4 A5 (.slice pa (qN l).length ca) (.slice qa (qW l).length da), MsV A1 A2 A3 A4 A5 (.slice pb (qN l).length cb) (.slice qb (qW l).length db)] W fun e w' => e = .returned (.bool true) ∧ Below W.heap.size W w') := fun W hW => by
      have a := H8.out.2.1.up hW
      have b := H8.out.2.2.up hW
      have := rsame18_any A1 A2 A3 A4 A5 A1 A2 A3 A4 A5 pa qa pb qb (qN l).length ca (qW l).length da (qN l).length cb (qW l).length db (qN l) (qW l) (qN l) (qW l) (by have := qN_len l; omega) (by have := qW_len l; omega) W (lsn_of a.nums rfl) a.wds (lsn_of b.nums rfl) b.wds
      rw [decide_eq_true ⟨rfl, rfl, rfl, rfl, rfl, rfl, rfl⟩] at this
      exact this
    obtain ⟨gd, egd⟩ : ∃ x, decide (goodG k1 f1 t1 n1 m1) = x := ⟨_, rfl⟩
    have cG1 := fun W => pmgood_any k1 f1 t1 v1 s1 pn1 pv1 n1 cn1 m1 cv1 W
    have cG2 := fun W => rmay_any k1 f1 t1 v1 s1 pn1 pv1 n1 cn1 m1 cv1 W
    rw [egd] at cG1 cG2
    obtain ⟨E, eE⟩ : ∃ x, putG k1 f1 t1 v1 s1 N1 V1 = x := ⟨_, rfl⟩
    have HE : Hid (By8 E) := by
      show By8 E
      rw [← eE]
      exact putG_by
    have cP1 : Hid (∀ W, Below W8.heap.size W8 W → Calls Try.prog 10 #[MsV k1 f1 t1 v1 s1 (.slice pn1 n1 cn1) (.slice pv1 m1 cv1)] W fun e w' => ∃ v', e = .returned v' ∧ Own8 w' W.heap.size v' E ∧ Below W.heap.size W w') := fun W hW => by
      rw [← eE]
      exact pmput_any k1 f1 t1 v1 s1 pn1 pv1 n1 cn1 m1 cv1 N1 V1 HR1.out.2.1 HR1.out.2.2 W (HR1.out.1.up (HX.out W (bstep H8.out.1 hW)).1)
    have cP2 : Hid (∀ W, Below W8.heap.size W8 W → Calls Try.prog 18 #[MsV k1 f1 t1 v1 s1 (.slice pn1 n1 cn1) (.slice pv1 m1 cv1)] W fun e w' => ∃ v', e = .returned v' ∧ Own8 w' W.heap.size v' E ∧ Below W.heap.size W w') := fun W hW => by
      have a := HR1.out.1.up (HX.out W (bstep H8.out.1 hW)).1
      rw [← eE]
      exact rput_any k1 f1 t1 v1 s1 pn1 pv1 n1 cn1 m1 cv1 N1 V1 HR1.out.2.1 HR1.out.2.2 W a.nums a.nlen a.wds
    obtain ⟨z, ez⟩ : ∃ z, decide (k1 = k2 ∧ f1 = f2 ∧ t1 = t2 ∧ v1 = v2 ∧ s1 = s2 ∧ N1 = N2 ∧ V1 = V2) = z := ⟨_, rfl⟩
    have HZ : Hid (decide (k1 = k2 ∧ f1 = f2 ∧ t1 = t2 ∧ v1 = v2 ∧ s1 = s2 ∧ N1 = N2 ∧ V1 = V2) = z) := ez
    have cS2 : Hid (∀ W, Below W8.heap.size W8 W → Calls Try.prog 12 #[MsV k1 f1 t1 v1 s1 (.slice pn1 n1 cn1) (.slice pv1 m1 cv1), MsV k2 f2 t2 v2 s2 (.slice pn2 n2 cn2) (.slice pv2 m2 cv2)] W fun e w' => e = .returned (.bool z) ∧ Below W.heap.size W w') := fun W hW => by
      have := pmsame_any k1 f1 t1 v1 s1 k2 f2 t2 v2 s2 pn1 pv1 pn2 pv2 n1 cn1 m1 cv1 n2 cn2 m2 cv2 N1 V1 N2 V2 (by have := HNM.out.1; omega) (by have := HNM.out.1; omega) W (HR1.out.1.up (HX.out W (bstep H8.out.1 hW)).1) (HR2.out.1.up (HX.out W (bstep H8.out.1 hW)).1)
      rw [HZ.out] at this
      exact this
    have cS3 : Hid (∀ W, Below W8.heap.size W8 W → Calls Try.prog 15 #[MsV k1 f1 t1 v1 s1 (.slice pn1 n1 cn1) (.slice pv1 m1 cv1), MsV k2 f2 t2 v2 s2 (.slice pn2 n2 cn2) (.slice pv2 m2 cv2)] W fun e w' => e = .returned (.bool z) ∧ Below W.heap.size W w') := fun W hW => by
      have a := HR1.out.1.up (HX.out W (bstep H8.out.1 hW)).1
      have b := HR2.out.1.up (HX.out W (bstep H8.out.1 hW)).1
      have := rsame18_any k1 f1 t1 v1 s1 k2 f2 t2 v2 s2 pn1 pv1 pn2 pv2 n1 cn1 m1 cv1 n2 cn2 m2 cv2 N1 V1 N2 V2 (by have := HNM.out.1; omega) (by have := HNM.out.1; omega) W (lsn_of a.nums a.nlen) a.wds (lsn_of b.nums b.nlen) b.wds
      rw [HZ.out] at this
      exact this
    have hq : ((str E).toList == (str E).toList) = true := by simp
    clear egd eE ez d H3 HL
    go_wp2_with fail
    refine rel [⟨27, 61, OwnR W8.heap.size E⟩, ⟨31, 65, OwnR W8.heap.size E⟩] 46 80 (by kernel_rfl) rfl rfl (by kernel_rfl) (by rfl) ?_ ?_
    · intro e he v W W' h hb
      simp only [List.mem_cons, List.not_mem_nil, or_false] at he
      rcases he with rfl | rfl
      · exact OwnR.up h hb
      · exact OwnR.up h hb
    apply Exists.intro
    refine ⟨fun x => ?_, ?_, ?_⟩
    · simp only [List.take_succ_cons, List.take_zero]
      refine relQuiet rfl rfl ?_
      apply Exists.intro
      refine ⟨fun F_ hF hf K_ hK => ?_, ?_⟩
      · have hFc := hF.cell
        have hFf := hF.frozen
        go_big_quiet_op
        first | exact hK | (apply Exists.intro; refine ⟨fun _ => ?_, ?_⟩; (· fail); exact hK)
      (try simp only [Act.put, List.setIfInBounds_toArray, List.set_cons_zero, List.set_cons_succ])
      refine relQuiet rfl rfl ?_
      apply Exists.intro
      refine ⟨fun F_ hF hf K_ hK => ?_, ?_⟩
      · have hFc := hF.cell
        have hFf := hF.frozen
        go_big_quiet_op
        first | exact hK | (apply Exists.intro; refine ⟨fun _ => ?_, ?_⟩; (· fail); exact hK)
      (try simp only [Act.put, List.setIfInBounds_toArray, List.set_cons_zero, List.set_cons_succ])
      refine relQuiet rfl rfl ?_
      apply Exists.intro
      refine ⟨fun F_ hF hf K_ hK => ?_, ?_⟩
      · have hFc := hF.cell
        have hFf := hF.frozen
        go_big_quiet_op
        first | exact hK | (apply Exists.intro; refine ⟨fun _ => ?_, ?_⟩; (· fail); exact hK)
      (try simp only [Act.put, List.setIfInBounds_toArray, List.set_cons_zero, List.set_cons_succ])
      refine relQuiet rfl rfl ?_
      apply Exists.intro
      refine ⟨fun F_ hF hf K_ hK => ?_, ?_⟩
      · have hFc := hF.cell
        have hFf := hF.frozen
        go_big_quiet_op
        first | exact hK | (apply Exists.intro; refine ⟨fun _ => ?_, ?_⟩; (· fail); exact hK)
      (try simp only [Act.put, List.setIfInBounds_toArray, List.set_cons_zero, List.set_cons_succ])
      refine relQuiet rfl rfl ?_
      apply Exists.intro
      refine ⟨fun F_ hF hf K_ hK => ?_, ?_⟩
      · have hFc := hF.cell
        have hFf := hF.frozen
        go_big_quiet_op
        first | exact hK | (apply Exists.intro; refine ⟨fun _ => ?_, ?_⟩; (· fail); exact hK)
      (try simp only [Act.put, List.setIfInBounds_toArray, List.set_cons_zero, List.set_cons_succ])
      refine relQuiet rfl rfl ?_
      apply Exists.intro
      refine ⟨fun F_ hF hf K_ hK => ?_, ?_⟩
      · have hFc := hF.cell
        have hFf := hF.frozen
        go_big_quiet_op
        first | exact hK | (apply Exists.intro; refine ⟨fun _ => ?_, ?_⟩; (· fail); exact hK)
      (try simp only [Act.put, List.setIfInBounds_toArray, List.set_cons_zero, List.set_cons_succ])
      refine relQuiet rfl rfl ?_
      apply Exists.intro
      refine ⟨fun F_ hF hf K_ hK => ?_, ?_⟩
      · have hFc := hF.cell
        have hFf := hF.frozen
        go_big_quiet_op
        first | exact hK | (apply Exists.intro; refine ⟨fun _ => ?_, ?_⟩; (· fail); exact hK)
      (try simp only [Act.put, List.setIfInBounds_toArray, List.set_cons_zero, List.set_cons_succ])
      refine relSkip rfl rfl ?_
      (try simp only [Act.put, List.setIfInBounds_toArray, List.set_cons_zero, List.set_cons_succ])
      refine relSkip rfl rfl ?_
      (try simp only [Act.put, List.setIfInBounds_toArray, List.set_cons_zero, List.set_cons_succ])
      refine relQuiet rfl rfl ?_
      apply Exists.intro
      refine ⟨fun F_ hF hf K_ hK => ?_, ?_⟩
      · have hFc := hF.cell
        have hFf := hF.frozen
        go_big_quiet_op
        first | exact hK | (apply Exists.intro; refine ⟨fun _ => ?_, ?_⟩; (· fail); exact hK)
      (try simp only [Act.put, List.setIfInBounds_toArray, List.set_cons_zero, List.set_cons_succ])
      refine relQuiet rfl rfl ?_
      apply Exists.intro
      refine ⟨fun F_ hF hf K_ hK => ?_, ?_⟩
      · have hFc := hF.cell
        have hFf := hF.frozen
        go_big_quiet_op
        first | exact hK | (apply Exists.intro; refine ⟨fun _ => ?_, ?_⟩; (· fail); exact hK)
      (try simp only [Act.put, List.setIfInBounds_toArray, List.set_cons_zero, List.set_cons_succ])
      refine relQuiet rfl rfl ?_
      apply Exists.intro
      refine ⟨fun F_ hF hf K_ hK => ?_, ?_⟩
      · have hFc := hF.cell
        have hFf := hF.frozen
        go_big_quiet_op
        first | exact hK | (apply Exists.intro; refine ⟨fun _ => ?_, ?_⟩; (· fail); exact hK)
      (try simp only [Act.put, List.setIfInBounds_toArray, List.set_cons_zero, List.set_cons_succ])
      refine relQuiet rfl rfl ?_
      apply Exists.intro
      refine ⟨fun F_ hF hf K_ hK => ?_, ?_⟩
      · have hFc := hF.cell
        have hFf := hF.frozen
        go_big_quiet_op
        first | exact hK | (apply Exists.intro; refine ⟨fun _ => ?_, ?_⟩; (· fail); exact hK)
      (try simp only [Act.put, List.setIfInBounds_toArray, List.set_cons_zero, List.set_cons_succ])
      refine relQuiet rfl rfl ?_
      apply Exists.intro
      refine ⟨fun F_ hF hf K_ hK => ?_, ?_⟩
      · have hFc := hF.cell
        have hFf := hF.frozen
        go_big_quiet_op
        first | exact hK | (apply Exists.intro; refine ⟨fun _ => ?_, ?_⟩; (· exact hF.call (cO1 _)); exact hK)
      (try simp only [Act.put, List.setIfInBounds_toArray, List.set_cons_zero, List.set_cons_succ])
      refine relQuiet rfl rfl ?_
      apply Exists.intro
      refine ⟨fun F_ hF hf K_ hK => ?_, ?_⟩
      · have hFc := hF.cell
        have hFf := hF.frozen
        go_big_quiet_op
        first | exact hK | (apply Exists.intro; refine ⟨fun _ => ?_, ?_⟩; (· fail); exact hK)
      (try simp only [Act.put, List.setIfInBounds_toArray, List.set_cons_zero, List.set_cons_succ])
      refine relQuiet rfl rfl ?_
      apply Exists.intro
      refine ⟨fun F_ hF hf K_ hK => ?_, ?_⟩
      · have hFc := hF.cell
        have hFf := hF.frozen
        go_big_quiet_op
        first | exact hK | (apply Exists.intro; refine ⟨fun _ => ?_, ?_⟩; (· exact hF.call (cS1.out _ (hF.below _))); exact hK)
      (try simp only [Act.put, List.setIfInBounds_toArray, List.set_cons_zero, List.set_cons_succ])
      refine relQuiet rfl rfl ?_
      apply Exists.intro
      refine ⟨fun F_ hF hf K_ hK => ?_, ?_⟩
      · have hFc := hF.cell
        have hFf := hF.frozen
        go_big_quiet_op
        first | exact hK | (apply Exists.intro; refine ⟨fun _ => ?_, ?_⟩; (· fail); exact hK)
      (try simp only [Act.put, List.setIfInBounds_toArray, List.set_cons_zero, List.set_cons_succ])
      refine relQuiet rfl rfl ?_
      apply Exists.intro
      refine ⟨fun F_ hF hf K_ hK => ?_, ?_⟩
      · have hFc := hF.cell
        have hFf := hF.frozen
        go_big_quiet_op
        first | exact hK | (apply Exists.intro; refine ⟨fun _ => ?_, ?_⟩; (· fail); exact hK)
      (try simp only [Act.put, List.setIfInBounds_toArray, List.set_cons_zero, List.set_cons_succ])
      refine relQuiet rfl rfl ?_
      apply Exists.intro
      refine ⟨fun F_ hF hf K_ hK => ?_, ?_⟩
      · have hFc := hF.cell
        have hFf := hF.frozen
        go_big_quiet_op
        first | exact hK | (apply Exists.intro; refine ⟨fun _ => ?_, ?_⟩; (· fail); exact hK)
      (try simp only [Act.put, List.setIfInBounds_toArray, List.set_cons_zero, List.set_cons_succ])
      refine relQuiet rfl rfl ?_
      apply Exists.intro
      refine ⟨fun F_ hF hf K_ hK => ?_, ?_⟩
      · have hFc := hF.cell
        have hFf := hF.frozen
        go_big_quiet_op
        first | exact hK | (apply Exists.intro; refine ⟨fun _ => ?_, ?_⟩; (· exact hF.call (cG1 _)); exact hK)
      (try simp only [Act.put, List.setIfInBounds_toArray, List.set_cons_zero, List.set_cons_succ])
      refine relQuiet rfl rfl ?_
      apply Exists.intro
      refine ⟨fun F_ hF hf K_ hK => ?_, ?_⟩
      · have hFc := hF.cell
        have hFf := hF.frozen
        go_big_quiet_op
        first | exact hK | (apply Exists.intro; refine ⟨fun _ => ?_, ?_⟩; (· fail); exact hK)
      (try simp only [Act.put, List.setIfInBounds_toArray, List.set_cons_zero, List.set_cons_succ])
      refine relQuiet rfl rfl ?_
      apply Exists.intro
      refine ⟨fun F_ hF hf K_ hK => ?_, ?_⟩
      · have hFc := hF.cell
        have hFf := hF.frozen
        go_big_quiet_op
        first | exact hK | (apply Exists.intro; refine ⟨fun _ => ?_, ?_⟩; (· exact hF.call (cO2 _)); exact hK)
      (try simp only [Act.put, List.setIfInBounds_toArray, List.set_cons_zero, List.set_cons_succ])
      refine relQuiet rfl rfl ?_
      apply Exists.intro
      refine ⟨fun F_ hF hf K_ hK => ?_, ?_⟩
      · have hFc := hF.cell
        have hFf := hF.frozen
        go_big_quiet_op
        first | exact hK | (apply Exists.intro; refine ⟨fun _ => ?_, ?_⟩; (· exact hF.call (cG2 _)); exact hK)
      (try simp only [Act.put, List.setIfInBounds_toArray, List.set_cons_zero, List.set_cons_succ])
      refine relQuiet rfl rfl ?_
      apply Exists.intro
      refine ⟨fun F_ hF hf K_ hK => ?_, ?_⟩
      · have hFc := hF.cell
        have hFf := hF.frozen
        go_big_quiet_op
        first | exact hK | (apply Exists.intro; refine ⟨fun _ => ?_, ?_⟩; (· fail); exact hK)
      (try simp only [Act.put, List.setIfInBounds_toArray, List.set_cons_zero, List.set_cons_succ])
      refine relQuiet rfl rfl ?_
      apply Exists.intro
      refine ⟨fun F_ hF hf K_ hK => ?_, ?_⟩
      · have hFc := hF.cell
        have hFf := hF.frozen
        go_big_quiet_op
        first | exact hK | (apply Exists.intro; refine ⟨fun _ => ?_, ?_⟩; (· fail); exact hK)
      (try simp only [Act.put, List.setIfInBounds_toArray, List.set_cons_zero, List.set_cons_succ])
      refine relQuiet rfl rfl ?_
      apply Exists.intro
      refine ⟨fun F_ hF hf K_ hK => ?_, ?_⟩
      · have hFc := hF.cell
        have hFf := hF.frozen
        go_big_quiet_op
        first | exact hK | (apply Exists.intro; refine ⟨fun _ => ?_, ?_⟩; (· fail); exact hK)
      (try simp only [Act.put, List.setIfInBounds_toArray, List.set_cons_zero, List.set_cons_succ])
      refine relQuiet rfl rfl ?_
      apply Exists.intro
      refine ⟨fun F_ hF hf K_ hK => ?_, ?_⟩
      · have hFc := hF.cell
        have hFf := hF.frozen
        go_big_quiet_op
        first | exact hK | (apply Exists.intro; refine ⟨fun _ => ?_, ?_⟩; (· fail); exact hK)
      (try simp only [Act.put, List.setIfInBounds_toArray, List.set_cons_zero, List.set_cons_succ])
      refine relTold rfl rfl ?_ ?_
      · intro F_ hF hf d
        have hFc := hF.cell
        have hFf := hF.frozen
        simp [yieldsR, yieldsUpon, go_sem]
        refine (cP1.out (F_ d) (hF.below d)).mono ?_
        rintro e' w8 ⟨v8, rfl, ho8, hb8⟩
        exact ⟨_, rfl, ho8.low (hF.below d).size, hb8⟩
      (try simp only [Act.put, List.setIfInBounds_toArray, List.set_cons_zero, List.set_cons_succ])
      refine relQuiet rfl rfl ?_
      apply Exists.intro
      refine ⟨fun F_ hF hf K_ hK => ?_, ?_⟩
      · have hFc := hF.cell
        have hFf := hF.frozen
        have hcv : ∀ d, Sem.run Try.prog (convert 31 9 (x 27)) (F_ d) = .ok (.string (str E)) (F_ d) := fun d => conv_any (Own8.bytes (hf _ List.mem_cons_self (by rfl) d)) HE.out
        go_big_quiet_op
        first | exact hK | (apply Exists.intro; refine ⟨fun _ => ?_, ?_⟩; (· fail); exact hK)
      (try simp only [Act.put, List.setIfInBounds_toArray, List.set_cons_zero, List.set_cons_succ])
      refine relQuiet rfl rfl ?_
      apply Exists.intro
      refine ⟨fun F_ hF hf K_ hK => ?_, ?_⟩
      · have hFc := hF.cell
        have hFf := hF.frozen
        go_big_quiet_op
        first | exact hK | (apply Exists.intro; refine ⟨fun _ => ?_, ?_⟩; (· fail); exact hK)
      (try simp only [Act.put, List.setIfInBounds_toArray, List.set_cons_zero, List.set_cons_succ])
      refine relQuiet rfl rfl ?_
      apply Exists.intro
      refine ⟨fun F_ hF hf K_ hK => ?_, ?_⟩
      · have hFc := hF.cell
        have hFf := hF.frozen
        go_big_quiet_op
        first | exact hK | (apply Exists.intro; refine ⟨fun _ => ?_, ?_⟩; (· exact hF.call (cO2 _)); exact hK)
      (try simp only [Act.put, List.setIfInBounds_toArray, List.set_cons_zero, List.set_cons_succ])
      refine relTold rfl rfl ?_ ?_
      · intro F_ hF hf d
        have hFc := hF.cell
        have hFf := hF.frozen
        simp [yieldsR, yieldsUpon, go_sem]
        refine (cP2.out (F_ d) (hF.below d)).mono ?_
        rintro e' w8 ⟨v8, rfl, ho8, hb8⟩
        exact ⟨_, rfl, ho8.low (hF.below d).size, hb8⟩
      (try simp only [Act.put, List.setIfInBounds_toArray, List.set_cons_zero, List.set_cons_succ])
      refine relQuiet rfl rfl ?_
      apply Exists.intro
      refine ⟨fun F_ hF hf K_ hK => ?_, ?_⟩
      · have hFc := hF.cell
        have hFf := hF.frozen
        have hcv : ∀ d, Sem.run Try.prog (convert 31 9 (x 31)) (F_ d) = .ok (.string (str E)) (F_ d) := fun d => conv_any (Own8.bytes (hf _ (List.mem_cons_of_mem _ List.mem_cons_self) (by rfl) d)) HE.out
        go_big_quiet_op
        first | exact hK | (apply Exists.intro; refine ⟨fun _ => ?_, ?_⟩; (· fail); exact hK)
      (try simp only [Act.put, List.setIfInBounds_toArray, List.set_cons_zero, List.set_cons_succ])
      refine relQuiet rfl rfl ?_
      apply Exists.intro
      refine ⟨fun F_ hF hf K_ hK => ?_, ?_⟩
      · have hFc := hF.cell
        have hFf := hF.frozen
        go_big_quiet_op
        first | exact hK | (apply Exists.intro; refine ⟨fun _ => ?_, ?_⟩; (· fail); exact hK)
      (try simp only [Act.put, List.setIfInBounds_toArray, List.set_cons_zero, List.set_cons_succ])
      refine relQuiet rfl rfl ?_
      apply Exists.intro
      refine ⟨fun F_ hF hf K_ hK => ?_, ?_⟩
      · have hFc := hF.cell
        have hFf := hF.frozen
        go_big_quiet_op
        first | exact hK | (apply Exists.intro; refine ⟨fun _ => ?_, ?_⟩; (· fail); exact hK)
      (try simp only [Act.put, List.setIfInBounds_toArray, List.set_cons_zero, List.set_cons_succ])
      refine relQuiet rfl rfl ?_
      apply Exists.intro
      refine ⟨fun F_ hF hf K_ hK => ?_, ?_⟩
      · have hFc := hF.cell
        have hFf := hF.frozen
        go_big_quiet_op
        first | exact hK | (apply Exists.intro; refine ⟨fun _ => ?_, ?_⟩; (· fail); exact hK)
      (try simp only [Act.put, List.setIfInBounds_toArray, List.set_cons_zero, List.set_cons_succ])
      refine relQuiet rfl rfl ?_
      apply Exists.intro
      refine ⟨fun F_ hF hf K_ hK => ?_, ?_⟩
      · have hFc := hF.cell
        have hFf := hF.frozen
        go_big_quiet_op
        first | exact hK | (apply Exists.intro; refine ⟨fun _ => ?_, ?_⟩; (· fail); exact hK)
      (try simp only [Act.put, List.setIfInBounds_toArray, List.set_cons_zero, List.set_cons_succ])
      refine relQuiet rfl rfl ?_
      apply Exists.intro
      refine ⟨fun F_ hF hf K_ hK => ?_, ?_⟩
      · have hFc := hF.cell
        have hFf := hF.frozen
        go_big_quiet_op
        first | exact hK | (apply Exists.intro; refine ⟨fun _ => ?_, ?_⟩; (· fail); exact hK)
      (try simp only [Act.put, List.setIfInBounds_toArray, List.set_cons_zero, List.set_cons_succ])
      refine relQuiet rfl rfl ?_
      apply Exists.intro
      refine ⟨fun F_ hF hf K_ hK => ?_, ?_⟩
      · have hFc := hF.cell
        have hFf := hF.frozen
        go_big_quiet_op
        first | exact hK | (apply Exists.intro; refine ⟨fun _ => ?_, ?_⟩; (· exact hF.call (cS2.out _ (hF.below _))); exact hK)
      (try simp only [Act.put, List.setIfInBounds_toArray, List.set_cons_zero, List.set_cons_succ])
      refine relQuiet rfl rfl ?_
      apply Exists.intro
      refine ⟨fun F_ hF hf K_ hK => ?_, ?_⟩
      · have hFc := hF.cell
        have hFf := hF.frozen
        go_big_quiet_op
        first | exact hK | (apply Exists.intro; refine ⟨fun _ => ?_, ?_⟩; (· fail); exact hK)
      (try simp only [Act.put, List.setIfInBounds_toArray, List.set_cons_zero, List.set_cons_succ])
      refine relQuiet rfl rfl ?_
      apply Exists.intro
      refine ⟨fun F_ hF hf K_ hK => ?_, ?_⟩
      · have hFc := hF.cell
        have hFf := hF.frozen
        go_big_quiet_op
        first | exact hK | (apply Exists.intro; refine ⟨fun _ => ?_, ?_⟩; (· exact hF.call (cO2 _)); exact hK)
      (try simp only [Act.put, List.setIfInBounds_toArray, List.set_cons_zero, List.set_cons_succ])
      refine relQuiet rfl rfl ?_
      apply Exists.intro
      refine ⟨fun F_ hF hf K_ hK => ?_, ?_⟩
      · have hFc := hF.cell
        have hFf := hF.frozen
        go_big_quiet_op
        first | exact hK | (apply Exists.intro; refine ⟨fun _ => ?_, ?_⟩; (· fail); exact hK)
      (try simp only [Act.put, List.setIfInBounds_toArray, List.set_cons_zero, List.set_cons_succ])
      refine relQuiet rfl rfl ?_
      apply Exists.intro
      refine ⟨fun F_ hF hf K_ hK => ?_, ?_⟩
      · have hFc := hF.cell
        have hFf := hF.frozen
        go_big_quiet_op
        first | exact hK | (apply Exists.intro; refine ⟨fun _ => ?_, ?_⟩; (· exact hF.call (cO3 _)); exact hK)
      (try simp only [Act.put, List.setIfInBounds_toArray, List.set_cons_zero, List.set_cons_succ])
      refine relQuiet rfl rfl ?_
      apply Exists.intro
      refine ⟨fun F_ hF hf K_ hK => ?_, ?_⟩
      · have hFc := hF.cell
        have hFf := hF.frozen
        go_big_quiet_op
        first | exact hK | (apply Exists.intro; refine ⟨fun _ => ?_, ?_⟩; (· exact hF.call (cS3.out _ (hF.below _))); exact hK)
      (try simp only [Act.put, List.setIfInBounds_toArray, List.set_cons_zero, List.set_cons_succ])
      refine relQuiet rfl rfl ?_
      apply Exists.intro
      refine ⟨fun F_ hF hf K_ hK => ?_, ?_⟩
      · have hFc := hF.cell
        have hFf := hF.frozen
        go_big_quiet_op
        first | exact hK | (apply Exists.intro; refine ⟨fun _ => ?_, ?_⟩; (· fail); exact hK)
      (try simp only [Act.put, List.setIfInBounds_toArray, List.set_cons_zero, List.set_cons_succ])
      refine relQuiet rfl rfl ?_
      apply Exists.intro
      refine ⟨fun F_ hF hf K_ hK => ?_, ?_⟩
      · have hFc := hF.cell
        have hFf := hF.frozen
        go_big_quiet_op
        first | exact hK | (apply Exists.intro; refine ⟨fun _ => ?_, ?_⟩; (· fail); exact hK)
      (try simp only [Act.put, List.setIfInBounds_toArray, List.set_cons_zero, List.set_cons_succ])
      refine relEnd ?_
      exact rfl
    · intro x
      simp only [putsK, List.foldl_cons, List.foldl_nil, Act.put, List.setIfInBounds_toArray, List.set_cons_zero, List.set_cons_succ]
    · intro z5 xs hBz hf
      simp only [List.drop_succ_cons, List.drop_zero]
      have HB7 : Hid (Below w.heap.size w z5) := bstep (HX.out W8 H8.out.1).1 hBz
      obtain ⟨q1, eq1⟩ : ∃ q, xs 27 = q := ⟨_, rfl⟩
      obtain ⟨q2, eq2⟩ : ∃ q, xs 31 = q := ⟨_, rfl⟩
      simp only [eq1, eq2]
      clear eq1 eq2 hf hBz x0 x1 x2 x3 x4 x5 x6 kx y0 y1 y2 y3 y4 y5 y6 ky g0 g1 g2 g3 g4 g5 g6 kg i0 i1 i2 i3 i4 i5 i6 ki
      go_wp2
      go_ret
      exact ⟨by simp, HB7.out⟩
  · rw [if_neg d]
    go_wp2_with fail
    generalize hW5 : World.alloc _ _ = W5
    have h5 : Below w4.heap.size w4 W5 ∧ W5.heap[w4.heap.size]? = some (.cells #[.int .i64 A1, .int .i64 A2, .int .i64 A3, .int .u32 A4, .int .u32 A5, .slice pa (qN l).length ca, .slice qa (qW l).length da] 27 (0, 0)) := by
      rw [← hW5]
      exact ⟨up_alloc _ _, by show (w4.heap.push _)[w4.heap.size]? = _; simp⟩
    have H5 : Hid (Below w3.heap.size w3 W5 ∧ MsgR W5 pa (qN l).length ca qa (qW l).length da (qN l) (qW l) ∧ W5.heap[w4.heap.size]? = some (.cells #[.int .i64 A1, .int .i64 A2, .int .i64 A3, .int .u32 A4, .int .u32 A5, .slice pa (qN l).length ca, .slice qa (qW l).length da] 27 (0, 0))) := ⟨bstep H4.out.1 h5.1, H4.out.2.up h5.1, h5.2⟩
    clear hW5 h5 H4
    refine (CR.out.1 W5 H5.out.1).mono ?_
    rintro e w6 ⟨vN, vV, rfl, hN, hV, hB⟩
    obtain ⟨pb, cb, qb, db, rfl, rfl, hR⟩ := msgR_own hN hV (qN_in l)
    rw [decide_eq_false d]
    have H6 : Hid (Below w3.heap.size w3 w6 ∧ MsgR w6 pa (qN l).length ca qa (qW l).length da (qN l) (qW l) ∧ MsgR w6 pb (qN l).length cb qb (qW l).length db (qN l) (qW l) ∧ w6.heap[w4.heap.size]? = some (.cells #[.int .i64 A1, .int .i64 A2, .int .i64 A3, .int .u32 A4, .int .u32 A5, .slice pa (qN l).length ca, .slice qa (qW l).length da] 27 (0, 0))) := ⟨bstep H5.out.1 hB, H5.out.2.1.up hB, hR, (hB.block _ (heap_in8 H5.out.2.2)).trans H5.out.2.2⟩
    clear hN hV hR hB H5 CR
    go_wp2_with fail
    generalize hW8 : World.alloc _ _ = W8
    have h8 : Below w6.heap.size w6 W8 ∧ W8.heap[w6.heap.size]? = some (.cells #[.int .i64 A1, .int .i64 A2, .int .i64 A3, .int .u32 A4, .int .u32 A5, .slice pb (qN l).length cb, .slice qb (qW l).length db] 35 (0, 0)) := by
      rw [← hW8]
      exact ⟨up_alloc _ _, by show (w6.heap.push _)[w6.heap.size]? = _; simp⟩
    have hx8 := (h8.1.block _ (heap_in8 H6.out.2.2.2)).trans H6.out.2.2.2
    have H8 : Hid (Below W0.heap.size W0 W8 ∧ MsgR W8 pa (qN l).length ca qa (qW l).length da (qN l) (qW l) ∧ MsgR W8 pb (qN l).length cb qb (qW l).length db (qN l) (qW l)) := ⟨bstep (bstep H3.out H6.out.1) h8.1, H6.out.2.1.up h8.1, H6.out.2.2.1.up h8.1⟩
    obtain ⟨⟨g0, g1, g2, g3, g4, g5, g6⟩, _⟩ := ms_cells hx8
    obtain ⟨⟨i0, i1, i2, i3, i4, i5, i6⟩, _⟩ := ms_cells h8.2
    have kg := cell_lt g0
    have ki := cell_lt i0
    clear hx8 h8 hW8 H6
    obtain ⟨⟨x0, x1, x2, x3, x4, x5, x6⟩, _⟩ := ms_cells (HX.out W8 H8.out.1).2.1
    have kx := cell_lt x0
    obtain ⟨⟨y0, y1, y2, y3, y4, y5, y6⟩, _⟩ := ms_cells (HX.out W8 H8.out.1).2.2
    have ky := cell_lt y0
    have cO1 := fun W => mown_any A1 A2 A3 A4 A5 pa qa (qN l).length ca (qW l).length da W
    have cO2 := fun W => mown_any k1 f1 t1 v1 s1 pn1 pv1 n1 cn1 m1 cv1 W
    have cO3 := fun W => mown_any k2 f2 t2 v2 s2 pn2 pv2 n2 cn2 m2 cv2 W
    have cS1 : Hid (∀ W, Below W8.heap.size W8 W → Calls Try.prog 15 #[MsV A1 A2 A3 A4 A5 (.slice pa (qN l).length ca) (.slice qa (qW l).length da), MsV A1 A2 A3 A4 A5 (.slice pb (qN l).length cb) (.slice qb (qW l).length db)] W fun e w' => e = .returned (.bool true) ∧ Below W.heap.size W w') := fun W hW => by
      have a := H8.out.2.1.up hW
      have b := H8.out.2.2.up hW
      have := rsame18_any A1 A2 A3 A4 A5 A1 A2 A3 A4 A5 pa qa pb qb (qN l).length ca (qW l).length da (qN l).length cb (qW l).length db (qN l) (qW l) (qN l) (qW l) (by have := qN_len l; omega) (by have := qW_len l; omega) W (lsn_of a.nums rfl) a.wds (lsn_of b.nums rfl) b.wds
      rw [decide_eq_true ⟨rfl, rfl, rfl, rfl, rfl, rfl, rfl⟩] at this
      exact this
    obtain ⟨gd, egd⟩ : ∃ x, decide (goodG k1 f1 t1 n1 m1) = x := ⟨_, rfl⟩
    have cG1 := fun W => pmgood_any k1 f1 t1 v1 s1 pn1 pv1 n1 cn1 m1 cv1 W
    have cG2 := fun W => rmay_any k1 f1 t1 v1 s1 pn1 pv1 n1 cn1 m1 cv1 W
    rw [egd] at cG1 cG2
    obtain ⟨E, eE⟩ : ∃ x, putG k1 f1 t1 v1 s1 N1 V1 = x := ⟨_, rfl⟩
    have HE : Hid (By8 E) := by
      show By8 E
      rw [← eE]
      exact putG_by
    have cP1 : Hid (∀ W, Below W8.heap.size W8 W → Calls Try.prog 10 #[MsV k1 f1 t1 v1 s1 (.slice pn1 n1 cn1) (.slice pv1 m1 cv1)] W fun e w' => ∃ v', e = .returned v' ∧ Own8 w' W.heap.size v' E ∧ Below W.heap.size W w') := fun W hW => by
      rw [← eE]
      exact pmput_any k1 f1 t1 v1 s1 pn1 pv1 n1 cn1 m1 cv1 N1 V1 HR1.out.2.1 HR1.out.2.2 W (HR1.out.1.up (HX.out W (bstep H8.out.1 hW)).1)
    have cP2 : Hid (∀ W, Below W8.heap.size W8 W → Calls Try.prog 18 #[MsV k1 f1 t1 v1 s1 (.slice pn1 n1 cn1) (.slice pv1 m1 cv1)] W fun e w' => ∃ v', e = .returned v' ∧ Own8 w' W.heap.size v' E ∧ Below W.heap.size W w') := fun W hW => by
      have a := HR1.out.1.up (HX.out W (bstep H8.out.1 hW)).1
      rw [← eE]
      exact rput_any k1 f1 t1 v1 s1 pn1 pv1 n1 cn1 m1 cv1 N1 V1 HR1.out.2.1 HR1.out.2.2 W a.nums a.nlen a.wds
    obtain ⟨z, ez⟩ : ∃ z, decide (k1 = k2 ∧ f1 = f2 ∧ t1 = t2 ∧ v1 = v2 ∧ s1 = s2 ∧ N1 = N2 ∧ V1 = V2) = z := ⟨_, rfl⟩
    have HZ : Hid (decide (k1 = k2 ∧ f1 = f2 ∧ t1 = t2 ∧ v1 = v2 ∧ s1 = s2 ∧ N1 = N2 ∧ V1 = V2) = z) := ez
    have cS2 : Hid (∀ W, Below W8.heap.size W8 W → Calls Try.prog 12 #[MsV k1 f1 t1 v1 s1 (.slice pn1 n1 cn1) (.slice pv1 m1 cv1), MsV k2 f2 t2 v2 s2 (.slice pn2 n2 cn2) (.slice pv2 m2 cv2)] W fun e w' => e = .returned (.bool z) ∧ Below W.heap.size W w') := fun W hW => by
      have := pmsame_any k1 f1 t1 v1 s1 k2 f2 t2 v2 s2 pn1 pv1 pn2 pv2 n1 cn1 m1 cv1 n2 cn2 m2 cv2 N1 V1 N2 V2 (by have := HNM.out.1; omega) (by have := HNM.out.1; omega) W (HR1.out.1.up (HX.out W (bstep H8.out.1 hW)).1) (HR2.out.1.up (HX.out W (bstep H8.out.1 hW)).1)
      rw [HZ.out] at this
      exact this
    have cS3 : Hid (∀ W, Below W8.heap.size W8 W → Calls Try.prog 15 #[MsV k1 f1 t1 v1 s1 (.slice pn1 n1 cn1) (.slice pv1 m1 cv1), MsV k2 f2 t2 v2 s2 (.slice pn2 n2 cn2) (.slice pv2 m2 cv2)] W fun e w' => e = .returned (.bool z) ∧ Below W.heap.size W w') := fun W hW => by
      have a := HR1.out.1.up (HX.out W (bstep H8.out.1 hW)).1
      have b := HR2.out.1.up (HX.out W (bstep H8.out.1 hW)).1
      have := rsame18_any k1 f1 t1 v1 s1 k2 f2 t2 v2 s2 pn1 pv1 pn2 pv2 n1 cn1 m1 cv1 n2 cn2 m2 cv2 N1 V1 N2 V2 (by have := HNM.out.1; omega) (by have := HNM.out.1; omega) W (lsn_of a.nums a.nlen) a.wds (lsn_of b.nums b.nlen) b.wds
      rw [HZ.out] at this
      exact this
    have hq : ((str E).toList == (str E).toList) = true := by simp
    clear egd eE ez d H3 HL
    go_wp2_with fail
    refine rel [⟨27, 61, OwnR W8.heap.size E⟩, ⟨31, 65, OwnR W8.heap.size E⟩] 46 80 (by kernel_rfl) rfl rfl (by kernel_rfl) (by rfl) ?_ ?_
    · intro e he v W W' h hb
      simp only [List.mem_cons, List.not_mem_nil, or_false] at he
      rcases he with rfl | rfl
      · exact OwnR.up h hb
      · exact OwnR.up h hb
    apply Exists.intro
    refine ⟨fun x => ?_, ?_, ?_⟩
    · simp only [List.take_succ_cons, List.take_zero]
      refine relQuiet rfl rfl ?_
      apply Exists.intro
      refine ⟨fun F_ hF hf K_ hK => ?_, ?_⟩
      · have hFc := hF.cell
        have hFf := hF.frozen
        go_big_quiet_op
        first | exact hK | (apply Exists.intro; refine ⟨fun _ => ?_, ?_⟩; (· fail); exact hK)
      (try simp only [Act.put, List.setIfInBounds_toArray, List.set_cons_zero, List.set_cons_succ])
      refine relQuiet rfl rfl ?_
      apply Exists.intro
      refine ⟨fun F_ hF hf K_ hK => ?_, ?_⟩
      · have hFc := hF.cell
        have hFf := hF.frozen
        go_big_quiet_op
        first | exact hK | (apply Exists.intro; refine ⟨fun _ => ?_, ?_⟩; (· fail); exact hK)
      (try simp only [Act.put, List.setIfInBounds_toArray, List.set_cons_zero, List.set_cons_succ])
      refine relQuiet rfl rfl ?_
      apply Exists.intro
      refine ⟨fun F_ hF hf K_ hK => ?_, ?_⟩
      · have hFc := hF.cell
        have hFf := hF.frozen
        go_big_quiet_op
        first | exact hK | (apply Exists.intro; refine ⟨fun _ => ?_, ?_⟩; (· fail); exact hK)
      (try simp only [Act.put, List.setIfInBounds_toArray, List.set_cons_zero, List.set_cons_succ])
      refine relQuiet rfl rfl ?_
      apply Exists.intro
      refine ⟨fun F_ hF hf K_ hK => ?_, ?_⟩
      · have hFc := hF.cell
        have hFf := hF.frozen
        go_big_quiet_op
        first | exact hK | (apply Exists.intro; refine ⟨fun _ => ?_, ?_⟩; (· fail); exact hK)
      (try simp only [Act.put, List.setIfInBounds_toArray, List.set_cons_zero, List.set_cons_succ])
      refine relQuiet rfl rfl ?_
      apply Exists.intro
      refine ⟨fun F_ hF hf K_ hK => ?_, ?_⟩
      · have hFc := hF.cell
        have hFf := hF.frozen
        go_big_quiet_op
        first | exact hK | (apply Exists.intro; refine ⟨fun _ => ?_, ?_⟩; (· fail); exact hK)
      (try simp only [Act.put, List.setIfInBounds_toArray, List.set_cons_zero, List.set_cons_succ])
      refine relQuiet rfl rfl ?_
      apply Exists.intro
      refine ⟨fun F_ hF hf K_ hK => ?_, ?_⟩
      · have hFc := hF.cell
        have hFf := hF.frozen
        go_big_quiet_op
        first | exact hK | (apply Exists.intro; refine ⟨fun _ => ?_, ?_⟩; (· fail); exact hK)
      (try simp only [Act.put, List.setIfInBounds_toArray, List.set_cons_zero, List.set_cons_succ])
      refine relQuiet rfl rfl ?_
      apply Exists.intro
      refine ⟨fun F_ hF hf K_ hK => ?_, ?_⟩
      · have hFc := hF.cell
        have hFf := hF.frozen
        go_big_quiet_op
        first | exact hK | (apply Exists.intro; refine ⟨fun _ => ?_, ?_⟩; (· fail); exact hK)
      (try simp only [Act.put, List.setIfInBounds_toArray, List.set_cons_zero, List.set_cons_succ])
      refine relQuiet rfl rfl ?_
      apply Exists.intro
      refine ⟨fun F_ hF hf K_ hK => ?_, ?_⟩
      · have hFc := hF.cell
        have hFf := hF.frozen
        go_big_quiet_op
        first | exact hK | (apply Exists.intro; refine ⟨fun _ => ?_, ?_⟩; (· fail); exact hK)
      (try simp only [Act.put, List.setIfInBounds_toArray, List.set_cons_zero, List.set_cons_succ])
      refine relQuiet rfl rfl ?_
      apply Exists.intro
      refine ⟨fun F_ hF hf K_ hK => ?_, ?_⟩
      · have hFc := hF.cell
        have hFf := hF.frozen
        go_big_quiet_op
        first | exact hK | (apply Exists.intro; refine ⟨fun _ => ?_, ?_⟩; (· fail); exact hK)
      (try simp only [Act.put, List.setIfInBounds_toArray, List.set_cons_zero, List.set_cons_succ])
      refine relQuiet rfl rfl ?_
      apply Exists.intro
      refine ⟨fun F_ hF hf K_ hK => ?_, ?_⟩
      · have hFc := hF.cell
        have hFf := hF.frozen
        go_big_quiet_op
        first | exact hK | (apply Exists.intro; refine ⟨fun _ => ?_, ?_⟩; (· fail); exact hK)
      (try simp only [Act.put, List.setIfInBounds_toArray, List.set_cons_zero, List.set_cons_succ])
      refine relQuiet rfl rfl ?_
      apply Exists.intro
      refine ⟨fun F_ hF hf K_ hK => ?_, ?_⟩
      · have hFc := hF.cell
        have hFf := hF.frozen
        go_big_quiet_op
        first | exact hK | (apply Exists.intro; refine ⟨fun _ => ?_, ?_⟩; (· fail); exact hK)
      (try simp only [Act.put, List.setIfInBounds_toArray, List.set_cons_zero, List.set_cons_succ])
      refine relQuiet rfl rfl ?_
      apply Exists.intro
      refine ⟨fun F_ hF hf K_ hK => ?_, ?_⟩
      · have hFc := hF.cell
        have hFf := hF.frozen
        go_big_quiet_op
        first | exact hK | (apply Exists.intro; refine ⟨fun _ => ?_, ?_⟩; (· fail); exact hK)
      (try simp only [Act.put, List.setIfInBounds_toArray, List.set_cons_zero, List.set_cons_succ])
      refine relQuiet rfl rfl ?_
      apply Exists.intro
      refine ⟨fun F_ hF hf K_ hK => ?_, ?_⟩
      · have hFc := hF.cell
        have hFf := hF.frozen
        go_big_quiet_op
        first | exact hK | (apply Exists.intro; refine ⟨fun _ => ?_, ?_⟩; (· fail); exact hK)
      (try simp only [Act.put, List.setIfInBounds_toArray, List.set_cons_zero, List.set_cons_succ])
      refine relQuiet rfl rfl ?_
      apply Exists.intro
      refine ⟨fun F_ hF hf K_ hK => ?_, ?_⟩
      · have hFc := hF.cell
        have hFf := hF.frozen
        go_big_quiet_op
        first | exact hK | (apply Exists.intro; refine ⟨fun _ => ?_, ?_⟩; (· exact hF.call (cO1 _)); exact hK)
      (try simp only [Act.put, List.setIfInBounds_toArray, List.set_cons_zero, List.set_cons_succ])
      refine relQuiet rfl rfl ?_
      apply Exists.intro
      refine ⟨fun F_ hF hf K_ hK => ?_, ?_⟩
      · have hFc := hF.cell
        have hFf := hF.frozen
        go_big_quiet_op
        first | exact hK | (apply Exists.intro; refine ⟨fun _ => ?_, ?_⟩; (· fail); exact hK)
      (try simp only [Act.put, List.setIfInBounds_toArray, List.set_cons_zero, List.set_cons_succ])
      refine relQuiet rfl rfl ?_
      apply Exists.intro
      refine ⟨fun F_ hF hf K_ hK => ?_, ?_⟩
      · have hFc := hF.cell
        have hFf := hF.frozen
        go_big_quiet_op
        first | exact hK | (apply Exists.intro; refine ⟨fun _ => ?_, ?_⟩; (· exact hF.call (cS1.out _ (hF.below _))); exact hK)
      (try simp only [Act.put, List.setIfInBounds_toArray, List.set_cons_zero, List.set_cons_succ])
      refine relQuiet rfl rfl ?_
      apply Exists.intro
      refine ⟨fun F_ hF hf K_ hK => ?_, ?_⟩
      · have hFc := hF.cell
        have hFf := hF.frozen
        go_big_quiet_op
        first | exact hK | (apply Exists.intro; refine ⟨fun _ => ?_, ?_⟩; (· fail); exact hK)
      (try simp only [Act.put, List.setIfInBounds_toArray, List.set_cons_zero, List.set_cons_succ])
      refine relQuiet rfl rfl ?_
      apply Exists.intro
      refine ⟨fun F_ hF hf K_ hK => ?_, ?_⟩
      · have hFc := hF.cell
        have hFf := hF.frozen
        go_big_quiet_op
        first | exact hK | (apply Exists.intro; refine ⟨fun _ => ?_, ?_⟩; (· fail); exact hK)
      (try simp only [Act.put, List.setIfInBounds_toArray, List.set_cons_zero, List.set_cons_succ])
      refine relQuiet rfl rfl ?_
      apply Exists.intro
      refine ⟨fun F_ hF hf K_ hK => ?_, ?_⟩
      · have hFc := hF.cell
        have hFf := hF.frozen
        go_big_quiet_op
        first | exact hK | (apply Exists.intro; refine ⟨fun _ => ?_, ?_⟩; (· fail); exact hK)
      (try simp only [Act.put, List.setIfInBounds_toArray, List.set_cons_zero, List.set_cons_succ])
      refine relQuiet rfl rfl ?_
      apply Exists.intro
      refine ⟨fun F_ hF hf K_ hK => ?_, ?_⟩
      · have hFc := hF.cell
        have hFf := hF.frozen
        go_big_quiet_op
        first | exact hK | (apply Exists.intro; refine ⟨fun _ => ?_, ?_⟩; (· exact hF.call (cG1 _)); exact hK)
      (try simp only [Act.put, List.setIfInBounds_toArray, List.set_cons_zero, List.set_cons_succ])
      refine relQuiet rfl rfl ?_
      apply Exists.intro
      refine ⟨fun F_ hF hf K_ hK => ?_, ?_⟩
      · have hFc := hF.cell
        have hFf := hF.frozen
        go_big_quiet_op
        first | exact hK | (apply Exists.intro; refine ⟨fun _ => ?_, ?_⟩; (· fail); exact hK)
      (try simp only [Act.put, List.setIfInBounds_toArray, List.set_cons_zero, List.set_cons_succ])
      refine relQuiet rfl rfl ?_
      apply Exists.intro
      refine ⟨fun F_ hF hf K_ hK => ?_, ?_⟩
      · have hFc := hF.cell
        have hFf := hF.frozen
        go_big_quiet_op
        first | exact hK | (apply Exists.intro; refine ⟨fun _ => ?_, ?_⟩; (· exact hF.call (cO2 _)); exact hK)
      (try simp only [Act.put, List.setIfInBounds_toArray, List.set_cons_zero, List.set_cons_succ])
      refine relQuiet rfl rfl ?_
      apply Exists.intro
      refine ⟨fun F_ hF hf K_ hK => ?_, ?_⟩
      · have hFc := hF.cell
        have hFf := hF.frozen
        go_big_quiet_op
        first | exact hK | (apply Exists.intro; refine ⟨fun _ => ?_, ?_⟩; (· exact hF.call (cG2 _)); exact hK)
      (try simp only [Act.put, List.setIfInBounds_toArray, List.set_cons_zero, List.set_cons_succ])
      refine relQuiet rfl rfl ?_
      apply Exists.intro
      refine ⟨fun F_ hF hf K_ hK => ?_, ?_⟩
      · have hFc := hF.cell
        have hFf := hF.frozen
        go_big_quiet_op
        first | exact hK | (apply Exists.intro; refine ⟨fun _ => ?_, ?_⟩; (· fail); exact hK)
      (try simp only [Act.put, List.setIfInBounds_toArray, List.set_cons_zero, List.set_cons_succ])
      refine relQuiet rfl rfl ?_
      apply Exists.intro
      refine ⟨fun F_ hF hf K_ hK => ?_, ?_⟩
      · have hFc := hF.cell
        have hFf := hF.frozen
        go_big_quiet_op
        first | exact hK | (apply Exists.intro; refine ⟨fun _ => ?_, ?_⟩; (· fail); exact hK)
      (try simp only [Act.put, List.setIfInBounds_toArray, List.set_cons_zero, List.set_cons_succ])
      refine relQuiet rfl rfl ?_
      apply Exists.intro
      refine ⟨fun F_ hF hf K_ hK => ?_, ?_⟩
      · have hFc := hF.cell
        have hFf := hF.frozen
        go_big_quiet_op
        first | exact hK | (apply Exists.intro; refine ⟨fun _ => ?_, ?_⟩; (· fail); exact hK)
      (try simp only [Act.put, List.setIfInBounds_toArray, List.set_cons_zero, List.set_cons_succ])
      refine relQuiet rfl rfl ?_
      apply Exists.intro
      refine ⟨fun F_ hF hf K_ hK => ?_, ?_⟩
      · have hFc := hF.cell
        have hFf := hF.frozen
        go_big_quiet_op
        first | exact hK | (apply Exists.intro; refine ⟨fun _ => ?_, ?_⟩; (· fail); exact hK)
      (try simp only [Act.put, List.setIfInBounds_toArray, List.set_cons_zero, List.set_cons_succ])
      refine relTold rfl rfl ?_ ?_
      · intro F_ hF hf d
        have hFc := hF.cell
        have hFf := hF.frozen
        simp [yieldsR, yieldsUpon, go_sem]
        refine (cP1.out (F_ d) (hF.below d)).mono ?_
        rintro e' w8 ⟨v8, rfl, ho8, hb8⟩
        exact ⟨_, rfl, ho8.low (hF.below d).size, hb8⟩
      (try simp only [Act.put, List.setIfInBounds_toArray, List.set_cons_zero, List.set_cons_succ])
      refine relQuiet rfl rfl ?_
      apply Exists.intro
      refine ⟨fun F_ hF hf K_ hK => ?_, ?_⟩
      · have hFc := hF.cell
        have hFf := hF.frozen
        have hcv : ∀ d, Sem.run Try.prog (convert 31 9 (x 27)) (F_ d) = .ok (.string (str E)) (F_ d) := fun d => conv_any (Own8.bytes (hf _ List.mem_cons_self (by rfl) d)) HE.out
        go_big_quiet_op
        first | exact hK | (apply Exists.intro; refine ⟨fun _ => ?_, ?_⟩; (· fail); exact hK)
      (try simp only [Act.put, List.setIfInBounds_toArray, List.set_cons_zero, List.set_cons_succ])
      refine relQuiet rfl rfl ?_
      apply Exists.intro
      refine ⟨fun F_ hF hf K_ hK => ?_, ?_⟩
      · have hFc := hF.cell
        have hFf := hF.frozen
        go_big_quiet_op
        first | exact hK | (apply Exists.intro; refine ⟨fun _ => ?_, ?_⟩; (· fail); exact hK)
      (try simp only [Act.put, List.setIfInBounds_toArray, List.set_cons_zero, List.set_cons_succ])
      refine relQuiet rfl rfl ?_
      apply Exists.intro
      refine ⟨fun F_ hF hf K_ hK => ?_, ?_⟩
      · have hFc := hF.cell
        have hFf := hF.frozen
        go_big_quiet_op
        first | exact hK | (apply Exists.intro; refine ⟨fun _ => ?_, ?_⟩; (· exact hF.call (cO2 _)); exact hK)
      (try simp only [Act.put, List.setIfInBounds_toArray, List.set_cons_zero, List.set_cons_succ])
      refine relTold rfl rfl ?_ ?_
      · intro F_ hF hf d
        have hFc := hF.cell
        have hFf := hF.frozen
        simp [yieldsR, yieldsUpon, go_sem]
        refine (cP2.out (F_ d) (hF.below d)).mono ?_
        rintro e' w8 ⟨v8, rfl, ho8, hb8⟩
        exact ⟨_, rfl, ho8.low (hF.below d).size, hb8⟩
      (try simp only [Act.put, List.setIfInBounds_toArray, List.set_cons_zero, List.set_cons_succ])
      refine relQuiet rfl rfl ?_
      apply Exists.intro
      refine ⟨fun F_ hF hf K_ hK => ?_, ?_⟩
      · have hFc := hF.cell
        have hFf := hF.frozen
        have hcv : ∀ d, Sem.run Try.prog (convert 31 9 (x 31)) (F_ d) = .ok (.string (str E)) (F_ d) := fun d => conv_any (Own8.bytes (hf _ (List.mem_cons_of_mem _ List.mem_cons_self) (by rfl) d)) HE.out
        go_big_quiet_op
        first | exact hK | (apply Exists.intro; refine ⟨fun _ => ?_, ?_⟩; (· fail); exact hK)
      (try simp only [Act.put, List.setIfInBounds_toArray, List.set_cons_zero, List.set_cons_succ])
      refine relQuiet rfl rfl ?_
      apply Exists.intro
      refine ⟨fun F_ hF hf K_ hK => ?_, ?_⟩
      · have hFc := hF.cell
        have hFf := hF.frozen
        go_big_quiet_op
        first | exact hK | (apply Exists.intro; refine ⟨fun _ => ?_, ?_⟩; (· fail); exact hK)
      (try simp only [Act.put, List.setIfInBounds_toArray, List.set_cons_zero, List.set_cons_succ])
      refine relQuiet rfl rfl ?_
      apply Exists.intro
      refine ⟨fun F_ hF hf K_ hK => ?_, ?_⟩
      · have hFc := hF.cell
        have hFf := hF.frozen
        go_big_quiet_op
        first | exact hK | (apply Exists.intro; refine ⟨fun _ => ?_, ?_⟩; (· fail); exact hK)
      (try simp only [Act.put, List.setIfInBounds_toArray, List.set_cons_zero, List.set_cons_succ])
      refine relQuiet rfl rfl ?_
      apply Exists.intro
      refine ⟨fun F_ hF hf K_ hK => ?_, ?_⟩
      · have hFc := hF.cell
        have hFf := hF.frozen
        go_big_quiet_op
        first | exact hK | (apply Exists.intro; refine ⟨fun _ => ?_, ?_⟩; (· fail); exact hK)
      (try simp only [Act.put, List.setIfInBounds_toArray, List.set_cons_zero, List.set_cons_succ])
      refine relQuiet rfl rfl ?_
      apply Exists.intro
      refine ⟨fun F_ hF hf K_ hK => ?_, ?_⟩
      · have hFc := hF.cell
        have hFf := hF.frozen
        go_big_quiet_op
        first | exact hK | (apply Exists.intro; refine ⟨fun _ => ?_, ?_⟩; (· fail); exact hK)
      (try simp only [Act.put, List.setIfInBounds_toArray, List.set_cons_zero, List.set_cons_succ])
      refine relQuiet rfl rfl ?_
      apply Exists.intro
      refine ⟨fun F_ hF hf K_ hK => ?_, ?_⟩
      · have hFc := hF.cell
        have hFf := hF.frozen
        go_big_quiet_op
        first | exact hK | (apply Exists.intro; refine ⟨fun _ => ?_, ?_⟩; (· fail); exact hK)
      (try simp only [Act.put, List.setIfInBounds_toArray, List.set_cons_zero, List.set_cons_succ])
      refine relQuiet rfl rfl ?_
      apply Exists.intro
      refine ⟨fun F_ hF hf K_ hK => ?_, ?_⟩
      · have hFc := hF.cell
        have hFf := hF.frozen
        go_big_quiet_op
        first | exact hK | (apply Exists.intro; refine ⟨fun _ => ?_, ?_⟩; (· exact hF.call (cS2.out _ (hF.below _))); exact hK)
      (try simp only [Act.put, List.setIfInBounds_toArray, List.set_cons_zero, List.set_cons_succ])
      refine relQuiet rfl rfl ?_
      apply Exists.intro
      refine ⟨fun F_ hF hf K_ hK => ?_, ?_⟩
      · have hFc := hF.cell
        have hFf := hF.frozen
        go_big_quiet_op
        first | exact hK | (apply Exists.intro; refine ⟨fun _ => ?_, ?_⟩; (· fail); exact hK)
      (try simp only [Act.put, List.setIfInBounds_toArray, List.set_cons_zero, List.set_cons_succ])
      refine relQuiet rfl rfl ?_
      apply Exists.intro
      refine ⟨fun F_ hF hf K_ hK => ?_, ?_⟩
      · have hFc := hF.cell
        have hFf := hF.frozen
        go_big_quiet_op
        first | exact hK | (apply Exists.intro; refine ⟨fun _ => ?_, ?_⟩; (· exact hF.call (cO2 _)); exact hK)
      (try simp only [Act.put, List.setIfInBounds_toArray, List.set_cons_zero, List.set_cons_succ])
      refine relQuiet rfl rfl ?_
      apply Exists.intro
      refine ⟨fun F_ hF hf K_ hK => ?_, ?_⟩
      · have hFc := hF.cell
        have hFf := hF.frozen
        go_big_quiet_op
        first | exact hK | (apply Exists.intro; refine ⟨fun _ => ?_, ?_⟩; (· fail); exact hK)
      (try simp only [Act.put, List.setIfInBounds_toArray, List.set_cons_zero, List.set_cons_succ])
      refine relQuiet rfl rfl ?_
      apply Exists.intro
      refine ⟨fun F_ hF hf K_ hK => ?_, ?_⟩
      · have hFc := hF.cell
        have hFf := hF.frozen
        go_big_quiet_op
        first | exact hK | (apply Exists.intro; refine ⟨fun _ => ?_, ?_⟩; (· exact hF.call (cO3 _)); exact hK)
      (try simp only [Act.put, List.setIfInBounds_toArray, List.set_cons_zero, List.set_cons_succ])
      refine relQuiet rfl rfl ?_
      apply Exists.intro
      refine ⟨fun F_ hF hf K_ hK => ?_, ?_⟩
      · have hFc := hF.cell
        have hFf := hF.frozen
        go_big_quiet_op
        first | exact hK | (apply Exists.intro; refine ⟨fun _ => ?_, ?_⟩; (· exact hF.call (cS3.out _ (hF.below _))); exact hK)
      (try simp only [Act.put, List.setIfInBounds_toArray, List.set_cons_zero, List.set_cons_succ])
      refine relQuiet rfl rfl ?_
      apply Exists.intro
      refine ⟨fun F_ hF hf K_ hK => ?_, ?_⟩
      · have hFc := hF.cell
        have hFf := hF.frozen
        go_big_quiet_op
        first | exact hK | (apply Exists.intro; refine ⟨fun _ => ?_, ?_⟩; (· fail); exact hK)
      (try simp only [Act.put, List.setIfInBounds_toArray, List.set_cons_zero, List.set_cons_succ])
      refine relQuiet rfl rfl ?_
      apply Exists.intro
      refine ⟨fun F_ hF hf K_ hK => ?_, ?_⟩
      · have hFc := hF.cell
        have hFf := hF.frozen
        go_big_quiet_op
        first | exact hK | (apply Exists.intro; refine ⟨fun _ => ?_, ?_⟩; (· fail); exact hK)
      (try simp only [Act.put, List.setIfInBounds_toArray, List.set_cons_zero, List.set_cons_succ])
      refine relEnd ?_
      exact rfl
    · intro x
      simp only [putsK, List.foldl_cons, List.foldl_nil, Act.put, List.setIfInBounds_toArray, List.set_cons_zero, List.set_cons_succ]
    · intro z5 xs hBz hf
      simp only [List.drop_succ_cons, List.drop_zero]
      have HB7 : Hid (Below w.heap.size w z5) := bstep (HX.out W8 H8.out.1).1 hBz
      obtain ⟨q1, eq1⟩ : ∃ q, xs 27 = q := ⟨_, rfl⟩
      obtain ⟨q2, eq2⟩ : ∃ q, xs 31 = q := ⟨_, rfl⟩
      simp only [eq1, eq2]
      clear eq1 eq2 hf hBz x0 x1 x2 x3 x4 x5 x6 kx y0 y1 y2 y3 y4 y5 y6 ky g0 g1 g2 g3 g4 g5 g6 kg i0 i1 i2 i3 i4 i5 i6 ki
      go_wp2
      go_ret
      exact ⟨by simp, HB7.out⟩
end Go.Proofs.Ythmpfdkbpdbhnaa.Wd
