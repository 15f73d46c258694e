/- What every law of stage 19 asks first. -/
import Derived.Test.YthmpfdkbpdbhnaaMsA
namespace Go.Proofs.Ythmpfdkbpdbhnaa.Wd
open Go.RowKit
set_option linter.unusedVariables false
set_option linter.unusedSimpArgs false
set_option maxRecDepth 8000
set_option maxHeartbeats 4000000
theorem awake19_any (w : World) : Calls Try.prog 8 #[] w fun e w' => e = .returned (.bool true) ∧ Below w.heap.size w w' := by
  go_enter Try.func8, Try.ntmps8
  go_wp2_with fail
  generalize hW0 : World.alloc _ _ = W0
  have HM : Hid (Below w.heap.size w W0 ∧ W0.heap[w.heap.size + 2]? = some (.cells #[.int .i64 2, .int .i64 1, .int .i64 3, .int .u32 5, .int .u32 7, .slice (some ⟨w.heap.size, 0, none⟩) 1 1, .slice (some ⟨w.heap.size + 1, 0, none⟩) 1 1] 27 (0, 0)) ∧ MsgR W0 (some ⟨w.heap.size, 0, none⟩) 1 1 (some ⟨w.heap.size + 1, 0, none⟩) 1 1 [-1] [18446744073709551618]) := by
    have n1 : Nums .i64 (w.alloc (.cells #[.int .i64 (-1)] 2)) (.slice (some ⟨w.heap.size, 0, none⟩) 1 1) [-1] := nums_lit (k := .i64) w [-1] 1 (0, 0) rfl
    have v1 := wdr_one (w.alloc (.cells #[.int .i64 (-1)] 2)) 1 2 47 (by decide) (by decide)
    rw [show (w.alloc (.cells #[.int .i64 (-1)] 2)).heap.size = w.heap.size + 1 by simp] at v1
    rw [← hW0]
    refine ⟨bstep (bstep (up_alloc _ _) (up_alloc _ _)) (up_alloc _ _), ?_, ⟨(n1.up (up_alloc _ _)).up (up_alloc _ _), rfl, fun a ha => ?_, v1.up (up_alloc _ _), by decide, by decide, by decide, by decide⟩⟩
    · have h := (Array.getElem?_push_size : ((((w.alloc (.cells #[.int .i64 (-1)] 2)).alloc (.cells #[.int .i64 1, .int .u64 2] 47)).heap.push (.cells #[.int .i64 2, .int .i64 1, .int .i64 3, .int .u32 5, .int .u32 7, .slice (some ⟨w.heap.size, 0, none⟩) 1 1, .slice (some ⟨w.heap.size + 1, 0, none⟩) 1 1] 27 (0, 0))))[((w.alloc (.cells #[.int .i64 (-1)] 2)).alloc (.cells #[.int .i64 1, .int .u64 2] 47)).heap.size]? = some _)
      rw [show ((w.alloc (.cells #[.int .i64 (-1)] 2)).alloc (.cells #[.int .i64 1, .int .u64 2] 47)).heap.size = w.heap.size + 2 by simp] at h
      exact h
    · simp only [List.mem_singleton] at ha
      subst ha
      decide
  clear hW0
  obtain ⟨L, eL⟩ : ∃ L, putG 2 1 3 5 7 [-1] [18446744073709551618] = L := ⟨_, rfl⟩
  have hgd : goodG 2 1 3 ([-1] : List Int).length ([18446744073709551618] : List Int).length := by decide
  obtain ⟨q0, q1, q2, q3, q4, q5, q6, q7⟩ := put_q (v := 5) (s := 7) hgd (by omega) (by omega) HM.out.2.2.n64 HM.out.2.2.v128
  have hlen := putG_len (v := 5) (s := 7) hgd
  rw [eL] at q0 q1 q2 q3 q4 q5 q6 q7 hlen
  have HL : Hid (By8 L ∧ L.length = 47) := ⟨by rw [← eL]; exact putG_by, hlen⟩
  have cP : ∀ W, Below W0.heap.size W0 W → _ := fun W hW => pmput_any 2 1 3 5 7 _ _ 1 1 1 1 [-1] [18446744073709551618] (by omega) (by omega) W (HM.out.2.2.up hW)
  rw [eL] at cP
  have CP : Hid (∀ W, Below W0.heap.size W0 W → _) := cP
  refine (cP W0 (Below.refl _ _)).mono ?_
  clear cP eL
  rintro e w1 ⟨v1, rfl, ho, hB⟩
  obtain ⟨p, c, rfl, hc⟩ := own8_form ho
  have hl47 : L.length = 47 := hlen
  rw [hl47] at hc ⊢
  have H1 : Hid (Below W0.heap.size W0 w1 ∧ Bytes w1 (.slice p 47 c) L) := ⟨hB, by have := ho.bytes; rw [hl47] at this; exact this⟩
  clear ho hB
  have cG := pmget_any p 47 c L HL.out.1 hl47 (by omega) hc w1 H1.out.2
  rw [if_pos q0, q1, q2, q3, q4, q5, q6, q7] at cG
  clear q0 q1 q2 q3 q4 q5 q6 q7 hlen hgd hl47 hc
  go_wp2_with fail
  refine cG.mono ?_
  rintro e w2 ⟨vN, vV, rfl, hN, hV, hB⟩
  obtain ⟨pn, cn, pv, cv, rfl, rfl, hR⟩ := msgR_own hN hV HM.out.2.2.n64
  have H2 : Hid (Below W0.heap.size W0 w2 ∧ MsgR w2 pn 1 cn pv 1 cv [-1] [18446744073709551618]) := ⟨bstep H1.out.1 hB, hR⟩
  clear hN hV hR hB cG H1
  obtain ⟨⟨y0, y1, y2, y3, y4, y5, y6⟩, f0, f1, f2, f3, f4, f5, f6⟩ := ms_cells ((H2.out.1.block _ (heap_in8 HM.out.2.1)).trans HM.out.2.1)
  have ky := cell_lt y0
  go_wp2_with fail
  generalize hW3 : World.alloc _ _ = W3
  have H3 : Hid (Below w2.heap.size w2 W3) := by
    rw [← hW3]
    exact up_alloc _ _
  clear hW3
  have cS := pmsame_any 2 1 3 5 7 2 1 3 5 7 pn pv (some ⟨w.heap.size, 0, none⟩) (some ⟨w.heap.size + 1, 0, none⟩) 1 cn 1 cv 1 1 1 1 [-1] [18446744073709551618] [-1] [18446744073709551618] (by omega) (by omega) W3 (H2.out.2.up H3.out) (HM.out.2.2.up (bstep H2.out.1 H3.out))
  rw [decide_eq_true ⟨rfl, rfl, rfl, rfl, rfl, rfl, rfl⟩] at cS
  refine cS.mono ?_
  rintro e w3 ⟨rfl, hB⟩
  have H4 : Hid (Below W0.heap.size W0 w3) := bstep (bstep H2.out.1 H3.out) hB
  clear cS hB H2 H3 y0 y1 y2 y3 y4 y5 y6 f0 f1 f2 f3 f4 f5 f6 ky
  obtain ⟨⟨y0, y1, y2, y3, y4, y5, y6⟩, f0, f1, f2, f3, f4, f5, f6⟩ := ms_cells ((H4.out.block _ (heap_in8 HM.out.2.1)).trans HM.out.2.1)
  have ky := cell_lt y0
  go_wp2_with fail
  refine (CP.out w3 H4.out).mono ?_
  rintro e w4 ⟨v4, rfl, ho, hB⟩
  obtain ⟨p4, c4, rfl, _⟩ := own8_form ho
  rw [HL.out.2]
  have H5 : Hid (Below w.heap.size w w4) := bstep (bstep HM.out.1 H4.out) hB
  clear ho hB HM CP H4 HL y0 y1 y2 y3 y4 y5 y6 f0 f1 f2 f3 f4 f5 f6 ky
  go_wp2
  go_ret
  exact ⟨rfl, H5.out⟩
end Go.Proofs.Ythmpfdkbpdbhnaa.Wd
