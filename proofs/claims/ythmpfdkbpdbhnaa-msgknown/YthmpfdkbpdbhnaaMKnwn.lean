/- MsgKnown: what chapter 19 says of bounds. -/
import Derived.Test.YthmpfdkbpdbhnaaWmb
import Derived.Test.YthmpfdkbpdbhnaaMsW
import Derived.Test.YthmpfdkbpdbhnaaMsO
namespace Go.Proofs.Ythmpfdkbpdbhnaa.Wd
open Go.RowKit
set_option linter.unusedVariables false
set_option linter.unusedSimpArgs false
set_option maxRecDepth 20000
set_option maxHeartbeats 8000000
theorem wdr_nil (W : World) : WdR W none 0 [] := ⟨rfl, fun y hy => by simp at hy, fun i hi => by omega⟩
theorem msgR_nil (W : World) : MsgR W none 0 0 none 0 0 [] [] := ⟨.inl ⟨rfl, rfl⟩, rfl, fun a ha => by simp at ha, wdr_nil W, by omega, by omega, by omega, by omega⟩
theorem msgR_only {W : World} {p : Option Addr} {n c : Nat} {N : List Int} (h : Nums .i64 W (.slice p n c) N) (hn : N.length = n) (h64 : ∀ a, a ∈ N → In64 a) (hc : n ≤ c) (hm : c ≤ 9223372036854775807) : MsgR W p n c none 0 0 N [] := ⟨h, hn, h64, wdr_nil W, hc, by omega, hm, by omega⟩
theorem mknwn_walk (w : World) : Calls Try.prog 3 #[] w fun e w' => e = .returned (.bool true) ∧ Below w.heap.size w w' := by
  haveI : Nonempty World := ⟨w⟩
  obtain ⟨Z, eZ⟩ : ∃ l, List.replicate 501 (0 : Int) = l := ⟨_, rfl⟩
  have HZ : Hid (Z.length = 501 ∧ (∀ a, a ∈ Z → In64 a) ∧ ∀ k f t v s V, putG k f t v s Z V = []) := by
    refine ⟨by rw [← eZ]; exact List.length_replicate .., fun a ha => ?_, fun k f t v s V => if_neg fun h => ?_⟩
    · rw [← eZ] at ha
      rw [(List.mem_replicate.1 ha).2]
      decide
    · have := h.2.2.2.1
      rw [← eZ, List.length_replicate] at this
      omega
  obtain ⟨L, eL⟩ : ∃ L, putG 1 0 0 0 0 (List.replicate 500 0) (List.replicate 500 0) = L := ⟨_, rfl⟩
  have HL : Hid (L.length = 12023 ∧ ∀ W p q, MsgR W p 500 500 q 500 500 (List.replicate 500 0) (List.replicate 500 0) → Calls Try.prog 10 #[MsV 1 0 0 0 0 (.slice p 500 500) (.slice q 500 500)] W fun e w' => ∃ v', e = .returned v' ∧ Own8 w' W.heap.size v' L ∧ Below W.heap.size W w') := by
    refine ⟨?_, fun W p q hW => ?_⟩
    · rw [← eL, putG_len ⟨by decide, by decide, by decide, by rw [List.length_replicate]; omega, by rw [List.length_replicate]; omega⟩, List.length_replicate]
    · rw [← eL]
      exact pmput_any 1 0 0 0 0 p q 500 500 500 500 _ _ (by omega) (by omega) W hW
  clear eL
  go_enter Try.func3, Try.ntmps3
  go_wp2_with fail
  refine (awake19_any w).mono ?_
  rintro e w1 ⟨rfl, hB⟩
  have H1 : Hid (Below w.heap.size w w1) := hB
  clear hB
  have cG := pmget_any none 0 0 [] By8.nil rfl (by omega) (by omega) w1 (.inl ⟨rfl, rfl⟩)
  rw [if_neg (fun h => not_dec_nil h.1)] at cG
  go_wp2_with fail
  refine cG.mono ?_
  rintro e w2 ⟨vN, vV, rfl, hN, hV, hB⟩
  obtain ⟨pa, na, ca, rfl⟩ := hN.sl
  obtain ⟨qa, ma, da, rfl⟩ := hV.sl
  obtain ⟨A1, eA1⟩ : ∃ x, qI [] (uK []) = x := ⟨_, rfl⟩
  obtain ⟨A2, eA2⟩ : ∃ x, qI [] (uF []) = x := ⟨_, rfl⟩
  obtain ⟨A3, eA3⟩ : ∃ x, qI [] (uT []) = x := ⟨_, rfl⟩
  obtain ⟨A4, eA4⟩ : ∃ x, qI [] (uV []) = x := ⟨_, rfl⟩
  obtain ⟨A5, eA5⟩ : ∃ x, qI [] (uS []) = x := ⟨_, rfl⟩
  rw [eA1, eA2, eA3, eA4, eA5]
  obtain ⟨U2, eU2⟩ : ∃ U, w2.alloc (.cells #[.int .i64 A1, .int .i64 A2, .int .i64 A3, .int .u32 A4, .int .u32 A5, .slice pa na ca, .slice qa ma da] 27) = U := ⟨_, rfl⟩
  have H2 : Hid (Below w.heap.size w U2) := by
    rw [← eU2]
    exact bstep (bstep H1.out hB) (up_alloc _ _)
  clear cG hN hV hB eA1 eA2 eA3 eA4 eA5 H1
  go_wp2_with (at_make; refine wpList_makeK numI64 (by decide) _ rfl (.const (.int .i64 501)) (.const (.int .i64 501)) rfl .i64 .i64 501 501 501 rfl rfl rfl rfl (by omega) w.heap.size w (Below.size H2.out) H2.out ?_; intro w3 HO B0 B1; have HB3 := hid2 B1 B1; clear B0 B1)
  rw [eZ] at HO
  refine (pmput_any 1 0 0 0 0 (some ⟨U2.heap.size, 0, none⟩) none 501 501 0 0 Z [] (by omega) (by omega) w3 (msgR_only HO.out.nums HZ.out.1 HZ.out.2.1 (by omega) (by omega))).mono ?_
  rintro e w4 ⟨v4, rfl, ho, hB⟩
  rw [HZ.out.2.2] at ho
  obtain ⟨p4, c4, rfl, _⟩ := own8_form ho
  have H4 : Hid (Below w.heap.size w w4) := bstep HB3.out.1 hB
  clear ho hB HO HB3 H2 eU2 eZ HZ
  obtain ⟨MK, eMK⟩ : ∃ M, (vals .i64 (List.replicate 500 0)).toArray = M := ⟨_, rfl⟩
  obtain ⟨MV, eMV⟩ : ∃ M, madeCells (Value.agg #[.int .i64 0, .int .u64 0]).cells (500 * 2) = M := ⟨_, rfl⟩
  have hmN := fun W => mkn_run 500 (by omega) W
  have hmW := fun W => mkw_run 500 (by omega) W
  have hr1 := fun W => madeN_rd 500 W
  have hr2 := fun W => made_rd 500 W
  rw [eMK] at hmN hr1
  rw [eMV] at hmW hr2
  rw [show ((500 : Nat) : Int) = 500 from rfl] at hmN hmW
  have HMK := hid2 hr1 hr2
  clear eMK eMV hr1 hr2
  go_wp2_with fail
  refine rel [⟨0, 14, MdV 500⟩, ⟨1, 15, MdN 500⟩, ⟨2, 16, AgM 1 500 500⟩, ⟨3, 17, OwnR w4.heap.size L⟩] 4 43 (by kernel_rfl) rfl rfl (by kernel_rfl) (by rfl) ?_ ?_
  · intro e he v W W' h hb
    simp only [List.mem_cons, List.not_mem_nil, or_false] at he
    rcases he with rfl | rfl | rfl | rfl
    · exact MdV.up h hb
    · exact MdN.up h hb
    · exact AgM.up h hb
    · exact OwnR.up h hb
  apply Exists.intro
  refine ⟨fun x => ?_, ?_, ?_⟩
  · simp only [List.take_succ_cons, List.take_zero]
    refine relTold rfl rfl ?_ ?_
    · intro F_ hF hf d
      have hFc := hF.cell
      have hFf := hF.frozen
      simp [yieldsR, yieldsUpon, go_sem, hmW]
      exact ⟨⟨_, rfl, HMK.out.2 (F_ d)⟩, up_alloc _ _⟩
    (try simp only [Act.put, List.setIfInBounds_toArray, List.set_cons_zero, List.set_cons_succ])
    refine relTold rfl rfl ?_ ?_
    · intro F_ hF hf d
      have hFc := hF.cell
      have hFf := hF.frozen
      simp [yieldsR, yieldsUpon, go_sem, hmN]
      exact ⟨⟨_, rfl, HMK.out.1 (F_ d)⟩, up_alloc _ _⟩
    (try simp only [Act.put, List.setIfInBounds_toArray, List.set_cons_zero, List.set_cons_succ])
    refine relTold rfl rfl ?_ ?_
    · intro F_ hF hf d
      have hFc := hF.cell
      have hFf := hF.frozen
      have h8 := hf _ List.mem_cons_self (by rfl) d
      have h9 := hf _ (List.mem_cons_of_mem _ List.mem_cons_self) (by rfl) d
      obtain ⟨p8, e8, n8⟩ := h8
      obtain ⟨p9, e9, n9⟩ := h9
      simp only [] at e8 e9 n8 n9
      rw [e9] at n9
      simp [yieldsR, yieldsUpon, go_sem, e8, e9]
      exact ⟨⟨p9, p8, rfl, msgR_made n9 n8 (by omega) (by omega)⟩, Below.refl _ _⟩
    (try simp only [Act.put, List.setIfInBounds_toArray, List.set_cons_zero, List.set_cons_succ])
    refine relTold rfl rfl ?_ ?_
    · intro F_ hF hf d
      have hFc := hF.cell
      have hFf := hF.frozen
      have h9 := hf _ (List.mem_cons_of_mem _ (List.mem_cons_of_mem _ List.mem_cons_self)) (by rfl) d
      obtain ⟨p9, q9, e9, n9⟩ := h9
      simp only [] at e9 n9
      simp [yieldsR, yieldsUpon, go_sem, e9]
      refine (HL.out.2 (F_ d) p9 q9 n9).mono ?_
      rintro e' w8 ⟨v8, rfl, ho8, hb8⟩
      exact ⟨_, rfl, ho8.low (hF.below d).size, hb8⟩
    (try simp only [Act.put, List.setIfInBounds_toArray, List.set_cons_zero, List.set_cons_succ])
    refine relEnd ?_
    exact rfl
  · intro x
    simp only [putsK, List.foldl_cons, List.foldl_nil, Act.put, List.setIfInBounds_toArray, List.set_cons_zero, List.set_cons_succ]
  · intro w5 xs hB5 hf
    simp only [List.drop_succ_cons, List.drop_zero]
    have h5 := hf _ (List.mem_cons_of_mem _ (List.mem_cons_of_mem _ (List.mem_cons_of_mem _ List.mem_cons_self)))
    obtain ⟨y5, ey5⟩ : ∃ q, xs 3 = q := ⟨_, rfl⟩
    simp only [ey5] at h5
    simp only [ey5]
    obtain ⟨p5, c5, rfl, _⟩ := own8_form h5
    rw [HL.out.1]
    have H5 : Hid (Below w.heap.size w w5) := bstep H4.out hB5
    clear hf h5 hB5 ey5 H4 HMK HL hmN hmW
    have cA := pmgood_any 0 0 0 0 0 none none 0 0 0 0 w5
    rw [decide_eq_false (by decide)] at cA
    go_wp2_with fail
    refine cA.mono ?_
    rintro e w6 ⟨rfl, hB⟩
    have H6 : Hid (Below w.heap.size w w6) := bstep H5.out hB
    clear cA hB H5
    go_wp2_with fail
    generalize hW8 : World.alloc _ _ = W8
    have H8 : Hid (Below w.heap.size w W8 ∧ MsgR W8 (some ⟨w6.heap.size, 0, none⟩) 1 1 none 0 0 [1] [] ∧ MsgR W8 (some ⟨w6.heap.size + 1, 0, none⟩) 1 1 none 0 0 [2] []) := by
      rw [← hW8]
      have n1 : Nums .i64 (w6.alloc (.cells #[.int .i64 1] 2)) (.slice (some ⟨w6.heap.size, 0, none⟩) 1 1) [1] := nums_lit (k := .i64) w6 [1] 1 (0, 0) rfl
      have n2 : Nums .i64 ((w6.alloc (.cells #[.int .i64 1] 2)).alloc (.cells #[.int .i64 2] 2)) (.slice (some ⟨(w6.alloc (.cells #[.int .i64 1] 2)).heap.size, 0, none⟩) 1 1) [2] := nums_lit (k := .i64) (w6.alloc (.cells #[.int .i64 1] 2)) [2] 1 (0, 0) rfl
      rw [show (w6.alloc (.cells #[.int .i64 1] 2)).heap.size = w6.heap.size + 1 by simp] at n2
      exact ⟨bstep (bstep H6.out (up_alloc _ _)) (up_alloc _ _), msgR_only (n1.up (up_alloc _ _)) rfl (by decide) (by omega) (by omega), msgR_only n2 rfl (by decide) (by omega) (by omega)⟩
    clear hW8
    have cS := pmsame_any 0 0 0 0 0 0 0 0 0 0 (some ⟨w6.heap.size, 0, none⟩) none (some ⟨w6.heap.size + 1, 0, none⟩) none 1 1 0 0 1 1 0 0 [1] [] [2] [] (by omega) (by omega) W8 H8.out.2.1 H8.out.2.2
    rw [decide_eq_false (by decide)] at cS
    refine cS.mono ?_
    rintro e w9 ⟨rfl, hB⟩
    have H9 : Hid (Below w.heap.size w w9) := bstep H8.out.1 hB
    clear cS hB H8 H6
    go_wp2
    go_ret
    exact ⟨by simp, H9.out⟩
end Go.Proofs.Ythmpfdkbpdbhnaa.Wd
