/- The reference's Same: are two messages alike? -/
import Derived.Test.YthmpfdkbpdbhnaaMsR
import Derived.Laws.StructEq
namespace Go.Proofs.Ythmpfdkbpdbhnaa.Wd
open Go.RowKit
set_option linter.unusedVariables false
set_option linter.unusedSimpArgs false
set_option maxRecDepth 8000
set_option maxHeartbeats 8000000
theorem list_ext0 {a b : List Int} (h : a.length = b.length) (h2 : ∀ i, i < a.length → a.getD i 0 = b.getD i 0) : a = b := by
  refine List.ext_getElem h fun i hi hj => ?_
  have := h2 i hi
  rwa [List.getD_eq_getElem?_getD, List.getElem?_eq_getElem hi, List.getD_eq_getElem?_getD, List.getElem?_eq_getElem hj] at this
theorem wide_eq (a b c d : Int) (W : World) : Sem.run Try.prog (Op.equalIn 10000 47 (.agg #[.int .i64 a, .int .u64 b]) (.agg #[.int .i64 c, .int .u64 d])) W = .ok (decide ((a, b) = (c, d))) W := by
  rw [show (10000 : Nat) = 9999 + 1 from rfl, run_equalIn_struct _ _ _ _ _ (by kernel_rfl) (by kernel_rfl)]
  go_simp
  by_cases h2 : a = c <;> by_cases h3 : b = d <;> simp [h2, h3]
theorem wd_parts {x y : Int} (h : (x / 18446744073709551616, x % 18446744073709551616) = (y / 18446744073709551616, y % 18446744073709551616)) : x = y := by
  simp only [Prod.mk.injEq] at h
  omega
def Lsn (w : World) (p : Option Addr) (n : Nat) (l : List Int) : Prop := l.length = n ∧ ∀ j, j < n → ∃ q o, p = some ⟨q, o, none⟩ ∧ w.cell? ⟨q, o + j, none⟩ = some (.int .i64 (l.getD j 0))
theorem lsn_of {w : World} {p : Option Addr} {n c : Nat} {l : List Int} (h : Nums .i64 w (.slice p n c) l) (hn : l.length = n) : Lsn w p n l := by
  obtain ⟨p', c', e, hc⟩ := h.view
  rw [hn] at e hc
  cases e
  exact ⟨hn, hc⟩
theorem Lsn.up {W W' : World} {p : Option Addr} {n : Nat} {l : List Int} (h : Lsn W p n l) (hB : Below W.heap.size W W') : Lsn W' p n l := ⟨h.1, fun i hi => by
  obtain ⟨q, o, e, a⟩ := h.2 i hi
  exact ⟨q, o, e, still_cell hB a⟩⟩
theorem rsame18_any (k1 f1 t1 v1 s1 k2 f2 t2 v2 s2 : Int) (pn1 pv1 pn2 pv2 : Option Addr) (n1 cn1 m1 cv1 n2 cn2 m2 cv2 : Nat) (N1 V1 N2 V2 : List Int) (hb1 : n1 ≤ 1073741824) (hb2 : m1 ≤ 1073741824) (w : World) (hN1 : Lsn w pn1 n1 N1) (hV1 : WdR w pv1 m1 V1) (hN2 : Lsn w pn2 n2 N2) (hV2 : WdR w pv2 m2 V2) :
    Calls Try.prog 15 #[.agg #[.int .i64 k1, .int .i64 f1, .int .i64 t1, .int .u32 v1, .int .u32 s1, .slice pn1 n1 cn1, .slice pv1 m1 cv1], .agg #[.int .i64 k2, .int .i64 f2, .int .i64 t2, .int .u32 v2, .int .u32 s2, .slice pn2 n2 cn2, .slice pv2 m2 cv2]] w fun e w' => e = .returned (.bool (decide (k1 = k2 ∧ f1 = f2 ∧ t1 = t2 ∧ v1 = v2 ∧ s1 = s2 ∧ N1 = N2 ∧ V1 = V2))) ∧ Below w.heap.size w w' := by
  haveI : Nonempty World := ⟨w⟩
  obtain ⟨r, er⟩ : ∃ r : Bool, decide (k1 = k2 ∧ f1 = f2 ∧ t1 = t2 ∧ v1 = v2 ∧ s1 = s2 ∧ N1 = N2 ∧ V1 = V2) = r := ⟨_, rfl⟩
  have HR : Hid (decide (k1 = k2 ∧ f1 = f2 ∧ t1 = t2 ∧ v1 = v2 ∧ s1 = s2 ∧ N1 = N2 ∧ V1 = V2) = r) := er
  have HK : Hid (Lsn w pn1 n1 N1 ∧ WdR w pv1 m1 V1 ∧ Lsn w pn2 n2 N2 ∧ WdR w pv2 m2 V2) := ⟨hN1, hV1, hN2, hV2⟩
  rw [er]
  clear er hN1 hV1 hN2 hV2
  by_cases hc : k1 = k2
  case neg =>
    have er : r = false := by rw [← HR.out, decide_eq_false fun h => hc h.1]
    subst er
    have hm' : (k1 != k2) = true := by simpa using hc
    clear hc HR HK
    go_enter Try.func15, Try.ntmps15
    go_wp2
    go_ret
    exact ⟨rfl, by go_grown⟩
  subst hc
  by_cases hc : f1 = f2
  case neg =>
    have er : r = false := by rw [← HR.out, decide_eq_false fun h => hc h.2.1]
    subst er
    have hm' : (f1 != f2) = true := by simpa using hc
    clear hc HR HK
    go_enter Try.func15, Try.ntmps15
    go_wp2
    go_ret
    exact ⟨rfl, by go_grown⟩
  subst hc
  by_cases hc : t1 = t2
  case neg =>
    have er : r = false := by rw [← HR.out, decide_eq_false fun h => hc h.2.2.1]
    subst er
    have hm' : (t1 != t2) = true := by simpa using hc
    clear hc HR HK
    go_enter Try.func15, Try.ntmps15
    go_wp2
    go_ret
    exact ⟨rfl, by go_grown⟩
  subst hc
  by_cases hc : v1 = v2
  case neg =>
    have er : r = false := by rw [← HR.out, decide_eq_false fun h => hc h.2.2.2.1]
    subst er
    have hm' : (v1 != v2) = true := by simpa using hc
    clear hc HR HK
    go_enter Try.func15, Try.ntmps15
    go_wp2
    go_ret
    exact ⟨rfl, by go_grown⟩
  subst hc
  by_cases hc : s1 = s2
  case neg =>
    have er : r = false := by rw [← HR.out, decide_eq_false fun h => hc h.2.2.2.2.1]
    subst er
    have hm' : (s1 != s2) = true := by simpa using hc
    clear hc HR HK
    go_enter Try.func15, Try.ntmps15
    go_wp2
    go_ret
    exact ⟨rfl, by go_grown⟩
  subst hc
  by_cases hc : n1 = n2
  case neg =>
    have er : r = false := by rw [← HR.out, decide_eq_false fun h => hc (by rw [← HK.out.1.1, ← HK.out.2.2.1.1, h.2.2.2.2.2.1])]
    subst er
    have hm' : ((n1 : Int) != (n2 : Int)) = true := by simpa using (show (n1 : Int) ≠ (n2 : Int) by omega)
    clear hc HR HK
    go_enter Try.func15, Try.ntmps15
    go_wp2
    go_ret
    exact ⟨rfl, by go_grown⟩
  subst hc
  by_cases hc : m1 = m2
  case neg =>
    have er : r = false := by rw [← HR.out, decide_eq_false fun h => hc (by rw [← HK.out.2.1.1, ← HK.out.2.2.2.1, h.2.2.2.2.2.2])]
    subst er
    have hm' : ((m1 : Int) != (m2 : Int)) = true := by simpa using (show (m1 : Int) ≠ (m2 : Int) by omega)
    clear hc HR HK
    go_enter Try.func15, Try.ntmps15
    go_wp2
    go_ret
    exact ⟨rfl, by go_grown⟩
  subst hc
  have HR2 : Hid (decide (N1 = N2 ∧ V1 = V2) = r) := by
    show _ = _
    have := HR.out
    simpa using this
  clear HR
  go_enter Try.func15, Try.ntmps15
  obtain ⟨W0, eW0⟩ : ∃ W, (w.alloc (.cells #[.int .i64 k1, .int .i64 f1, .int .i64 t1, .int .u32 v1, .int .u32 s1, .slice pn1 n1 cn1, .slice pv1 m1 cv1] 35)).alloc (.cells #[.int .i64 k1, .int .i64 f1, .int .i64 t1, .int .u32 v1, .int .u32 s1, .slice pn2 n1 cn2, .slice pv2 m1 cv2] 35) = W := ⟨_, rfl⟩
  have H0 : Hid (Below w.heap.size w W0 ∧ W0.heap[w.heap.size]? = some (.cells #[.int .i64 k1, .int .i64 f1, .int .i64 t1, .int .u32 v1, .int .u32 s1, .slice pn1 n1 cn1, .slice pv1 m1 cv1] 35 (0, 0)) ∧ W0.heap[w.heap.size + 1]? = some (.cells #[.int .i64 k1, .int .i64 f1, .int .i64 t1, .int .u32 v1, .int .u32 s1, .slice pn2 n1 cn2, .slice pv2 m1 cv2] 35 (0, 0))) := by
    rw [← eW0]
    refine ⟨bstep (up_alloc _ _) (up_alloc _ _), ?_, ?_⟩
    · show ((w.heap.push _).push _)[w.heap.size]? = _
      rw [Array.getElem?_push_lt (by simp)]
      simp
    · have h := (Array.getElem?_push_size : ((w.heap.push (.cells #[.int .i64 k1, .int .i64 f1, .int .i64 t1, .int .u32 v1, .int .u32 s1, .slice pn1 n1 cn1, .slice pv1 m1 cv1] 35 (0, 0))).push (.cells #[.int .i64 k1, .int .i64 f1, .int .i64 t1, .int .u32 v1, .int .u32 s1, .slice pn2 n1 cn2, .slice pv2 m1 cv2] 35 (0, 0)))[(w.heap.push (.cells #[.int .i64 k1, .int .i64 f1, .int .i64 t1, .int .u32 v1, .int .u32 s1, .slice pn1 n1 cn1, .slice pv1 m1 cv1] 35 (0, 0))).size]? = some _)
      rw [Array.size_push] at h
      exact h
  have EW : Hid ((w.alloc (.cells #[.int .i64 k1, .int .i64 f1, .int .i64 t1, .int .u32 v1, .int .u32 s1, .slice pn1 n1 cn1, .slice pv1 m1 cv1] 35)).alloc (.cells #[.int .i64 k1, .int .i64 f1, .int .i64 t1, .int .u32 v1, .int .u32 s1, .slice pn2 n1 cn2, .slice pv2 m1 cv2] 35) = W0) := eW0
  clear eW0
  go_wp2_with fail
  rw [EW.out]
  go_loopg [5] n1 (fun gg v wr => ∃ (k : Nat), k ≤ n1 ∧ gg = n1 - k ∧ v = .int .i64 (k : Int) ∧ Hid (∀ i, i < k → N1.getD i 0 = N2.getD i 0) ∧ Hid (Below W0.heap.size W0 wr))
  case atStart => exact ⟨0, by omega, by omega, rfl, fun i hi => by omega, Below.refl _ _⟩
  case round =>
    obtain ⟨k, hk, hg, rfl, Hx, HB⟩ := hrel
    obtain ⟨⟨_, _, _, _, _, a5, a6⟩, _⟩ := ms_cells ((HB.out.block _ (heap_in8 H0.out.2.1)).trans H0.out.2.1)
    obtain ⟨⟨_, _, _, _, _, c5, c6⟩, _⟩ := ms_cells ((HB.out.block _ (heap_in8 H0.out.2.2)).trans H0.out.2.2)
    have ka := cell_lt a5
    have kc := cell_lt c5
    by_cases hkn : k < n1
    · have hk' : (k : Int) < (n1 : Int) := by omega
      obtain ⟨qa, oa, rfl, a0⟩ := (HK.out.1.up (bstep H0.out.1 HB.out)).2 k hkn
      obtain ⟨qb, ob, rfl, b0⟩ := (HK.out.2.2.1.up (bstep H0.out.1 HB.out)).2 k hkn
      obtain ⟨u, eu⟩ : ∃ u, N1.getD k 0 = u := ⟨_, rfl⟩
      obtain ⟨v, ev⟩ : ∃ v, N2.getD k 0 = v := ⟨_, rfl⟩
      rw [eu] at a0
      rw [ev] at b0
      by_cases he : u = v
      · subst he
        have HN : Hid (∀ i, i < k + 1 → N1.getD i 0 = N2.getD i 0) := fun i hi => by
          rcases Nat.lt_succ_iff_lt_or_eq.1 hi with h2 | rfl
          · exact Hx.out i h2
          · rw [eu, ev]
        clear eu ev
        go_wp2
        go_region
        go_wp2
        go_roundg (n1 - (k + 1))
        case measure => omega
        case rel => exact ⟨k + 1, by omega, rfl, by first | rfl | simp, HN, HB.out.trans ⟨rfl, rfl, rfl, Nat.le_refl _, fun _ _ => rfl⟩⟩
      · have er : r = false := by rw [← HR2.out, decide_eq_false fun h => he (by rw [← eu, ← ev, h.1])]
        subst er
        have he2 : (u != v) = true := by simpa using he
        clear eu ev
        go_wp2
        go_region
        go_wp2
        go_ret
        exact ⟨rfl, (bstep H0.out.1 HB.out).trans ⟨rfl, rfl, rfl, Nat.le_refl _, fun _ _ => rfl⟩⟩
    · have hkm : n1 = k := by omega
      subst hkm
      have HNN : Hid (N1 = N2) := list_ext0 (by rw [HK.out.1.1, HK.out.2.2.1.1]) fun i hi => Hx.out i (by rw [← HK.out.1.1]; exact hi)
      have HB1 : Hid (Below W0.heap.size W0 wr) := HB
      clear Hx HB
      go_wp2_with fail
      clear a5 a6 c5 c6 ka kc hkn
      go_loopg [6] m1 (fun gg v wr => ∃ (k : Nat), k ≤ m1 ∧ gg = m1 - k ∧ v = .int .i64 (k : Int) ∧ Hid (∀ i, i < k → V1.getD i 0 = V2.getD i 0) ∧ Hid (Below W0.heap.size W0 wr))
      case atStart => exact ⟨0, by omega, by omega, rfl, fun i hi => by omega, HB1.out⟩
      case round =>
        obtain ⟨k, hk, hg, rfl, Hx, HB⟩ := hrel
        obtain ⟨⟨_, _, _, _, _, a5, a6⟩, _⟩ := ms_cells ((HB.out.block _ (heap_in8 H0.out.2.1)).trans H0.out.2.1)
        obtain ⟨⟨_, _, _, _, _, c5, c6⟩, _⟩ := ms_cells ((HB.out.block _ (heap_in8 H0.out.2.2)).trans H0.out.2.2)
        have ka := cell_lt a5
        have kc := cell_lt c5
        by_cases hkn : k < m1
        · have hk' : (k : Int) < (m1 : Int) := by omega
          obtain ⟨qa, oa, rfl, a0, a1⟩ := (HK.out.2.1.up (bstep H0.out.1 HB.out)).2.2 k hkn
          obtain ⟨qb, ob, rfl, b0, b1⟩ := (HK.out.2.2.2.up (bstep H0.out.1 HB.out)).2.2 k hkn
          obtain ⟨u, eu⟩ : ∃ u, V1.getD k 0 = u := ⟨_, rfl⟩
          obtain ⟨v, ev⟩ : ∃ v, V2.getD k 0 = v := ⟨_, rfl⟩
          rw [eu] at a0 a1
          rw [ev] at b0 b1
          obtain ⟨u1, e1⟩ : ∃ x, u / 18446744073709551616 = x := ⟨_, rfl⟩
          obtain ⟨u2, e2⟩ : ∃ x, u % 18446744073709551616 = x := ⟨_, rfl⟩
          obtain ⟨y1, g1⟩ : ∃ x, v / 18446744073709551616 = x := ⟨_, rfl⟩
          obtain ⟨y2, g2⟩ : ∃ x, v % 18446744073709551616 = x := ⟨_, rfl⟩
          rw [e1] at a0
          rw [e2] at a1
          rw [g1] at b0
          rw [g2] at b1
          have HU : Hid ((u1, u2) = (y1, y2) ↔ u = v) := by
            show _ ↔ _
            rw [← e1, ← e2, ← g1, ← g2]
            exact ⟨wd_parts, fun h => by rw [h]⟩
          clear e1 e2 g1 g2
          have hq := fun W => wide_eq u1 u2 y1 y2 W
          by_cases he : (u1, u2) = (y1, y2)
          · simp only [decide_eq_true he] at hq
            have HN : Hid (∀ i, i < k + 1 → V1.getD i 0 = V2.getD i 0) := fun i hi => by
              rcases Nat.lt_succ_iff_lt_or_eq.1 hi with h2 | rfl
              · exact Hx.out i h2
              · rw [eu, ev]; exact HU.out.1 he
            clear he eu ev
            go_wp2
            go_region
            go_wp2
            go_roundg (m1 - (k + 1))
            case measure => omega
            case rel => exact ⟨k + 1, by omega, rfl, by first | rfl | simp, HN, HB.out.trans ⟨rfl, rfl, rfl, Nat.le_refl _, fun _ _ => rfl⟩⟩
          · simp only [decide_eq_false he] at hq
            have er : r = false := by rw [← HR2.out, decide_eq_false fun h => he (HU.out.2 (by rw [← eu, ← ev, h.2]))]
            subst er
            clear he eu ev
            go_wp2
            go_region
            go_wp2
            go_ret
            exact ⟨rfl, (bstep H0.out.1 HB.out).trans ⟨rfl, rfl, rfl, Nat.le_refl _, fun _ _ => rfl⟩⟩
        · have hkm : m1 = k := by omega
          subst hkm
          have er : r = true := by
            rw [← HR2.out, decide_eq_true ⟨HNN.out, list_ext0 (by rw [HK.out.2.1.1, HK.out.2.2.2.1]) fun i hi => Hx.out i (by rw [← HK.out.2.1.1]; exact hi)⟩]
          subst er
          go_wp2
          go_ret
          exact ⟨rfl, bstep H0.out.1 HB.out⟩
end Go.Proofs.Ythmpfdkbpdbhnaa.Wd
