/- The program's messages: Same. -/
import Derived.Test.YthmpfdkbpdbhnaaMsS
import Derived.Test.YthmpfdkbpdbhnaaMsX
namespace Go.Proofs.Ythmpfdkbpdbhnaa.Wd
open Go.RowKit
set_option linter.unusedVariables false
set_option linter.unusedSimpArgs false
set_option maxRecDepth 8000
set_option maxHeartbeats 8000000
theorem equal64_any (p p2 : Option Addr) (n c n2 c2 : Nat) (a b : List Int) (hm : n ≤ 1073741824) (w : World) (hu : Lsn w p n a) (hv : Lsn w p2 n2 b) :
    Calls Try.prog 28 #[.slice p n c, .slice p2 n2 c2] w fun e w' => e = .returned (.bool (decide (a = b))) ∧ Below w.heap.size w w' := by
  obtain ⟨r, er⟩ : ∃ r : Bool, decide (a = b) = r := ⟨_, rfl⟩
  have HR : Hid (decide (a = b) = r) := er
  have HA : Hid (Lsn w p n a) := hu
  have HB : Hid (Lsn w p2 n2 b) := hv
  rw [er]
  clear er hv hu
  go_enter Try.func28, Try.ntmps28
  by_cases hn : n = n2
  · subst hn
    go_wp2_with fail
    go_loopg [13] n (fun gg v wr => ∃ (k : Nat), k ≤ n ∧ gg = n - k ∧ v = .int .i64 (k : Int) ∧ Hid (∀ i, i < k → a.getD i 0 = b.getD i 0) ∧ Hid (Below w.heap.size w wr))
    case atStart => exact ⟨0, by omega, by omega, rfl, fun i hi => by omega, Below.refl _ _⟩
    case round =>
      obtain ⟨k, hk, hg, rfl, Hx, HW⟩ := hrel
      by_cases hkn : k < n
      · have hk' : (k : Int) < (n : Int) := by omega
        obtain ⟨q, o, rfl, a0⟩ := (HA.out.up HW.out).2 k hkn
        obtain ⟨q2, o2, rfl, b0⟩ := (HB.out.up HW.out).2 k hkn
        obtain ⟨x, ex⟩ : ∃ x, a.getD k 0 = x := ⟨_, rfl⟩
        obtain ⟨y, ey⟩ : ∃ y, b.getD k 0 = y := ⟨_, rfl⟩
        have HE : Hid (a.getD k 0 = x ∧ b.getD k 0 = y) := ⟨ex, ey⟩
        rw [ex] at a0
        rw [ey] at b0
        clear ex ey
        by_cases hxy : x = y
        · subst hxy
          have Hn : Hid (∀ i, i < k + 1 → a.getD i 0 = b.getD i 0) := fun i hi => by
            rcases Nat.lt_succ_iff_lt_or_eq.1 hi with h | rfl
            · exact Hx.out i h
            · rw [HE.out.1, HE.out.2]
          clear Hx HR HE 
          go_wp2
          go_region
          all_goals
            go_wp2
            go_roundg (n - (k + 1))
          case measure => omega
          case rel => exact ⟨k + 1, by omega, rfl, by first | rfl | simp, Hn, HW.out.trans ⟨rfl, rfl, rfl, Nat.le_refl _, fun _ _ => rfl⟩⟩
        · have hxy' : (x != y) = true := by simp [hxy]
          have er : r = false := by rw [← HR.out, decide_eq_false fun h => hxy (by rw [← HE.out.1, ← HE.out.2, h])]
          subst er
          clear Hx HR HE 
          go_wp2
          go_region
          all_goals go_wp2
          all_goals
            go_ret
            exact ⟨rfl, HW.out.trans ⟨rfl, rfl, rfl, Nat.le_refl _, fun _ _ => rfl⟩⟩
      · have hin : n = k := by omega
        subst hin
        have er : r = true := by
          rw [← HR.out, decide_eq_true (list_ext0 (by rw [HA.out.1, HB.out.1]) fun i hi => Hx.out i (by rw [← HA.out.1]; exact hi))]
        subst er
        clear Hx HR
        go_wp2
        go_ret
        exact ⟨rfl, HW.out⟩
  · have er : r = false := by rw [← HR.out, decide_eq_false fun h => hn (by rw [← HA.out.1, ← HB.out.1, h])]
    subst er
    have hn' : ((n : Int) != (n2 : Int)) = true := by
      have : (n : Int) ≠ (n2 : Int) := by omega
      simpa using this
    clear HR HA HB hn
    go_wp2
    go_ret
    exact ⟨rfl, by go_grown⟩
theorem equalW_any (p p2 : Option Addr) (n c n2 c2 : Nat) (a b : List Int) (hm : n ≤ 1073741824) (w : World) (hu : WdR w p n a) (hv : WdR w p2 n2 b) :
    Calls Try.prog 29 #[.slice p n c, .slice p2 n2 c2] w fun e w' => e = .returned (.bool (decide (a = b))) ∧ Below w.heap.size w w' := by
  obtain ⟨r, er⟩ : ∃ r : Bool, decide (a = b) = r := ⟨_, rfl⟩
  have HR : Hid (decide (a = b) = r) := er
  have HA : Hid (WdR w p n a) := hu
  have HB : Hid (WdR w p2 n2 b) := hv
  rw [er]
  clear er hv hu
  go_enter Try.func29, Try.ntmps29
  by_cases hn : n = n2
  · subst hn
    go_wp2_with fail
    go_loopg [13] n (fun gg v wr => ∃ (k : Nat), k ≤ n ∧ gg = n - k ∧ v = .int .i64 (k : Int) ∧ Hid (∀ i, i < k → a.getD i 0 = b.getD i 0) ∧ Hid (Below w.heap.size w wr))
    case atStart => exact ⟨0, by omega, by omega, rfl, fun i hi => by omega, Below.refl _ _⟩
    case round =>
      obtain ⟨k, hk, hg, rfl, Hx, HW⟩ := hrel
      by_cases hkn : k < n
      · have hk' : (k : Int) < (n : Int) := by omega
        obtain ⟨q, o, rfl, a0, a1⟩ := (HA.out.up HW.out).2.2 k hkn
        obtain ⟨q2, o2, rfl, b0, b1⟩ := (HB.out.up HW.out).2.2 k hkn
        obtain ⟨x, ex⟩ : ∃ x, a.getD k 0 = x := ⟨_, rfl⟩
        obtain ⟨y, ey⟩ : ∃ y, b.getD k 0 = y := ⟨_, rfl⟩
        have HE : Hid (a.getD k 0 = x ∧ b.getD k 0 = y) := ⟨ex, ey⟩
        rw [ex] at a0 a1
        rw [ey] at b0 b1
        clear ex ey
        obtain ⟨u1, e1⟩ : ∃ z, x / 18446744073709551616 = z := ⟨_, rfl⟩
        obtain ⟨u2, e2⟩ : ∃ z, x % 18446744073709551616 = z := ⟨_, rfl⟩
        obtain ⟨y1, g1⟩ : ∃ z, y / 18446744073709551616 = z := ⟨_, rfl⟩
        obtain ⟨y2, g2⟩ : ∃ z, y % 18446744073709551616 = z := ⟨_, rfl⟩
        rw [e1] at a0
        rw [e2] at a1
        rw [g1] at b0
        rw [g2] at b1
        have HU : Hid ((u1, u2) = (y1, y2) ↔ x = y) := by
          show _ ↔ _
          rw [← e1, ← e2, ← g1, ← g2]
          exact ⟨wd_parts, fun h => by rw [h]⟩
        clear e1 e2 g1 g2
        have hq := fun W => wide_eq u1 u2 y1 y2 W
        by_cases he : (u1, u2) = (y1, y2)
        · simp only [decide_eq_true he] at hq
          have Hn : Hid (∀ i, i < k + 1 → a.getD i 0 = b.getD i 0) := fun i hi => by
            rcases Nat.lt_succ_iff_lt_or_eq.1 hi with h2 | rfl
            · exact Hx.out i h2
            · rw [HE.out.1, HE.out.2]; exact HU.out.1 he
          clear Hx HR HE HU he
          go_wp2
          go_region
          all_goals
            go_wp2
            go_roundg (n - (k + 1))
          case measure => omega
          case rel => exact ⟨k + 1, by omega, rfl, by first | rfl | simp, Hn, HW.out.trans ⟨rfl, rfl, rfl, Nat.le_refl _, fun _ _ => rfl⟩⟩
        · simp only [decide_eq_false he] at hq
          have er : r = false := by rw [← HR.out, decide_eq_false fun h => he (HU.out.2 (by rw [← HE.out.1, ← HE.out.2, h]))]
          subst er
          clear Hx HR HE HU he
          go_wp2
          go_region
          all_goals go_wp2
          all_goals
            go_ret
            exact ⟨rfl, HW.out.trans ⟨rfl, rfl, rfl, Nat.le_refl _, fun _ _ => rfl⟩⟩
      · have hin : n = k := by omega
        subst hin
        have er : r = true := by
          rw [← HR.out, decide_eq_true (list_ext0 (by rw [HA.out.1, HB.out.1]) fun i hi => Hx.out i (by rw [← HA.out.1]; exact hi))]
        subst er
        clear Hx HR
        go_wp2
        go_ret
        exact ⟨rfl, HW.out⟩
  · have er : r = false := by rw [← HR.out, decide_eq_false fun h => hn (by rw [← HA.out.1, ← HB.out.1, h])]
    subst er
    have hn' : ((n : Int) != (n2 : Int)) = true := by
      have : (n : Int) ≠ (n2 : Int) := by omega
      simpa using this
    clear HR HA HB hn
    go_wp2
    go_ret
    exact ⟨rfl, by go_grown⟩
theorem pmsame_any (k1 f1 t1 v1 s1 k2 f2 t2 v2 s2 : Int) (pn1 pv1 pn2 pv2 : Option Addr) (n1 cn1 m1 cv1 n2 cn2 m2 cv2 : Nat) (N1 V1 N2 V2 : List Int) (hb1 : n1 ≤ 1073741824) (hb2 : m1 ≤ 1073741824) (w : World) (h1 : MsgR w pn1 n1 cn1 pv1 m1 cv1 N1 V1) (h2 : MsgR w pn2 n2 cn2 pv2 m2 cv2 N2 V2) :
    Calls Try.prog 12 #[MsV k1 f1 t1 v1 s1 (.slice pn1 n1 cn1) (.slice pv1 m1 cv1), MsV k2 f2 t2 v2 s2 (.slice pn2 n2 cn2) (.slice pv2 m2 cv2)] w fun e w' => e = .returned (.bool (decide (k1 = k2 ∧ f1 = f2 ∧ t1 = t2 ∧ v1 = v2 ∧ s1 = s2 ∧ N1 = N2 ∧ V1 = V2))) ∧ Below w.heap.size w w' := by
  have cA := fun W (hW : Below w.heap.size w W) => equal64_any pn1 pn2 n1 cn1 n2 cn2 N1 N2 hb1 W (lsn_of (h1.up hW).nums h1.nlen) (lsn_of (h2.up hW).nums h2.nlen)
  have cB := fun W (hW : Below w.heap.size w W) => equalW_any pv1 pv2 m1 cv1 m2 cv2 V1 V2 hb2 W ((h1.up hW).wds) ((h2.up hW).wds)
  unfold MsV
  obtain ⟨r, er⟩ : ∃ r : Bool, decide (k1 = k2 ∧ f1 = f2 ∧ t1 = t2 ∧ v1 = v2 ∧ s1 = s2 ∧ N1 = N2 ∧ V1 = V2) = r := ⟨_, rfl⟩
  obtain ⟨rN, erN⟩ : ∃ r : Bool, decide (N1 = N2) = r := ⟨_, rfl⟩
  obtain ⟨rV, erV⟩ : ∃ r : Bool, decide (V1 = V2) = r := ⟨_, rfl⟩
  have HR : Hid (decide (k1 = k2 ∧ f1 = f2 ∧ t1 = t2 ∧ v1 = v2 ∧ s1 = s2 ∧ N1 = N2 ∧ V1 = V2) = r ∧ decide (N1 = N2) = rN ∧ decide (V1 = V2) = rV) := ⟨er, erN, erV⟩
  rw [er]
  rw [erN] at cA
  rw [erV] at cB
  clear er erN erV h1 h2
  by_cases hc : k1 = k2
  case neg =>
    have er : r = false := by rw [← HR.out.1, decide_eq_false fun h => hc h.1]
    subst er
    have hm' : (k1 == k2) = false := by simpa using hc
    clear hc HR cA cB
    go_enter Try.func12, Try.ntmps12
    go_wp2
    go_ret
    exact ⟨rfl, by go_grown⟩
  subst hc
  by_cases hc : f1 = f2
  case neg =>
    have er : r = false := by rw [← HR.out.1, decide_eq_false fun h => hc h.2.1]
    subst er
    have hm' : (f1 == f2) = false := by simpa using hc
    clear hc HR cA cB
    go_enter Try.func12, Try.ntmps12
    go_wp2
    go_ret
    exact ⟨rfl, by go_grown⟩
  subst hc
  by_cases hc : t1 = t2
  case neg =>
    have er : r = false := by rw [← HR.out.1, decide_eq_false fun h => hc h.2.2.1]
    subst er
    have hm' : (t1 == t2) = false := by simpa using hc
    clear hc HR cA cB
    go_enter Try.func12, Try.ntmps12
    go_wp2
    go_ret
    exact ⟨rfl, by go_grown⟩
  subst hc
  by_cases hc : v1 = v2
  case neg =>
    have er : r = false := by rw [← HR.out.1, decide_eq_false fun h => hc h.2.2.2.1]
    subst er
    have hm' : (v1 == v2) = false := by simpa using hc
    clear hc HR cA cB
    go_enter Try.func12, Try.ntmps12
    go_wp2
    go_ret
    exact ⟨rfl, by go_grown⟩
  subst hc
  by_cases hc : s1 = s2
  case neg =>
    have er : r = false := by rw [← HR.out.1, decide_eq_false fun h => hc h.2.2.2.2.1]
    subst er
    have hm' : (s1 == s2) = false := by simpa using hc
    clear hc HR cA cB
    go_enter Try.func12, Try.ntmps12
    go_wp2
    go_ret
    exact ⟨rfl, by go_grown⟩
  subst hc
  have HR2 : Hid (decide (N1 = N2 ∧ V1 = V2) = r ∧ decide (N1 = N2) = rN ∧ decide (V1 = V2) = rV) := by
    show _ ∧ _
    have h := HR.out
    simp only [true_and] at h
    exact h
  clear HR
  go_enter Try.func12, Try.ntmps12
  obtain ⟨W0, eW0⟩ : ∃ W, (w.alloc (.cells #[.int .i64 k1, .int .i64 f1, .int .i64 t1, .int .u32 v1, .int .u32 s1, .slice pn1 n1 cn1, .slice pv1 m1 cv1] 27)).alloc (.cells #[.int .i64 k1, .int .i64 f1, .int .i64 t1, .int .u32 v1, .int .u32 s1, .slice pn2 n2 cn2, .slice pv2 m2 cv2] 27) = W := ⟨_, rfl⟩
  have H0 : Hid (Below w.heap.size w W0 ∧ W0.heap[w.heap.size]? = some (.cells #[.int .i64 k1, .int .i64 f1, .int .i64 t1, .int .u32 v1, .int .u32 s1, .slice pn1 n1 cn1, .slice pv1 m1 cv1] 27 (0, 0)) ∧ W0.heap[w.heap.size + 1]? = some (.cells #[.int .i64 k1, .int .i64 f1, .int .i64 t1, .int .u32 v1, .int .u32 s1, .slice pn2 n2 cn2, .slice pv2 m2 cv2] 27 (0, 0))) := by
    rw [← eW0]
    refine ⟨bstep (up_alloc _ _) (up_alloc _ _), ?_, ?_⟩
    · show ((w.heap.push _).push _)[w.heap.size]? = _
      rw [Array.getElem?_push_lt (by simp)]
      simp
    · have h := (Array.getElem?_push_size : ((w.heap.push (.cells #[.int .i64 k1, .int .i64 f1, .int .i64 t1, .int .u32 v1, .int .u32 s1, .slice pn1 n1 cn1, .slice pv1 m1 cv1] 27 (0, 0))).push (.cells #[.int .i64 k1, .int .i64 f1, .int .i64 t1, .int .u32 v1, .int .u32 s1, .slice pn2 n2 cn2, .slice pv2 m2 cv2] 27 (0, 0)))[(w.heap.push (.cells #[.int .i64 k1, .int .i64 f1, .int .i64 t1, .int .u32 v1, .int .u32 s1, .slice pn1 n1 cn1, .slice pv1 m1 cv1] 27 (0, 0))).size]? = some _)
      rw [Array.size_push] at h
      exact h
  have EW : Hid ((w.alloc (.cells #[.int .i64 k1, .int .i64 f1, .int .i64 t1, .int .u32 v1, .int .u32 s1, .slice pn1 n1 cn1, .slice pv1 m1 cv1] 27)).alloc (.cells #[.int .i64 k1, .int .i64 f1, .int .i64 t1, .int .u32 v1, .int .u32 s1, .slice pn2 n2 cn2, .slice pv2 m2 cv2] 27) = W0) := eW0
  clear eW0
  obtain ⟨⟨a0, a1, a2, a3, a4, a5, a6⟩, _⟩ := ms_cells H0.out.2.1
  obtain ⟨⟨c0, c1, c2, c3, c4, c5, c6⟩, _⟩ := ms_cells H0.out.2.2
  go_wp2_with fail
  (try rw [EW.out])
  go_wp2_with fail
  refine (cA W0 H0.out.1).mono ?_
  rintro e w1 ⟨rfl, hb1'⟩
  have H1 : Hid (Below w.heap.size w w1) := bstep H0.out.1 hb1'
  replace a0 := still_cell hb1' a0
  replace a1 := still_cell hb1' a1
  replace a2 := still_cell hb1' a2
  replace a3 := still_cell hb1' a3
  replace a4 := still_cell hb1' a4
  replace a5 := still_cell hb1' a5
  replace a6 := still_cell hb1' a6
  replace c0 := still_cell hb1' c0
  replace c5 := still_cell hb1' c5
  replace c6 := still_cell hb1' c6
  have ka := cell_lt a0
  have kc := cell_lt c0
  clear hb1' H0 EW
  cases rN with
  | false =>
    have er : r = false := by rw [← HR2.out.1, decide_eq_false fun h => of_decide_eq_false HR2.out.2.1 h.1]
    subst er
    clear cA cB HR2
    go_wp2
    go_ret
    exact ⟨rfl, H1.out⟩
  | true =>
    have er : rV = r := by
      rw [← HR2.out.1, ← HR2.out.2.2]
      exact decide_eq_decide.2 ⟨fun h => ⟨of_decide_eq_true HR2.out.2.1, h⟩, fun h => h.2⟩
    subst er
    clear cA HR2
    go_wp2_with fail
    refine (cB w1 H1.out).mono ?_
    rintro e w2 ⟨rfl, hb2'⟩
    have H2 : Hid (Below w.heap.size w w2) := bstep H1.out hb2'
    clear cB hb2' H1
    go_wp2
    go_ret
    exact ⟨rfl, H2.out⟩
end Go.Proofs.Ythmpfdkbpdbhnaa.Wd
