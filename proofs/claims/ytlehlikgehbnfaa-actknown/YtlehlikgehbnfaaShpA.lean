/- What package shape's Size, Good, Same and the reference's hand back. What package shape's Strides, Place, At and the reference's hand back. What package shape's fromLast, joined and Join hand back. What package shape's Join hands back. -/
import Derived.Test.YtlehlikgehbnfaaProg
import Derived.WalkKit
import Derived.ProofKit
import Derived.WalkSpells
import Derived.Handy
import Derived.Deep.LoopGhost
import Derived.Deep.Draws
import Derived.BigQuiet
import Derived.Deep.QuietTactic
import Derived.WalkSmall
import Derived.Test.YtlehlikgehbnfaaRow
import Derived.Test.YtlehlikgehbnfaaShpM
namespace Go.Proofs.Ytlehlikgehbnfaa.Wd
open Go.RowKit
set_option linter.unusedVariables false
set_option linter.unusedSimpArgs false
/-- Go's ints. -/
def RI (l : List Int) : Prop := ∀ y, y ∈ l → -9223372036854775808 ≤ y ∧ y ≤ 9223372036854775807
theorem RI.at {l : List Int} (h : RI l) (k : Nat) (hk : k < l.length) : -9223372036854775808 ≤ l.getD k 0 ∧ l.getD k 0 ≤ 9223372036854775807 := by
  rw [getD_lt l k 0 hk]
  exact h _ (List.getElem_mem hk)
/-- A slice's cells, as a walk reads them. -/
def Lst (w : World) (p : Option Addr) (n : Nat) (l : List Int) : Prop := l.length = n ∧ ∀ j, j < n → ∃ q o, p = some ⟨q, o, none⟩ ∧ w.cell? ⟨q, o + j, none⟩ = some (.int .i64 (l.getD j 0))
theorem Nums.lst {w : World} {v : Value} {l : List Int} (h : Nums .i64 w v l) : ∃ p n c, v = .slice p n c ∧ Hid (Lst w p n l) := by
  obtain ⟨p, c, rfl, hc⟩ := h.view
  exact ⟨p, _, c, rfl, rfl, hc⟩
set_option maxHeartbeats 1000000 in
theorem size_any (v : Value) (l : List Int) (hl : RI l) (w : World) (hv : Nums .i64 w v l) :
    Calls Try.prog 47 #[v] w fun e w' => e = .returned (.int .i64 ((sizeN (ntl l) : Nat) : Int)) ∧ w' = w := by
  obtain ⟨p, n, c, rfl, HC⟩ := hv.lst
  have HL : Hid (RI l) := hl
  obtain ⟨r, er⟩ : ∃ r : Int, ((sizeN (ntl l) : Nat) : Int) = r := ⟨_, rfl⟩
  have HR : Hid (((sizeN (ntl l) : Nat) : Int) = r) := er
  rw [er]
  clear er hv hl
  go_enter Try.func47, Try.ntmps47
  by_cases hn : 4 < n
  · have hn' : (4 : Int) < (n : Int) := by omega
    go_wp2
    go_ret
    have := long_bad (l := l) (by rw [HC.out.1]; exact hn)
    rw [← HR.out, sizeN_bad this]
    exact ⟨rfl, rfl⟩
  have hn' : (n : Int) ≤ 4 := by omega
  go_wp2_with fail
  go_loopg [3, 11] n (fun gg u v wr => ∃ (k : Nat) (x : Int), k ≤ n ∧ gg = n - k ∧ u = .int .i64 x ∧ v = .int .i64 (k : Int) ∧ Hid (x = pK l k ∧ okK l k) ∧ 1 ≤ x ∧ x ≤ 4096 ∧ wr = w)
  case atStart => exact ⟨0, 1, by omega, by omega, rfl, rfl, ⟨(pK_zero l).symm, okK_zero l⟩, by omega, by omega, rfl⟩
  case round =>
    obtain ⟨k, x, hk, hg, rfl, rfl, Hx, hx0, hx1, rfl⟩ := hrel
    by_cases hkn : k < n
    · have hk' : (k : Int) < (n : Int) := by omega
      obtain ⟨q, o, rfl, hcell⟩ := HC.out.2 k hkn
      have hkl : k < l.length := by rw [HC.out.1]; exact hkn
      have Hk : Hid (k < l.length) := hkl
      have hy := HL.out.at k hkl
      obtain ⟨y, ey⟩ : ∃ y, l.getD k 0 = y := ⟨_, rfl⟩
      have Hy : Hid (l.getD k 0 = y) := ey
      rw [ey] at hcell hy
      obtain ⟨qq, eq⟩ : ∃ qq, (4096 : Int) / x = qq := ⟨_, rfl⟩
      have hq1 : 0 ≤ qq ∧ qq ≤ 4096 := by
        rw [← eq]
        exact ⟨Int.ediv_nonneg (by omega) (by omega), Int.ediv_le_self _ (by omega)⟩
      have hqt : Int.tdiv 4096 x = qq := by rw [Int.tdiv_eq_ediv_of_nonneg (by omega)]; exact eq
      clear ey hkl
      by_cases hy1 : y < 1
      · go_wp2
        go_ret
        rw [← HR.out, sizeN_bad (bad_low Hk.out (by rw [Hy.out]; exact hy1))]
        exact ⟨rfl, rfl⟩
      by_cases hy2 : qq < y
      · have hbad : ¬ goodN (ntl l) := bad_great Hk.out (by rw [Hy.out]; omega) (by rw [Hy.out, ← Hx.out.1]; exact quo_gt x y hx0 hx1 (by rw [eq]; exact hy2))
        have Hbad : Hid (¬ goodN (ntl l)) := hbad
        clear hbad eq
        go_wp2
        go_ret
        rw [← HR.out, sizeN_bad Hbad.out]
        exact ⟨rfl, rfl⟩
      · obtain ⟨m, em⟩ : ∃ m, x * y = m := ⟨_, rfl⟩
        have hm := quo_le x y hx0 hx1 (by rw [eq]; omega) (by omega)
        rw [em] at hm
        have Hn : Hid (m = pK l (k + 1) ∧ okK l (k + 1)) := ⟨by rw [pK_succ l k Hk.out (by rw [Hy.out]; omega), ← Hx.out.1, Hy.out, em], okK_succ Hx.out.2 (by rw [Hy.out]; omega)⟩
        clear eq
        go_wp2
        go_roundg (n - (k + 1))
        case measure => omega
        case rel => exact ⟨k + 1, m, by omega, rfl, by first | rfl | simp [em], by first | rfl | simp, Hn, hm.2, hm.1, rfl⟩
    · obtain rfl : k = n := by omega
      go_wp2
      go_ret
      have hlen := HC.out.1
      subst hlen
      have := good_end (l := l) (by omega) Hx.out.2 (by rw [← Hx.out.1]; exact hx1)
      rw [← HR.out, sizeN_good this.1, ← this.2, ← Hx.out.1]
      exact ⟨rfl, rfl⟩
set_option maxHeartbeats 1000000 in
theorem good_any (v : Value) (l : List Int) (hl : RI l) (w : World) (hv : Nums .i64 w v l) :
    Calls Try.prog 46 #[v] w fun e w' => e = .returned (.bool (decide (goodN (ntl l)))) ∧ w' = w := by
  have cs := size_any v l hl w hv
  have ei : decide (((sizeN (ntl l) : Nat) : Int) > 0) = decide (goodN (ntl l)) := by
    have := sizeN_iff (ntl l)
    exact decide_eq_decide.2 ⟨fun h => this.1 (by omega), fun h => by have := this.2 h; omega⟩
  obtain ⟨r, er⟩ : ∃ r : Int, ((sizeN (ntl l) : Nat) : Int) = r := ⟨_, rfl⟩
  rw [er] at cs ei
  rw [← ei]
  clear er ei hv
  go_enter Try.func46, Try.ntmps46
  go_wp2_with fail
  refine cs.mono ?_
  rintro e w1 ⟨rfl, rfl⟩
  go_wp2
  go_ret
  exact ⟨rfl, rfl⟩
set_option maxHeartbeats 1000000 in
theorem rgood_any (v : Value) (l : List Int) (hl : RI l) (w : World) (hv : Nums .i64 w v l) :
    Calls Try.prog 59 #[v] w fun e w' => e = .returned (.bool (decide (goodN (ntl l)))) ∧ w' = w := by
  obtain ⟨p, n, c, rfl, HC⟩ := hv.lst
  have HL : Hid (RI l) := hl
  obtain ⟨r, er⟩ : ∃ r : Bool, decide (goodN (ntl l)) = r := ⟨_, rfl⟩
  have HR : Hid (decide (goodN (ntl l)) = r) := er
  rw [er]
  clear er hv hl
  go_enter Try.func59, Try.ntmps59
  by_cases hn : 4 < n
  · have hn' : (4 : Int) < (n : Int) := by omega
    go_wp2
    go_ret
    have := long_bad (l := l) (by rw [HC.out.1]; exact hn)
    rw [← HR.out, decide_eq_false this]
    exact ⟨rfl, rfl⟩
  have hn' : (n : Int) ≤ 4 := by omega
  go_wp2_with fail
  go_loopg [3, 4] n (fun gg u v wr => ∃ (k : Nat) (x : Int), k ≤ n ∧ gg = n - k ∧ u = .int .i64 x ∧ v = .int .i64 (k : Int) ∧ Hid (x = pK l k ∧ okK l k) ∧ 1 ≤ x ∧ x ≤ 4096 ∧ wr = w)
  case atStart => exact ⟨0, 1, by omega, by omega, rfl, rfl, ⟨(pK_zero l).symm, okK_zero l⟩, by omega, by omega, rfl⟩
  case round =>
    obtain ⟨k, x, hk, hg, rfl, rfl, Hx, hx0, hx1, rfl⟩ := hrel
    by_cases hkn : k < n
    · have hk' : (k : Int) < (n : Int) := by omega
      obtain ⟨q, o, rfl, hcell⟩ := HC.out.2 k hkn
      have hkl : k < l.length := by rw [HC.out.1]; exact hkn
      have Hk : Hid (k < l.length) := hkl
      have hy := HL.out.at k hkl
      obtain ⟨y, ey⟩ : ∃ y, l.getD k 0 = y := ⟨_, rfl⟩
      have Hy : Hid (l.getD k 0 = y) := ey
      rw [ey] at hcell hy
      clear ey hkl
      by_cases hy1 : y < 1
      · go_wp2
        go_ret
        rw [← HR.out, decide_eq_false (bad_low Hk.out (by rw [Hy.out]; exact hy1))]
        exact ⟨rfl, rfl⟩
      by_cases hy2 : 4096 < y
      · have Hbad : Hid (¬ goodN (ntl l)) := fun hg => by
          have := good_at hg k Hk.out
          rw [Hy.out] at this
          omega
        go_wp2
        go_ret
        rw [← HR.out, decide_eq_false Hbad.out]
        exact ⟨rfl, rfl⟩
      obtain ⟨m, em⟩ : ∃ m, x * y = m := ⟨_, rfl⟩
      have hm := mul_rng x y hx0 hx1 (by omega) (by omega)
      rw [em] at hm
      by_cases hm2 : 4096 < m
      · have Hbad : Hid (¬ goodN (ntl l)) := bad_great Hk.out (by rw [Hy.out]; omega) (by rw [Hy.out, ← Hx.out.1, em]; exact hm2)
        go_wp2
        go_ret
        rw [← HR.out, decide_eq_false Hbad.out]
        exact ⟨rfl, rfl⟩
      · have Hn : Hid (m = pK l (k + 1) ∧ okK l (k + 1)) := ⟨by rw [pK_succ l k Hk.out (by rw [Hy.out]; omega), ← Hx.out.1, Hy.out, em], okK_succ Hx.out.2 (by rw [Hy.out]; omega)⟩
        go_wp2
        go_roundg (n - (k + 1))
        case measure => omega
        case rel => exact ⟨k + 1, m, by omega, rfl, by first | rfl | simp [em], by first | rfl | simp, Hn, hm.1, by omega, rfl⟩
    · obtain rfl : k = n := by omega
      go_wp2
      go_ret
      have hlen := HC.out.1
      subst hlen
      have := good_end (l := l) (by omega) Hx.out.2 (by rw [← Hx.out.1]; exact hx1)
      rw [← HR.out, decide_eq_true this.1]
      exact ⟨rfl, rfl⟩
set_option maxHeartbeats 1000000 in
theorem rsize_any (v : Value) (l : List Int) (hl : RI l) (w : World) (hv : Nums .i64 w v l) :
    Calls Try.prog 60 #[v] w fun e w' => e = .returned (.int .i64 ((sizeN (ntl l) : Nat) : Int)) ∧ w' = w := by
  have cg := rgood_any v l hl w hv
  obtain ⟨p, n, c, rfl, HC⟩ := hv.lst
  obtain ⟨r, er⟩ : ∃ r : Int, ((sizeN (ntl l) : Nat) : Int) = r := ⟨_, rfl⟩
  have HR : Hid (((sizeN (ntl l) : Nat) : Int) = r) := er
  rw [er]
  clear er hv hl
  go_enter Try.func60, Try.ntmps60
  go_wp2_with fail
  refine cg.mono ?_
  rintro e w1 ⟨rfl, rfl⟩
  by_cases hgood : goodN (ntl l)
  · rw [decide_eq_true hgood]
    have hn : n ≤ 4 := by rw [← HC.out.1, ← ntl_len]; exact hgood.1
    have hn' : (n : Int) ≤ 4 := by omega
    have HG : Hid (goodN (ntl l)) := hgood
    clear hgood cg
    go_wp2_with fail
    go_loopg [3, 4] n (fun gg u v wr => ∃ (k : Nat) (x : Int), k ≤ n ∧ gg = n - k ∧ u = .int .i64 x ∧ v = .int .i64 (k : Int) ∧ Hid (x = pK l k) ∧ 1 ≤ x ∧ x ≤ 4096 ∧ wr = w1)
    case atStart => exact ⟨0, 1, by omega, by omega, rfl, rfl, (pK_zero l).symm, by omega, by omega, rfl⟩
    case round =>
      obtain ⟨k, x, hk, hg, rfl, rfl, Hx, hx0, hx1, rfl⟩ := hrel
      by_cases hkn : k < n
      · have hk' : (k : Int) < (n : Int) := by omega
        obtain ⟨q, o, rfl, hcell⟩ := HC.out.2 k hkn
        have hkl : k < l.length := by rw [HC.out.1]; exact hkn
        have Hk : Hid (k < l.length) := hkl
        have hy := good_at HG.out k hkl
        obtain ⟨y, ey⟩ : ∃ y, l.getD k 0 = y := ⟨_, rfl⟩
        have Hy : Hid (l.getD k 0 = y) := ey
        rw [ey] at hcell hy
        clear ey hkl
        obtain ⟨m, em⟩ : ∃ m, x * y = m := ⟨_, rfl⟩
        have Hn : Hid (m = pK l (k + 1)) := by show _ = _; rw [pK_succ l k Hk.out (by rw [Hy.out]; omega), ← Hx.out, Hy.out, em]
        have hm := good_pK HG.out (k + 1)
        rw [← Hn.out] at hm
        go_wp2
        go_roundg (n - (k + 1))
        case measure => omega
        case rel => exact ⟨k + 1, m, by omega, rfl, by first | rfl | simp [em], by first | rfl | simp, Hn, hm.1, hm.2, rfl⟩
      · obtain rfl : k = n := by omega
        go_wp2
        go_ret
        have hlen := HC.out.1
        rw [← HR.out, sizeN_good HG.out, Hx.out]
        unfold pK
        rw [List.take_of_length_le (by rw [ntl_len]; omega)]
        exact ⟨rfl, rfl⟩
  · rw [decide_eq_false hgood]
    have HG : Hid (¬ goodN (ntl l)) := hgood
    clear hgood cg
    go_wp2
    go_ret
    rw [← HR.out, sizeN_bad HG.out]
    exact ⟨rfl, rfl⟩
theorem ne_at {a b : List Int} {n k : Nat} (ha : a.length = n) (hb : b.length = n) (hk : k < n) (h : a.getD k 0 ≠ b.getD k 0) : ¬ a = b := fun e => h (by rw [e])
theorem eq_all {a b : List Int} {n : Nat} (ha : a.length = n) (hb : b.length = n) (h : ∀ i, i < n → a.getD i 0 = b.getD i 0) : a = b :=
  List.ext_getElem (by omega) fun i h1 h2 => by
    have := h i (by omega)
    rw [getD_lt a i 0 h1, getD_lt b i 0 h2] at this
    exact this
set_option maxHeartbeats 2000000 in
theorem equal_any (u v : Value) (a b : List Int) (hm : a.length ≤ 9223372036854775807) (w : World) (hu : Nums .i64 w u a) (hv : Nums .i64 w v b) :
    Calls Try.prog 23 #[u, v] w fun e w' => e = .returned (.bool (decide (a = b))) ∧ ∃ n, w' = w.drewN n := by
  obtain ⟨p, n, c, rfl, HA⟩ := hu.lst
  obtain ⟨p2, n2, c2, rfl, HB⟩ := hv.lst
  obtain ⟨r, er⟩ : ∃ r : Bool, decide (a = b) = r := ⟨_, rfl⟩
  have HR : Hid (decide (a = b) = r) := er
  rw [er]
  rw [HA.out.1] at hm
  have hm' : (n : Int) ≤ 9223372036854775807 := by omega
  clear er hv hu
  go_enter Try.func23, Try.ntmps23
  by_cases hn : n = n2
  · subst hn
    go_wp2_with fail
    go_loopg [13] n (fun gg v wr => ∃ (k d : Nat), k ≤ n ∧ gg = n - k ∧ v = .int .i64 (k : Int) ∧ Hid (∀ i, i < k → a.getD i 0 = b.getD i 0) ∧ wr = w.drewN d)
    case atStart => exact ⟨0, 0, by omega, by omega, rfl, fun i hi => by omega, rfl⟩
    case round =>
      obtain ⟨k, d, hk, hg, rfl, Hx, rfl⟩ := hrel
      by_cases hkn : k < n
      · have hk' : (k : Int) < (n : Int) := by omega
        obtain ⟨q, o, rfl, ca⟩ := HA.out.2 k hkn
        obtain ⟨q2, o2, rfl, cb⟩ := HB.out.2 k hkn
        obtain ⟨x, ex⟩ : ∃ x, a.getD k 0 = x := ⟨_, rfl⟩
        obtain ⟨y, ey⟩ : ∃ y, b.getD k 0 = y := ⟨_, rfl⟩
        have HE : Hid (a.getD k 0 = x ∧ b.getD k 0 = y) := ⟨ex, ey⟩
        rw [ex] at ca
        rw [ey] at cb
        clear ex ey
        by_cases hxy : x = y
        · subst hxy
          have Hn : Hid (∀ i, i < k + 1 → a.getD i 0 = b.getD i 0) := fun i hi => by
            rcases Nat.lt_succ_iff_lt_or_eq.1 hi with h | rfl
            · exact Hx.out i h
            · rw [HE.out.1, HE.out.2]
          clear Hx
          go_wp2
          go_region
          all_goals
            go_wp2
            go_roundg (n - (k + 1))
          case measure => omega
          case rel => exact ⟨k + 1, d + 1, by omega, rfl, by first | rfl | simp, Hn, rfl⟩
        · have hxy' : (x != y) = true := by simp [hxy]
          go_wp2
          go_region
          all_goals go_wp2
          go_ret
          rw [← HR.out, decide_eq_false (ne_at HA.out.1 HB.out.1 hkn (by rw [HE.out.1, HE.out.2]; exact hxy))]
          exact ⟨rfl, d + 1, rfl⟩
      · obtain rfl : k = n := by omega
        go_wp2
        go_ret
        rw [← HR.out, decide_eq_true (eq_all HA.out.1 HB.out.1 Hx.out)]
        exact ⟨rfl, d, rfl⟩
  · have hne : ((n : Int) != (n2 : Int)) = true := by simp; omega
    have hne' : ¬ ((n : Int) = (n2 : Int)) := by omega
    go_wp2
    go_ret
    rw [← HR.out, decide_eq_false (fun e => hn (by rw [← HA.out.1, ← HB.out.1, e]))]
    exact ⟨rfl, 0, rfl⟩
set_option maxHeartbeats 2000000 in
theorem rsame_any (u v : Value) (a b : List Int) (hm : a.length ≤ 9223372036854775807) (w : World) (hu : Nums .i64 w u a) (hv : Nums .i64 w v b) :
    Calls Try.prog 26 #[u, v] w fun e w' => e = .returned (.bool (decide (a = b))) ∧ ∃ n, w' = w.drewN n := by
  obtain ⟨p, n, c, rfl, HA⟩ := hu.lst
  obtain ⟨p2, n2, c2, rfl, HB⟩ := hv.lst
  obtain ⟨r, er⟩ : ∃ r : Bool, decide (a = b) = r := ⟨_, rfl⟩
  have HR : Hid (decide (a = b) = r) := er
  rw [er]
  rw [HA.out.1] at hm
  have hm' : (n : Int) ≤ 9223372036854775807 := by omega
  clear er hv hu
  go_enter Try.func26, Try.ntmps26
  by_cases hn : n = n2
  · subst hn
    go_wp2_with fail
    go_loopg [5] n (fun gg v wr => ∃ (k d : Nat), k ≤ n ∧ gg = n - k ∧ v = .int .i64 (k : Int) ∧ Hid (∀ i, i < k → a.getD i 0 = b.getD i 0) ∧ wr = w.drewN d)
    case atStart => exact ⟨0, 0, by omega, by omega, rfl, fun i hi => by omega, rfl⟩
    case round =>
      obtain ⟨k, d, hk, hg, rfl, Hx, rfl⟩ := hrel
      by_cases hkn : k < n
      · have hk' : (k : Int) < (n : Int) := by omega
        obtain ⟨q, o, rfl, ca⟩ := HA.out.2 k hkn
        obtain ⟨q2, o2, rfl, cb⟩ := HB.out.2 k hkn
        obtain ⟨x, ex⟩ : ∃ x, a.getD k 0 = x := ⟨_, rfl⟩
        obtain ⟨y, ey⟩ : ∃ y, b.getD k 0 = y := ⟨_, rfl⟩
        have HE : Hid (a.getD k 0 = x ∧ b.getD k 0 = y) := ⟨ex, ey⟩
        rw [ex] at ca
        rw [ey] at cb
        clear ex ey
        by_cases hxy : x = y
        · subst hxy
          have Hn : Hid (∀ i, i < k + 1 → a.getD i 0 = b.getD i 0) := fun i hi => by
            rcases Nat.lt_succ_iff_lt_or_eq.1 hi with h | rfl
            · exact Hx.out i h
            · rw [HE.out.1, HE.out.2]
          clear Hx
          go_wp2
          go_region
          all_goals
            go_wp2
            go_roundg (n - (k + 1))
          case measure => omega
          case rel => exact ⟨k + 1, d + 1, by omega, rfl, by first | rfl | simp, Hn, rfl⟩
        · have hxy' : (x != y) = true := by simp [hxy]
          go_wp2
          go_region
          all_goals go_wp2
          go_ret
          rw [← HR.out, decide_eq_false (ne_at HA.out.1 HB.out.1 hkn (by rw [HE.out.1, HE.out.2]; exact hxy))]
          exact ⟨rfl, d + 1, rfl⟩
      · obtain rfl : k = n := by omega
        go_wp2
        go_ret
        rw [← HR.out, decide_eq_true (eq_all HA.out.1 HB.out.1 Hx.out)]
        exact ⟨rfl, d, rfl⟩
  · have hne : ((n : Int) != (n2 : Int)) = true := by simp; omega
    have hne' : ¬ ((n : Int) = (n2 : Int)) := by omega
    go_wp2
    go_ret
    rw [← HR.out, decide_eq_false (fun e => hn (by rw [← HA.out.1, ← HB.out.1, e]))]
    exact ⟨rfl, 0, rfl⟩
end Go.Proofs.Ytlehlikgehbnfaa.Wd
namespace Go.Proofs.Ytlehlikgehbnfaa.Wd
open Go.RowKit
set_option linter.unusedVariables false
set_option linter.unusedSimpArgs false
theorem numT : NumT Try.prog 27 3 .i64 8 := ⟨Try.underlying27, by kernel_rfl⟩
theorem drewN_add (w : World) (a b : Nat) : (w.drewN a).drewN b = w.drewN (a + b) := by unfold World.drewN; simp [Nat.add_assoc]
theorem Lst.up {w w' : World} {p : Option Addr} {n : Nat} {l : List Int} (h : Lst w p n l) (hB : Below w.heap.size w w') : Lst w' p n l :=
  ⟨h.1, fun j hj => by
    obtain ⟨q, o, e, hc⟩ := h.2 j hj
    exact ⟨q, o, e, still_cell hB hc⟩⟩
theorem Lst.block {w : World} {q o n : Nat} {l : List Int} (h : Lst w (some ⟨q, o, none⟩) n l) (hn : 0 < n) : q < w.heap.size := by
  obtain ⟨q', o', e, hc⟩ := h.2 0 hn
  cases e
  exact cell_block hc
theorem good_itl {l : List Int} (h : goodN (ntl l)) : ∃ d, goodN d ∧ l = itl d := ⟨ntl l, h, (itl_ntl h.2.1).symm⟩
end Go.Proofs.Ytlehlikgehbnfaa.Wd
namespace Go.Proofs.Ytlehlikgehbnfaa.Wd
open Go.RowKit
set_option linter.unusedVariables false
set_option linter.unusedSimpArgs false
end Go.Proofs.Ytlehlikgehbnfaa.Wd
namespace Go.Proofs.Ytlehlikgehbnfaa.Wd
open Go.RowKit
set_option linter.unusedVariables false
set_option linter.unusedSimpArgs false
theorem RI_itl {d : List Nat} (h : ∀ x, x ∈ d → x ≤ 4096) : RI (itl d) := by
  intro y hy
  obtain ⟨x, hx, rfl⟩ := List.mem_map.1 hy
  have := h x hx
  omega
theorem RI_join {a b : List Nat} (ha : goodN a) (hb : goodN b) : RI (itl (joinN a b)) := by
  refine RI_itl fun x hx => ?_
  obtain ⟨j, _, rfl⟩ := List.mem_map.1 hx
  have h1 := side_rng ha (max a.length b.length - j)
  have h2 := side_rng hb (max a.length b.length - j)
  show max _ _ ≤ 4096
  omega
theorem Lst.nums {w : World} {p : Option Addr} {n c : Nat} {l : List Int} (h : Nums .i64 w (.slice p n c) l) {w' : World} (hB : Below w.heap.size w w') : Nums .i64 w' (.slice p n c) l := h.up hB
theorem run_max_nat {P : Program} {w : World} (ts : Array TypeId) (t : TypeId) (k k' : IntKind) (x y : Nat) : (Builtin.max_ ts t #[.int k (x : Int), .int k' (y : Int)]).run P w = .ok (.int k ((max x y : Nat) : Int)) w := by
  rw [run_max_int2]
  congr 2
  split <;> omega
end Go.Proofs.Ytlehlikgehbnfaa.Wd
