/- What package shape's Size, Good, Same and the reference's hand back. What package shape's Strides, Place, At and the reference's hand back. What package shape's fromLast, joined and Join hand back. What package shape's Join hands back. -/
import Derived.Test.YthcfeiddbffcfaaDoorProg
import Derived.WalkKit
import Derived.ProofKit
import Derived.WalkSpells
import Derived.Handy
import Derived.Deep.LoopGhost
import Derived.Deep.Draws
import Derived.BigQuiet
import Derived.Deep.QuietTactic
import Derived.WalkSmall
import Derived.Test.YthcfeiddbffcfaaDoorRow
import Derived.Test.YthcfeiddbffcfaaDoorShpM
namespace Go.Proofs.YthcfeiddbffcfaaDoor.Wd
open Go.RowKit
set_option linter.unusedVariables false
set_option linter.unusedSimpArgs false
/-- Go's ints. -/
def RI (l : List Int) : Prop := ∀ y, y ∈ l → -9223372036854775808 ≤ y ∧ y ≤ 9223372036854775807
theorem RI.at {l : List Int} (h : RI l) (k : Nat) (hk : k < l.length) : -9223372036854775808 ≤ l.getD k 0 ∧ l.getD k 0 ≤ 9223372036854775807 := by
  rw [getD_lt l k 0 hk]
  exact h _ (List.getElem_mem hk)
/-- A slice's cells, as a walk reads them. -/
def Lst (w : World) (p : Option Addr) (n : Nat) (l : List Int) : Prop := l.length = n ∧ ∀ j, j < n → ∃ q o, p = some ⟨q, o, none⟩ ∧ w.cell? ⟨q, o + j, none⟩ = some (.int .i64 (l.getD j 0))
theorem Nums.lst {w : World} {v : Value} {l : List Int} (h : Nums .i64 w v l) : ∃ p n c, v = .slice p n c ∧ Hid (Lst w p n l) := by
  obtain ⟨p, c, rfl, hc⟩ := h.view
  exact ⟨p, _, c, rfl, rfl, hc⟩
set_option maxHeartbeats 1000000 in
theorem size_any (v : Value) (l : List Int) (hl : RI l) (w : World) (hv : Nums .i64 w v l) :
    Calls Tryd.prog 51 #[v] w fun e w' => e = .returned (.int .i64 ((sizeN (ntl l) : Nat) : Int)) ∧ w' = w := by
  obtain ⟨p, n, c, rfl, HC⟩ := hv.lst
  have HL : Hid (RI l) := hl
  obtain ⟨r, er⟩ : ∃ r : Int, ((sizeN (ntl l) : Nat) : Int) = r := ⟨_, rfl⟩
  have HR : Hid (((sizeN (ntl l) : Nat) : Int) = r) := er
  rw [er]
  clear er hv hl
  go_enter Tryd.func51, Tryd.ntmps51
  by_cases hn : 4 < n
  · have hn' : (4 : Int) < (n : Int) := by omega
    go_wp2
    go_ret
    have := long_bad (l := l) (by rw [HC.out.1]; exact hn)
    rw [← HR.out, sizeN_bad this]
    exact ⟨rfl, rfl⟩
  have hn' : (n : Int) ≤ 4 := by omega
  go_wp2_with fail
  go_loopg [3, 11] n (fun gg u v wr => ∃ (k : Nat) (x : Int), k ≤ n ∧ gg = n - k ∧ u = .int .i64 x ∧ v = .int .i64 (k : Int) ∧ Hid (x = pK l k ∧ okK l k) ∧ 1 ≤ x ∧ x ≤ 4096 ∧ wr = w)
  case atStart => exact ⟨0, 1, by omega, by omega, rfl, rfl, ⟨(pK_zero l).symm, okK_zero l⟩, by omega, by omega, rfl⟩
  case round =>
    obtain ⟨k, x, hk, hg, rfl, rfl, Hx, hx0, hx1, rfl⟩ := hrel
    by_cases hkn : k < n
    · have hk' : (k : Int) < (n : Int) := by omega
      obtain ⟨q, o, rfl, hcell⟩ := HC.out.2 k hkn
      have hkl : k < l.length := by rw [HC.out.1]; exact hkn
      have Hk : Hid (k < l.length) := hkl
      have hy := HL.out.at k hkl
      obtain ⟨y, ey⟩ : ∃ y, l.getD k 0 = y := ⟨_, rfl⟩
      have Hy : Hid (l.getD k 0 = y) := ey
      rw [ey] at hcell hy
      obtain ⟨qq, eq⟩ : ∃ qq, (4096 : Int) / x = qq := ⟨_, rfl⟩
      have hq1 : 0 ≤ qq ∧ qq ≤ 4096 := by
        rw [← eq]
        exact ⟨Int.ediv_nonneg (by omega) (by omega), Int.ediv_le_self _ (by omega)⟩
      have hqt : Int.tdiv 4096 x = qq := by rw [Int.tdiv_eq_ediv_of_nonneg (by omega)]; exact eq
      clear ey hkl
      by_cases hy1 : y < 1
      · go_wp2
        go_ret
        rw [← HR.out, sizeN_bad (bad_low Hk.out (by rw [Hy.out]; exact hy1))]
        exact ⟨rfl, rfl⟩
      by_cases hy2 : qq < y
      · have hbad : ¬ goodN (ntl l) := bad_great Hk.out (by rw [Hy.out]; omega) (by rw [Hy.out, ← Hx.out.1]; exact quo_gt x y hx0 hx1 (by rw [eq]; exact hy2))
        have Hbad : Hid (¬ goodN (ntl l)) := hbad
        clear hbad eq
        go_wp2
        go_ret
        rw [← HR.out, sizeN_bad Hbad.out]
        exact ⟨rfl, rfl⟩
      · obtain ⟨m, em⟩ : ∃ m, x * y = m := ⟨_, rfl⟩
        have hm := quo_le x y hx0 hx1 (by rw [eq]; omega) (by omega)
        rw [em] at hm
        have Hn : Hid (m = pK l (k + 1) ∧ okK l (k + 1)) := ⟨by rw [pK_succ l k Hk.out (by rw [Hy.out]; omega), ← Hx.out.1, Hy.out, em], okK_succ Hx.out.2 (by rw [Hy.out]; omega)⟩
        clear eq
        go_wp2
        go_roundg (n - (k + 1))
        case measure => omega
        case rel => exact ⟨k + 1, m, by omega, rfl, by first | rfl | simp [em], by first | rfl | simp, Hn, hm.2, hm.1, rfl⟩
    · obtain rfl : k = n := by omega
      go_wp2
      go_ret
      have hlen := HC.out.1
      subst hlen
      have := good_end (l := l) (by omega) Hx.out.2 (by rw [← Hx.out.1]; exact hx1)
      rw [← HR.out, sizeN_good this.1, ← this.2, ← Hx.out.1]
      exact ⟨rfl, rfl⟩
set_option maxHeartbeats 1000000 in
theorem good_any (v : Value) (l : List Int) (hl : RI l) (w : World) (hv : Nums .i64 w v l) :
    Calls Tryd.prog 50 #[v] w fun e w' => e = .returned (.bool (decide (goodN (ntl l)))) ∧ w' = w := by
  have cs := size_any v l hl w hv
  have ei : decide (((sizeN (ntl l) : Nat) : Int) > 0) = decide (goodN (ntl l)) := by
    have := sizeN_iff (ntl l)
    exact decide_eq_decide.2 ⟨fun h => this.1 (by omega), fun h => by have := this.2 h; omega⟩
  obtain ⟨r, er⟩ : ∃ r : Int, ((sizeN (ntl l) : Nat) : Int) = r := ⟨_, rfl⟩
  rw [er] at cs ei
  rw [← ei]
  clear er ei hv
  go_enter Tryd.func50, Tryd.ntmps50
  go_wp2_with fail
  refine cs.mono ?_
  rintro e w1 ⟨rfl, rfl⟩
  go_wp2
  go_ret
  exact ⟨rfl, rfl⟩
set_option maxHeartbeats 1000000 in
theorem rgood_any (v : Value) (l : List Int) (hl : RI l) (w : World) (hv : Nums .i64 w v l) :
    Calls Tryd.prog 38 #[v] w fun e w' => e = .returned (.bool (decide (goodN (ntl l)))) ∧ w' = w := by
  obtain ⟨p, n, c, rfl, HC⟩ := hv.lst
  have HL : Hid (RI l) := hl
  obtain ⟨r, er⟩ : ∃ r : Bool, decide (goodN (ntl l)) = r := ⟨_, rfl⟩
  have HR : Hid (decide (goodN (ntl l)) = r) := er
  rw [er]
  clear er hv hl
  go_enter Tryd.func38, Tryd.ntmps38
  by_cases hn : 4 < n
  · have hn' : (4 : Int) < (n : Int) := by omega
    go_wp2
    go_ret
    have := long_bad (l := l) (by rw [HC.out.1]; exact hn)
    rw [← HR.out, decide_eq_false this]
    exact ⟨rfl, rfl⟩
  have hn' : (n : Int) ≤ 4 := by omega
  go_wp2_with fail
  go_loopg [3, 4] n (fun gg u v wr => ∃ (k : Nat) (x : Int), k ≤ n ∧ gg = n - k ∧ u = .int .i64 x ∧ v = .int .i64 (k : Int) ∧ Hid (x = pK l k ∧ okK l k) ∧ 1 ≤ x ∧ x ≤ 4096 ∧ wr = w)
  case atStart => exact ⟨0, 1, by omega, by omega, rfl, rfl, ⟨(pK_zero l).symm, okK_zero l⟩, by omega, by omega, rfl⟩
  case round =>
    obtain ⟨k, x, hk, hg, rfl, rfl, Hx, hx0, hx1, rfl⟩ := hrel
    by_cases hkn : k < n
    · have hk' : (k : Int) < (n : Int) := by omega
      obtain ⟨q, o, rfl, hcell⟩ := HC.out.2 k hkn
      have hkl : k < l.length := by rw [HC.out.1]; exact hkn
      have Hk : Hid (k < l.length) := hkl
      have hy := HL.out.at k hkl
      obtain ⟨y, ey⟩ : ∃ y, l.getD k 0 = y := ⟨_, rfl⟩
      have Hy : Hid (l.getD k 0 = y) := ey
      rw [ey] at hcell hy
      clear ey hkl
      by_cases hy1 : y < 1
      · go_wp2
        go_ret
        rw [← HR.out, decide_eq_false (bad_low Hk.out (by rw [Hy.out]; exact hy1))]
        exact ⟨rfl, rfl⟩
      by_cases hy2 : 4096 < y
      · have Hbad : Hid (¬ goodN (ntl l)) := fun hg => by
          have := good_at hg k Hk.out
          rw [Hy.out] at this
          omega
        go_wp2
        go_ret
        rw [← HR.out, decide_eq_false Hbad.out]
        exact ⟨rfl, rfl⟩
      obtain ⟨m, em⟩ : ∃ m, x * y = m := ⟨_, rfl⟩
      have hm := mul_rng x y hx0 hx1 (by omega) (by omega)
      rw [em] at hm
      by_cases hm2 : 4096 < m
      · have Hbad : Hid (¬ goodN (ntl l)) := bad_great Hk.out (by rw [Hy.out]; omega) (by rw [Hy.out, ← Hx.out.1, em]; exact hm2)
        go_wp2
        go_ret
        rw [← HR.out, decide_eq_false Hbad.out]
        exact ⟨rfl, rfl⟩
      · have Hn : Hid (m = pK l (k + 1) ∧ okK l (k + 1)) := ⟨by rw [pK_succ l k Hk.out (by rw [Hy.out]; omega), ← Hx.out.1, Hy.out, em], okK_succ Hx.out.2 (by rw [Hy.out]; omega)⟩
        go_wp2
        go_roundg (n - (k + 1))
        case measure => omega
        case rel => exact ⟨k + 1, m, by omega, rfl, by first | rfl | simp [em], by first | rfl | simp, Hn, hm.1, by omega, rfl⟩
    · obtain rfl : k = n := by omega
      go_wp2
      go_ret
      have hlen := HC.out.1
      subst hlen
      have := good_end (l := l) (by omega) Hx.out.2 (by rw [← Hx.out.1]; exact hx1)
      rw [← HR.out, decide_eq_true this.1]
      exact ⟨rfl, rfl⟩
set_option maxHeartbeats 1000000 in
theorem rsize_any (v : Value) (l : List Int) (hl : RI l) (w : World) (hv : Nums .i64 w v l) :
    Calls Tryd.prog 47 #[v] w fun e w' => e = .returned (.int .i64 ((sizeN (ntl l) : Nat) : Int)) ∧ w' = w := by
  have cg := rgood_any v l hl w hv
  obtain ⟨p, n, c, rfl, HC⟩ := hv.lst
  obtain ⟨r, er⟩ : ∃ r : Int, ((sizeN (ntl l) : Nat) : Int) = r := ⟨_, rfl⟩
  have HR : Hid (((sizeN (ntl l) : Nat) : Int) = r) := er
  rw [er]
  clear er hv hl
  go_enter Tryd.func47, Tryd.ntmps47
  go_wp2_with fail
  refine cg.mono ?_
  rintro e w1 ⟨rfl, rfl⟩
  by_cases hgood : goodN (ntl l)
  · rw [decide_eq_true hgood]
    have hn : n ≤ 4 := by rw [← HC.out.1, ← ntl_len]; exact hgood.1
    have hn' : (n : Int) ≤ 4 := by omega
    have HG : Hid (goodN (ntl l)) := hgood
    clear hgood cg
    go_wp2_with fail
    go_loopg [3, 4] n (fun gg u v wr => ∃ (k : Nat) (x : Int), k ≤ n ∧ gg = n - k ∧ u = .int .i64 x ∧ v = .int .i64 (k : Int) ∧ Hid (x = pK l k) ∧ 1 ≤ x ∧ x ≤ 4096 ∧ wr = w1)
    case atStart => exact ⟨0, 1, by omega, by omega, rfl, rfl, (pK_zero l).symm, by omega, by omega, rfl⟩
    case round =>
      obtain ⟨k, x, hk, hg, rfl, rfl, Hx, hx0, hx1, rfl⟩ := hrel
      by_cases hkn : k < n
      · have hk' : (k : Int) < (n : Int) := by omega
        obtain ⟨q, o, rfl, hcell⟩ := HC.out.2 k hkn
        have hkl : k < l.length := by rw [HC.out.1]; exact hkn
        have Hk : Hid (k < l.length) := hkl
        have hy := good_at HG.out k hkl
        obtain ⟨y, ey⟩ : ∃ y, l.getD k 0 = y := ⟨_, rfl⟩
        have Hy : Hid (l.getD k 0 = y) := ey
        rw [ey] at hcell hy
        clear ey hkl
        obtain ⟨m, em⟩ : ∃ m, x * y = m := ⟨_, rfl⟩
        have Hn : Hid (m = pK l (k + 1)) := by show _ = _; rw [pK_succ l k Hk.out (by rw [Hy.out]; omega), ← Hx.out, Hy.out, em]
        have hm := good_pK HG.out (k + 1)
        rw [← Hn.out] at hm
        go_wp2
        go_roundg (n - (k + 1))
        case measure => omega
        case rel => exact ⟨k + 1, m, by omega, rfl, by first | rfl | simp [em], by first | rfl | simp, Hn, hm.1, hm.2, rfl⟩
      · obtain rfl : k = n := by omega
        go_wp2
        go_ret
        have hlen := HC.out.1
        rw [← HR.out, sizeN_good HG.out, Hx.out]
        unfold pK
        rw [List.take_of_length_le (by rw [ntl_len]; omega)]
        exact ⟨rfl, rfl⟩
  · rw [decide_eq_false hgood]
    have HG : Hid (¬ goodN (ntl l)) := hgood
    clear hgood cg
    go_wp2
    go_ret
    rw [← HR.out, sizeN_bad HG.out]
    exact ⟨rfl, rfl⟩
theorem ne_at {a b : List Int} {n k : Nat} (ha : a.length = n) (hb : b.length = n) (hk : k < n) (h : a.getD k 0 ≠ b.getD k 0) : ¬ a = b := fun e => h (by rw [e])
theorem eq_all {a b : List Int} {n : Nat} (ha : a.length = n) (hb : b.length = n) (h : ∀ i, i < n → a.getD i 0 = b.getD i 0) : a = b :=
  List.ext_getElem (by omega) fun i h1 h2 => by
    have := h i (by omega)
    rw [getD_lt a i 0 h1, getD_lt b i 0 h2] at this
    exact this
set_option maxHeartbeats 2000000 in
theorem rsame_any (u v : Value) (a b : List Int) (hm : a.length ≤ 9223372036854775807) (w : World) (hu : Nums .i64 w u a) (hv : Nums .i64 w v b) :
    Calls Tryd.prog 35 #[u, v] w fun e w' => e = .returned (.bool (decide (a = b))) ∧ ∃ n, w' = w.drewN n := by
  obtain ⟨p, n, c, rfl, HA⟩ := hu.lst
  obtain ⟨p2, n2, c2, rfl, HB⟩ := hv.lst
  obtain ⟨r, er⟩ : ∃ r : Bool, decide (a = b) = r := ⟨_, rfl⟩
  have HR : Hid (decide (a = b) = r) := er
  rw [er]
  rw [HA.out.1] at hm
  have hm' : (n : Int) ≤ 9223372036854775807 := by omega
  clear er hv hu
  go_enter Tryd.func35, Tryd.ntmps35
  by_cases hn : n = n2
  · subst hn
    go_wp2_with fail
    go_loopg [5] n (fun gg v wr => ∃ (k d : Nat), k ≤ n ∧ gg = n - k ∧ v = .int .i64 (k : Int) ∧ Hid (∀ i, i < k → a.getD i 0 = b.getD i 0) ∧ wr = w.drewN d)
    case atStart => exact ⟨0, 0, by omega, by omega, rfl, fun i hi => by omega, rfl⟩
    case round =>
      obtain ⟨k, d, hk, hg, rfl, Hx, rfl⟩ := hrel
      by_cases hkn : k < n
      · have hk' : (k : Int) < (n : Int) := by omega
        obtain ⟨q, o, rfl, ca⟩ := HA.out.2 k hkn
        obtain ⟨q2, o2, rfl, cb⟩ := HB.out.2 k hkn
        obtain ⟨x, ex⟩ : ∃ x, a.getD k 0 = x := ⟨_, rfl⟩
        obtain ⟨y, ey⟩ : ∃ y, b.getD k 0 = y := ⟨_, rfl⟩
        have HE : Hid (a.getD k 0 = x ∧ b.getD k 0 = y) := ⟨ex, ey⟩
        rw [ex] at ca
        rw [ey] at cb
        clear ex ey
        by_cases hxy : x = y
        · subst hxy
          have Hn : Hid (∀ i, i < k + 1 → a.getD i 0 = b.getD i 0) := fun i hi => by
            rcases Nat.lt_succ_iff_lt_or_eq.1 hi with h | rfl
            · exact Hx.out i h
            · rw [HE.out.1, HE.out.2]
          clear Hx
          go_wp2
          go_region
          all_goals
            go_wp2
            go_roundg (n - (k + 1))
          case measure => omega
          case rel => exact ⟨k + 1, d + 1, by omega, rfl, by first | rfl | simp, Hn, rfl⟩
        · have hxy' : (x != y) = true := by simp [hxy]
          go_wp2
          go_region
          all_goals go_wp2
          go_ret
          rw [← HR.out, decide_eq_false (ne_at HA.out.1 HB.out.1 hkn (by rw [HE.out.1, HE.out.2]; exact hxy))]
          exact ⟨rfl, d + 1, rfl⟩
      · obtain rfl : k = n := by omega
        go_wp2
        go_ret
        rw [← HR.out, decide_eq_true (eq_all HA.out.1 HB.out.1 Hx.out)]
        exact ⟨rfl, d, rfl⟩
  · have hne : ((n : Int) != (n2 : Int)) = true := by simp; omega
    have hne' : ¬ ((n : Int) = (n2 : Int)) := by omega
    go_wp2
    go_ret
    rw [← HR.out, decide_eq_false (fun e => hn (by rw [← HA.out.1, ← HB.out.1, e]))]
    exact ⟨rfl, 0, rfl⟩
end Go.Proofs.YthcfeiddbffcfaaDoor.Wd
namespace Go.Proofs.YthcfeiddbffcfaaDoor.Wd
open Go.RowKit
set_option linter.unusedVariables false
set_option linter.unusedSimpArgs false
theorem numT : NumT Tryd.prog 23 3 .i64 8 := ⟨Tryd.underlying23, by kernel_rfl⟩
theorem drewN_add (w : World) (a b : Nat) : (w.drewN a).drewN b = w.drewN (a + b) := by unfold World.drewN; simp [Nat.add_assoc]
theorem Lst.up {w w' : World} {p : Option Addr} {n : Nat} {l : List Int} (h : Lst w p n l) (hB : Below w.heap.size w w') : Lst w' p n l :=
  ⟨h.1, fun j hj => by
    obtain ⟨q, o, e, hc⟩ := h.2 j hj
    exact ⟨q, o, e, still_cell hB hc⟩⟩
theorem Lst.block {w : World} {q o n : Nat} {l : List Int} (h : Lst w (some ⟨q, o, none⟩) n l) (hn : 0 < n) : q < w.heap.size := by
  obtain ⟨q', o', e, hc⟩ := h.2 0 hn
  cases e
  exact cell_block hc
theorem good_itl {l : List Int} (h : goodN (ntl l)) : ∃ d, goodN d ∧ l = itl d := ⟨ntl l, h, (itl_ntl h.2.1).symm⟩
set_option maxHeartbeats 2000000 in
theorem strides_any (v : Value) (l : List Int) (hl : RI l) (w : World) (hv : Nums .i64 w v l) :
    Calls Tryd.prog 55 #[v] w fun e w' => ∃ v', e = .returned v' ∧ OwnK .i64 3 w' w.heap.size v' (stridesI l) ∧ Below w.heap.size w w' := by
  have cg := good_any v l hl w hv
  obtain ⟨p, n, c, rfl, HC⟩ := hv.lst
  clear hv hl
  by_cases hgood : goodN (ntl l)
  · rw [decide_eq_true hgood] at cg
    have eL : stridesI l = itl (stridesN (ntl l)) := if_pos hgood
    rw [eL]
    clear eL
    obtain ⟨d, hd, rfl⟩ := good_itl hgood
    rw [ntl_itl]
    have HD : Hid (goodN d) := hd
    obtain ⟨L, eL⟩ : ∃ L, itl (stridesN d) = L := ⟨_, rfl⟩
    have HL : Hid (itl (stridesN d) = L) := eL
    have hLn : L.length = n := by rw [← eL, itl_len, stridesN_len, ← itl_len d]; exact HC.out.1
    have HLn : Hid (L.length = n) := hLn
    have hdn : Hid (d.length = n) := by show _ = _; rw [← itl_len d]; exact HC.out.1
    rw [eL]
    have hn : n ≤ 4 := by rw [← hdn.out]; exact hd.1
    have hn' : (n : Int) ≤ 4 := by omega
    clear hgood hd eL hLn
    go_enter Tryd.func55, Tryd.ntmps55
    go_wp2_with fail
    refine cg.mono ?_
    rintro e w0 ⟨rfl, rfl⟩
    clear cg
    go_wp2_with (at_make; refine wpList_makeK numT (by decide) _ rfl (.tmp 10) (.tmp 10) rfl .i64 .i64 n n n rfl rfl rfl rfl (by omega) w0.heap.size w0 (Nat.le_refl _) (Below.refl _ _) ?_; intro w1 HO B0 B1; clear B0)
    rw [← HLn.out, ← rowB_zero L, HLn.out] at HO
    go_loopg [4, 5] n (fun gg u v wr => ∃ (k : Nat) (x i : Int), k ≤ n ∧ gg = n - k ∧ u = .int .i64 x ∧ v = .int .i64 i ∧ Hid (i = (n : Int) - 1 - (k : Int)) ∧ Hid (x = sK d k) ∧ Hid (OwnK .i64 3 wr w0.heap.size (.slice (some ⟨w0.heap.size, 0, none⟩) n n) (rowB L k)) ∧ Hid (Below w0.heap.size w0 wr))
    case atStart => exact ⟨0, 1, (n : Int) - 1, by omega, by omega, rfl, by first | rfl | simp, by show _ = _; omega, (sK_zero d).symm, HO, B1⟩
    case round =>
      obtain ⟨k, x, i, hk, hg, rfl, rfl, Hi, Hx, HR, hB⟩ := hrel
      by_cases hkn : k < n
      · obtain ⟨j, hj⟩ : ∃ j, j = n - 1 - k := ⟨_, rfl⟩
        have hij : i = (j : Int) := by have := Hi.out; omega
        subst hij
        have hjn : j < n := by omega
        have hjn' : (j : Int) < (n : Int) := by omega
        have Hj : Hid (j + k + 1 = n) := by show _ = _; omega
        clear hj
        obtain ⟨q, o, rfl, hcell⟩ := (HC.out.up hB.out).2 j hjn
        have hqB := HC.out.block (by omega)
        obtain ⟨hown, hfz⟩ := HR.out.cell (by rw [rowB_len]; exact HLn.out) j hjn
        have hx := sK_rng HD.out k
        have hx2 := sK_rng HD.out (k + 1)
        rw [sK_succ d j k (by rw [hdn.out]; exact Hj.out)] at hx2
        rw [itl_getD] at hcell
        have hy := HD.out.at j (by rw [hdn.out]; exact hjn)
        obtain ⟨y, ey⟩ : ∃ y : Int, ((d.getD j 0 : Nat) : Int) = y := ⟨_, rfl⟩
        rw [← Hx.out] at hx hx2
        obtain ⟨m, em⟩ : ∃ m, x * y = m := ⟨_, rfl⟩
        have Hm : Hid (m = sK d (k + 1)) := by show _ = _; rw [sK_succ d j k (by rw [hdn.out]; exact Hj.out), ← Hx.out, ey, em]
        have hy' : 1 ≤ y ∧ y ≤ 4096 := by omega
        rw [ey] at hcell hx2
        rw [em] at hx2
        have H2 : Hid (OwnK .i64 3 (wr.setCell ⟨w0.heap.size, j, none⟩ (.int .i64 x)) w0.heap.size (.slice (some ⟨w0.heap.size, 0, none⟩) n n) (rowB L (k + 1))) := by
          have := HR.out.store (by rw [rowB_len]; exact HLn.out) j x
          rw [show x = L.getD j 0 by rw [Hx.out, ← HL.out, strides_at d j k (by rw [hdn.out]; exact Hj.out)], rowB_set L j k (by rw [HLn.out]; exact Hj.out)] at this
          rw [show x = L.getD j 0 by rw [Hx.out, ← HL.out, strides_at d j k (by rw [hdn.out]; exact Hj.out)]]
          exact this
        have HB2 : Hid (Below w0.heap.size w0 (wr.setCell ⟨w0.heap.size, j, none⟩ (.int .i64 x))) := hB.out.setCell (p := ⟨w0.heap.size, j, none⟩) (Nat.le_refl _) _
        have hcell2 := still_cell HB2.out (show w0.cell? ⟨q, o + j, none⟩ = some (.int .i64 y) by
          obtain ⟨q', o', e', h'⟩ := HC.out.2 j hjn
          cases e'
          rw [h', itl_getD, ey])
        have hne : ¬ q = w0.heap.size := by omega
        clear ey hy
        go_wp2
        go_roundg (n - (k + 1))
        case measure => omega
        case rel => exact ⟨k + 1, m, (j : Int) - 1, by omega, rfl, by first | rfl | simp [em], by first | rfl | simp, by have := Hj.out; show _ = _; omega, Hm, H2, HB2⟩
      · obtain rfl : k = n := by omega
        have hi0 : i < 0 := by have := Hi.out; omega
        have hfin := HR.out
        rw [← HLn.out, rowB_full, HLn.out] at hfin
        have HF : Hid (OwnK .i64 3 wr w0.heap.size (.slice (some ⟨w0.heap.size, 0, none⟩) k k) L ∧ Below w0.heap.size w0 wr) := ⟨hfin, hB.out⟩
        clear hfin
        go_wp2
        exact bodyPost_ret (v := .slice (some ⟨w0.heap.size, 0, none⟩) k k) (by simp [results, Tryd.results55, go_sem]) rfl ⟨_, rfl, HF.out⟩
  · rw [decide_eq_false hgood] at cg
    have eL : stridesI l = [] := if_neg hgood
    rw [eL]
    clear eL hgood
    go_enter Tryd.func55, Tryd.ntmps55
    go_wp2_with fail
    refine cg.mono ?_
    rintro e w0 ⟨rfl, rfl⟩
    go_wp2
    exact bodyPost_ret (v := .slice none 0 0) (by simp [results, Tryd.results55, go_sem]) rfl ⟨_, rfl, OwnK.nil _ _ _ _, Below.refl _ _⟩
set_option maxHeartbeats 2000000 in
theorem rplace_any (v : Value) (l : List Int) (hl : RI l) (a : Int) (w : World) (hv : Nums .i64 w v l) :
    Calls Tryd.prog 44 #[v, .int .i64 a] w fun e w' => ∃ v', e = .returned (.tuple #[v', .bool (decide (0 ≤ a ∧ a < ((sizeN (ntl l) : Nat) : Int)))]) ∧ OwnK .i64 3 w' w.heap.size v' (placeI l a) ∧ Below w.heap.size w w' := by
  have cg := rgood_any v l hl w hv
  have cz := rsize_any v l hl w hv
  obtain ⟨p, n, c, rfl, HC⟩ := hv.lst
  clear hv hl
  obtain ⟨z, ez⟩ : ∃ z : Int, ((sizeN (ntl l) : Nat) : Int) = z := ⟨_, rfl⟩
  rw [ez] at cz
  by_cases hin : 0 ≤ a ∧ a < ((sizeN (ntl l) : Nat) : Int)
  · have hgood : goodN (ntl l) := (sizeN_iff _).1 (by omega)
    have eL : placeI l a = itl (placeN (ntl l) a.toNat) := if_pos hin
    rw [eL, decide_eq_true hin]
    clear eL
    rw [decide_eq_true hgood] at cg
    obtain ⟨a', rfl⟩ := Int.eq_ofNat_of_zero_le hin.1
    rw [ez] at hin
    obtain ⟨d, hd, rfl⟩ := good_itl hgood
    rw [ntl_itl] at ez ⊢
    rw [sizeN_good hd] at ez
    simp only [Int.ofNat_eq_natCast, Int.toNat_natCast] at hin ⊢
    have haz : Hid (a' < prodN d) := by show _ < _; omega
    have HD : Hid (goodN d) := hd
    obtain ⟨L, eL⟩ : ∃ L, itl (placeN d a') = L := ⟨_, rfl⟩
    have HL : Hid (itl (placeN d a') = L) := eL
    have hLn : L.length = n := by rw [← eL, itl_len, placeN_len, ← itl_len d]; exact HC.out.1
    have HLn : Hid (L.length = n) := hLn
    have hdn : Hid (d.length = n) := by show _ = _; rw [← itl_len d]; exact HC.out.1
    rw [eL]
    have hn : n ≤ 4 := by rw [← hdn.out]; exact hd.1
    have hn' : (n : Int) ≤ 4 := by omega
    have hz2 : z ≤ 4096 := by have := hd.2.2; omega
    have Ha4 : Hid (a' < 4096) := by have := hd.2.2; have := haz.out; show _ < _; omega
    obtain ⟨a, ea⟩ : ∃ a : Int, (a' : Int) = a := ⟨_, rfl⟩
    have Ha : Hid (a = aK d a' 0) := by show _ = _; rw [aK_zero, ea]
    rw [ea] at hin ⊢
    clear hgood hd eL hLn ez ea
    go_enter Tryd.func44, Tryd.ntmps44
    go_wp2_with fail
    refine cg.mono ?_
    rintro e w9 ⟨rfl, rfl⟩
    clear cg
    go_wp2_with fail
    refine cz.mono ?_
    rintro e w0 ⟨rfl, rfl⟩
    clear cz
    go_wp2_with (at_make; refine wpList_makeK numT (by decide) _ rfl (.tmp 22) (.tmp 22) rfl .i64 .i64 n n n rfl rfl rfl rfl (by omega) w0.heap.size w0 (Nat.le_refl _) (Below.refl _ _) ?_; intro w1 HO B0 B1; clear B0)
    rw [← HLn.out, ← rowB_zero L, HLn.out] at HO
    go_loopg [1, 7] n (fun gg u v wr => ∃ (k : Nat) (x i : Int), k ≤ n ∧ gg = n - k ∧ u = .int .i64 x ∧ v = .int .i64 i ∧ Hid (i = (n : Int) - 1 - (k : Int)) ∧ Hid (x = aK d a' k) ∧ Hid (OwnK .i64 3 wr w0.heap.size (.slice (some ⟨w0.heap.size, 0, none⟩) n n) (rowB L k)) ∧ Hid (Below w0.heap.size w0 wr))
    case atStart => exact ⟨0, a, (n : Int) - 1, by omega, by omega, rfl, by first | rfl | simp, by show _ = _; omega, Ha, HO, B1⟩
    case round =>
      obtain ⟨k, x, i, hk, hg, rfl, rfl, Hi, Hx, HR, hB⟩ := hrel
      by_cases hkn : k < n
      · obtain ⟨j, hj⟩ : ∃ j, j = n - 1 - k := ⟨_, rfl⟩
        have hij : i = (j : Int) := by have := Hi.out; omega
        subst hij
        have hjn : j < n := by omega
        have hjn' : (j : Int) < (n : Int) := by omega
        have Hj : Hid (j + k + 1 = n) := by show _ = _; omega
        clear hj
        obtain ⟨q, o, rfl, hcell⟩ := (HC.out.up hB.out).2 j hjn
        have hqB := HC.out.block (by omega)
        obtain ⟨hown, hfz⟩ := HR.out.cell (by rw [rowB_len]; exact HLn.out) j hjn
        have hx := aK_rng d a' k Ha4.out
        rw [← Hx.out] at hx
        rw [itl_getD] at hcell
        have hy := HD.out.at j (by rw [hdn.out]; exact hjn)
        have ep := place_at HD.out a' j k haz.out (by rw [hdn.out]; exact Hj.out)
        have eq := aK_succ d a' j k (by rw [hdn.out]; exact Hj.out)
        rw [← Hx.out] at ep eq
        obtain ⟨y, ey⟩ : ∃ y : Int, ((d.getD j 0 : Nat) : Int) = y := ⟨_, rfl⟩
        have hy' : 1 ≤ y ∧ y ≤ 4096 := by omega
        rw [ey] at hcell ep eq
        obtain ⟨m, em⟩ : ∃ m, x / y = m := ⟨_, rfl⟩
        obtain ⟨r, er⟩ : ∃ r, x % y = r := ⟨_, rfl⟩
        rw [er] at ep
        rw [em] at eq
        have Hm : Hid (m = aK d a' (k + 1)) := eq.symm
        have hm : 0 ≤ m ∧ m < 4096 := by rw [← eq]; exact aK_rng d a' (k + 1) Ha4.out
        have hr : 0 ≤ r ∧ r < y := by rw [← er]; exact ⟨Int.emod_nonneg _ (by omega), Int.emod_lt_of_pos _ (by omega)⟩
        have emt : Int.tdiv x y = m := by rw [Int.tdiv_eq_ediv_of_nonneg hx.1]; exact em
        have ert : Int.tmod x y = r := by rw [Int.tmod_eq_emod_of_nonneg hx.1]; exact er
        have H2 : Hid (OwnK .i64 3 (wr.setCell ⟨w0.heap.size, j, none⟩ (.int .i64 r)) w0.heap.size (.slice (some ⟨w0.heap.size, 0, none⟩) n n) (rowB L (k + 1))) := by
          have := HR.out.store (by rw [rowB_len]; exact HLn.out) j r
          rw [show r = L.getD j 0 by rw [← HL.out, ep], rowB_set L j k (by rw [HLn.out]; exact Hj.out)] at this
          rw [show r = L.getD j 0 by rw [← HL.out, ep]]
          exact this
        have HB2 : Hid (Below w0.heap.size w0 (wr.setCell ⟨w0.heap.size, j, none⟩ (.int .i64 r))) := hB.out.setCell (p := ⟨w0.heap.size, j, none⟩) (Nat.le_refl _) _
        have hcell2 := still_cell HB2.out (show w0.cell? ⟨q, o + j, none⟩ = some (.int .i64 y) by
          obtain ⟨q', o', e', h'⟩ := HC.out.2 j hjn
          cases e'
          rw [h', itl_getD, ey])
        have hne : ¬ q = w0.heap.size := by omega
        clear ey hy ep eq
        go_wp2
        go_roundg (n - (k + 1))
        case measure => omega
        case rel => exact ⟨k + 1, m, (j : Int) - 1, by omega, rfl, by first | rfl | simp [em], by first | rfl | simp, by have := Hj.out; show _ = _; omega, Hm, H2, HB2⟩
      · obtain rfl : k = n := by omega
        have hi0 : i < 0 := by have := Hi.out; omega
        have hfin := HR.out
        rw [← HLn.out, rowB_full, HLn.out] at hfin
        have HF : Hid (OwnK .i64 3 wr w0.heap.size (.slice (some ⟨w0.heap.size, 0, none⟩) k k) L ∧ Below w0.heap.size w0 wr) := ⟨hfin, hB.out⟩
        clear hfin
        go_wp2
        go_ret2
        exact ⟨_, rfl, HF.out⟩
  · have eL : placeI l a = [] := if_neg hin
    rw [eL, decide_eq_false hin]
    have hz0 := sizeN_iff (ntl l)
    by_cases hgood : goodN (ntl l)
    · rw [decide_eq_true hgood] at cg
      rw [ez] at hin
      clear eL hz0 ez
      by_cases ha0 : a < 0
      · go_enter Tryd.func44, Tryd.ntmps44
        go_wp2_with fail
        refine cg.mono ?_
        rintro e w9 ⟨rfl, rfl⟩
        clear hin
        go_wp2
        go_ret2
        exact ⟨_, rfl, OwnK.nil _ _ _ _, Below.refl _ _⟩
      · have haz : z ≤ a := by omega
        clear hin
        go_enter Tryd.func44, Tryd.ntmps44
        go_wp2_with fail
        refine cg.mono ?_
        rintro e w9 ⟨rfl, rfl⟩
        go_wp2_with fail
        refine cz.mono ?_
        rintro e w8 ⟨rfl, rfl⟩
        go_wp2
        go_ret2
        exact ⟨_, rfl, OwnK.nil _ _ _ _, Below.refl _ _⟩
    · rw [decide_eq_false hgood] at cg
      clear eL hz0 ez hin
      go_enter Tryd.func44, Tryd.ntmps44
      go_wp2_with fail
      refine cg.mono ?_
      rintro e w9 ⟨rfl, rfl⟩
      go_wp2
      go_ret2
      exact ⟨_, rfl, OwnK.nil _ _ _ _, Below.refl _ _⟩
set_option maxHeartbeats 2000000 in
theorem rat_any (u v : Value) (a b : List Int) (ha : RI a) (hb : RI b) (w : World) (hu : Nums .i64 w u a) (hv : Nums .i64 w v b) :
    Calls Tryd.prog 45 #[u, v] w fun e w' => e = .returned (.tuple #[.int .i64 (atI a b), .bool (atB a b)]) ∧ ∃ n, w' = w.drewN n := by
  have cg := rgood_any u a ha w hu
  obtain ⟨p, n, c, rfl, HA⟩ := hu.lst
  obtain ⟨p2, n2, c2, rfl, HB⟩ := hv.lst
  have HRA : Hid (RI a) := ha
  have HRB : Hid (RI b) := hb
  clear hu hv ha hb
  have bad : atB a b = false → ∀ (x : Int) (y : Bool), x = 0 → y = false → Ending.returned (.tuple #[.int .i64 x, .bool y]) = Ending.returned (.tuple #[.int .i64 (atI a b), .bool (atB a b)]) := by
    intro h x y hx hy
    subst hx hy
    unfold atI
    rw [h]
    rfl
  have HBad : Hid (atB a b = false → ∀ (x : Int) (y : Bool), x = 0 → y = false → Ending.returned (.tuple #[.int .i64 x, .bool y]) = Ending.returned (.tuple #[.int .i64 (atI a b), .bool (atB a b)])) := bad
  clear bad
  by_cases hgood : goodN (ntl a)
  · rw [decide_eq_true hgood] at cg
    have HG : Hid (goodN (ntl a)) := hgood
    have hn : n ≤ 4 := by rw [← HA.out.1, ← ntl_len]; exact hgood.1
    have hn' : (n : Int) ≤ 4 := by omega
    clear hgood
    by_cases hnn : n2 = n
    · subst hnn
      go_enter Tryd.func45, Tryd.ntmps45
      go_wp2_with fail
      refine cg.mono ?_
      rintro e w0 ⟨rfl, rfl⟩
      clear cg
      go_wp2_with fail
      go_loopg [6, 7] n2 (fun gg u v wr => ∃ (k d : Nat) (x : Int), k ≤ n2 ∧ gg = n2 - k ∧ u = .int .i64 x ∧ v = .int .i64 (k : Int) ∧ Hid (x = hK a b k ∧ ∀ i, i < k → 0 ≤ b.getD i 0 ∧ b.getD i 0 < a.getD i 0) ∧ wr = w0.drewN d)
      case atStart => exact ⟨0, 0, 0, by omega, by omega, rfl, rfl, ⟨rfl, fun i hi => by omega⟩, rfl⟩
      case round =>
        obtain ⟨k, d, x, hk, hg, rfl, rfl, Hx, rfl⟩ := hrel
        by_cases hkn : k < n2
        · have hk' : (k : Int) < (n2 : Int) := by omega
          obtain ⟨q, o, rfl, ca⟩ := HA.out.2 k hkn
          obtain ⟨q2, o2, rfl, cb⟩ := HB.out.2 k hkn
          have hka : k < a.length := by rw [HA.out.1]; exact hkn
          have hkb : k < b.length := by rw [HB.out.1]; exact hkn
          have hy := good_at HG.out k hka
          have hz := HRB.out.at k hkb
          have hl : b.length = a.length := by rw [HA.out.1, HB.out.1]
          have hx := hK_lt hl k (by omega) Hx.out.2
          have hp := good_pK HG.out k
          rw [← Hx.out.1] at hx
          have hx' : 0 ≤ x ∧ x < 4096 := by omega
          obtain ⟨y, ey⟩ : ∃ y, a.getD k 0 = y := ⟨_, rfl⟩
          obtain ⟨z, ez⟩ : ∃ z, b.getD k 0 = z := ⟨_, rfl⟩
          have HE : Hid (a.getD k 0 = y ∧ b.getD k 0 = z ∧ k < a.length ∧ k < b.length ∧ b.length = a.length) := ⟨ey, ez, hka, hkb, hl⟩
          rw [ey] at ca hy
          rw [ez] at cb hz
          clear ey ez hka hkb hl hx hp
          by_cases hz0 : z < 0
          · have hd0 : decide (z < 0) = true := decide_eq_true hz0
            have Hf : Hid (atB a b = false) := by
              show _ = _
              rcases Bool.eq_false_or_eq_true (atB a b) with h | h
              · unfold atB at h
                rw [Bool.and_eq_true] at h
                have := inB_get h.2 k HE.out.2.2.1
                rw [HE.out.2.1] at this
                omega
              · exact h
            go_wp2
            go_quiet (fail)
            go_wp2
            go_ret2
            refine ⟨HBad.out Hf.out _ _ rfl rfl, ?_⟩
            exact ⟨_, drewN_add _ _ _⟩
          have hd0 : decide (z < 0) = false := decide_eq_false hz0
          by_cases hzy : y ≤ z
          · have Hf : Hid (atB a b = false) := by
              show _ = _
              rcases Bool.eq_false_or_eq_true (atB a b) with h | h
              · unfold atB at h
                rw [Bool.and_eq_true] at h
                have := inB_get h.2 k HE.out.2.2.1
                rw [HE.out.2.1, HE.out.1] at this
                omega
              · exact h
            go_wp2
            go_quiet (fail)
            go_wp2
            go_ret2
            refine ⟨HBad.out Hf.out _ _ rfl rfl, ?_⟩
            exact ⟨_, drewN_add _ _ _⟩
          have hzy' : z < y := by omega
          have hz0' : 0 ≤ z := by omega
          obtain ⟨m, em⟩ : ∃ m, x * y = m := ⟨_, rfl⟩
          have hm : 0 ≤ m ∧ m ≤ 16777216 := by
            rw [← em]
            have h1 : 0 ≤ x * y := Int.mul_nonneg hx'.1 (by omega)
            have h2 : x * y ≤ 4096 * 4096 := Int.mul_le_mul (by omega) hy.2 (by omega) (by omega)
            omega
          have Hn : Hid (m + z = hK a b (k + 1) ∧ ∀ i, i < k + 1 → 0 ≤ b.getD i 0 ∧ b.getD i 0 < a.getD i 0) := by
            refine ⟨?_, fun i hi => ?_⟩
            · rw [hK_succ a b k HE.out.2.2.1 HE.out.2.2.2.1 (by rw [HE.out.1]; omega) (by rw [HE.out.2.1]; omega), HE.out.1, HE.out.2.1, ← Hx.out.1, em]
            · rcases Nat.lt_succ_iff_lt_or_eq.1 hi with h | rfl
              · exact Hx.out.2 i h
              · rw [HE.out.1, HE.out.2.1]; exact ⟨hz0', hzy'⟩
          obtain ⟨s, es⟩ : ∃ s, m + z = s := ⟨_, rfl⟩
          rw [es] at Hn
          go_wp2
          go_quiet (fail)
          go_wp2
          go_quiet (fail)
          go_wp2
          go_roundg (n2 - (k + 1))
          case measure => omega
          case rel => exact ⟨k + 1, _, s, by omega, rfl, by first | rfl | simp [em, es], by first | rfl | simp, Hn, by first | rfl | exact rfl⟩
        · obtain rfl : k = n2 := by omega
          have ht : atB a b = true := by
            unfold atB
            rw [decide_eq_true HG.out, inB_of (by rw [HA.out.1, HB.out.1]) (by rw [HA.out.1]; exact Hx.out.2)]
            rfl
          have Ht : Hid (x = atI a b ∧ true = atB a b) := by
            refine ⟨?_, ht.symm⟩
            unfold atI
            rw [if_pos ht, ← hK_full (by rw [HA.out.1, HB.out.1]), HA.out.1]
            exact Hx.out.1
          clear ht
          go_wp2
          go_ret2
          rw [← Ht.out.1, ← Ht.out.2]
          exact ⟨rfl, _, rfl⟩
    · have hne : ((n2 : Int) != (n : Int)) = true := by simp; omega
      have hne' : ¬ ((n2 : Int) = (n : Int)) := by omega
      have Hf : Hid (atB a b = false) := by
        show _ = _
        rcases Bool.eq_false_or_eq_true (atB a b) with h | h
        · unfold atB at h
          rw [Bool.and_eq_true] at h
          have := inB_len h.2
          rw [HA.out.1, HB.out.1] at this
          omega
        · exact h
      go_enter Tryd.func45, Tryd.ntmps45
      go_wp2_with fail
      refine cg.mono ?_
      rintro e w0 ⟨rfl, rfl⟩
      clear cg
      go_wp2
      go_ret2
      exact ⟨HBad.out Hf.out _ _ rfl rfl, 0, rfl⟩
  · rw [decide_eq_false hgood] at cg
    have Hf : Hid (atB a b = false) := by show _ = _; unfold atB; rw [decide_eq_false hgood]; rfl
    clear hgood
    go_enter Tryd.func45, Tryd.ntmps45
    go_wp2_with fail
    refine cg.mono ?_
    rintro e w0 ⟨rfl, rfl⟩
    clear cg
    go_wp2
    go_ret2
    exact ⟨HBad.out Hf.out _ _ rfl rfl, 0, rfl⟩
end Go.Proofs.YthcfeiddbffcfaaDoor.Wd
namespace Go.Proofs.YthcfeiddbffcfaaDoor.Wd
open Go.RowKit
set_option linter.unusedVariables false
set_option linter.unusedSimpArgs false
end Go.Proofs.YthcfeiddbffcfaaDoor.Wd
namespace Go.Proofs.YthcfeiddbffcfaaDoor.Wd
open Go.RowKit
set_option linter.unusedVariables false
set_option linter.unusedSimpArgs false
theorem RI_itl {d : List Nat} (h : ∀ x, x ∈ d → x ≤ 4096) : RI (itl d) := by
  intro y hy
  obtain ⟨x, hx, rfl⟩ := List.mem_map.1 hy
  have := h x hx
  omega
theorem RI_join {a b : List Nat} (ha : goodN a) (hb : goodN b) : RI (itl (joinN a b)) := by
  refine RI_itl fun x hx => ?_
  obtain ⟨j, _, rfl⟩ := List.mem_map.1 hx
  have h1 := side_rng ha (max a.length b.length - j)
  have h2 := side_rng hb (max a.length b.length - j)
  show max _ _ ≤ 4096
  omega
theorem Lst.nums {w : World} {p : Option Addr} {n c : Nat} {l : List Int} (h : Nums .i64 w (.slice p n c) l) {w' : World} (hB : Below w.heap.size w w') : Nums .i64 w' (.slice p n c) l := h.up hB
theorem run_max_nat {P : Program} {w : World} (ts : Array TypeId) (t : TypeId) (k k' : IntKind) (x y : Nat) : (Builtin.max_ ts t #[.int k (x : Int), .int k' (y : Int)]).run P w = .ok (.int k ((max x y : Nat) : Int)) w := by
  rw [run_max_int2]
  congr 2
  split <;> omega
end Go.Proofs.YthcfeiddbffcfaaDoor.Wd
