/- Tensors: what tens.Same and the reference's Alike hand back; the law's great and row. -/
import Derived.Test.YtbndiadgnglkhaaTenA
namespace Go.Proofs.Ytbndiadgnglkhaa.Wd
open Go.RowKit
set_option linter.unusedVariables false
set_option linter.unusedSimpArgs false
set_option maxHeartbeats 2000000 in
theorem tsame_any (s t s' t' : Value) (d x d' x' : List Int) (hd : d.length ≤ 9223372036854775807) (hx : x.length ≤ 9223372036854775807) (w : World) (hs : Nums .i64 w s d) (ht : Nums .i64 w t x) (hs' : Nums .i64 w s' d') (ht' : Nums .i64 w t' x') :
    Calls Try.prog 16 #[.agg #[s, t], .agg #[s', t']] w fun e w' => e = .returned (.bool (decide (d = d' ∧ x = x'))) ∧ Below w.heap.size w w' := by
  have c1 : ∀ W, Below w.heap.size w W → Calls Try.prog 41 #[s, s'] W fun e w' => e = .returned (.bool (decide (d = d'))) ∧ ∃ n, w' = W.drewN n := fun W hW => same_any s s' d d' hd W (hs.up hW) (hs'.up hW)
  have c2 : ∀ W, Below w.heap.size w W → Calls Try.prog 44 #[t, t'] W fun e w' => e = .returned (.bool (decide (x = x'))) ∧ ∃ n, w' = W.drewN n := fun W hW => equalF_any t t' x x' hx W (ht.up hW) (ht'.up hW)
  obtain ⟨p, n, c, rfl, HA⟩ := hs.lst
  obtain ⟨p2, n2, c2', rfl, HB⟩ := ht.lst
  obtain ⟨p3, n3, c3, rfl, HC⟩ := hs'.lst
  obtain ⟨p4, n4, c4, rfl, HD⟩ := ht'.lst
  clear hs ht hs' ht' hd hx HA HB HC HD
  by_cases hdd : d = d'
  · rw [decide_eq_true hdd] at c1
    have er : decide (d = d' ∧ x = x') = decide (x = x') := decide_eq_decide.2 ⟨fun h => h.2, fun h => ⟨hdd, h⟩⟩
    rw [er]
    obtain ⟨r, hr⟩ : ∃ r, decide (x = x') = r := ⟨_, rfl⟩
    rw [hr] at c2 ⊢
    clear er hr hdd
    go_enter Try.func16, Try.ntmps16
    go_wp2_with fail
    refine (c1 _ ?_).mono ?_
    · go_grown
    rintro e w1 ⟨rfl, m, rfl⟩
    go_wp2_with fail
    refine (c2 _ ?_).mono ?_
    · exact below_drew (by go_grown) m
    rintro e w1 ⟨rfl, m2, rfl⟩
    go_wp2
    go_ret
    refine ⟨rfl, ?_⟩
    first
    | (refine below_drew (below_drew ?_ _) _; go_grown; done)
    | (refine below_drew ?_ _; go_grown; done)
  · rw [decide_eq_false hdd] at c1
    rw [decide_eq_false (fun h : d = d' ∧ x = x' => hdd h.1)]
    clear c2 hdd
    go_enter Try.func16, Try.ntmps16
    go_wp2_with fail
    refine (c1 _ ?_).mono ?_
    · go_grown
    rintro e w1 ⟨rfl, m, rfl⟩
    go_wp2
    go_ret
    exact ⟨rfl, below_drew (by go_grown) m⟩
set_option maxHeartbeats 2000000 in
theorem ralike_any (s t s' t' : Value) (d x d' x' : List Int) (hd : d.length ≤ 9223372036854775807) (hx : x.length ≤ 9223372036854775807) (w : World) (hs : Nums .i64 w s d) (ht : Nums .i64 w t x) (hs' : Nums .i64 w s' d') (ht' : Nums .i64 w t' x') :
    Calls Try.prog 21 #[.agg #[s, t], .agg #[s', t']] w fun e w' => e = .returned (.bool (decide (d = d' ∧ x = x'))) ∧ Below w.heap.size w w' := by
  have c1 : ∀ W, Below w.heap.size w W → Calls Try.prog 52 #[s, s'] W fun e w' => e = .returned (.bool (decide (d = d'))) ∧ ∃ n, w' = W.drewN n := fun W hW => rsame_any s s' d d' hd W (hs.up hW) (hs'.up hW)
  obtain ⟨p, n, c, rfl, HA⟩ := hs.lst
  obtain ⟨p2, n2, c2', rfl, HB⟩ := ht.lst
  obtain ⟨p3, n3, c3, rfl, HC⟩ := hs'.lst
  obtain ⟨p4, n4, c4, rfl, HD⟩ := ht'.lst
  rw [HB.out.1] at hx
  have hx' : (n2 : Int) ≤ 9223372036854775807 := by omega
  clear hs ht hs' ht' hd HA HC
  by_cases hdd : d = d'
  · rw [decide_eq_true hdd] at c1
    have er : decide (d = d' ∧ x = x') = decide (x = x') := decide_eq_decide.2 ⟨fun h => h.2, fun h => ⟨hdd, h⟩⟩
    rw [er]
    obtain ⟨r, hr⟩ : ∃ r, decide (x = x') = r := ⟨_, rfl⟩
    have HR : Hid (decide (x = x') = r) := hr
    rw [hr]
    clear er hr hdd
    go_enter Try.func21, Try.ntmps21
    by_cases hn : n2 = n4
    · subst hn
      go_wp2_with fail
      refine (c1 _ ?_).mono ?_
      · go_grown
      rintro e w1 ⟨rfl, m, hw⟩
      have B1 : Hid (Below w.heap.size w w1) := by rw [hw]; exact below_drew (by go_grown) m
      have X1 : w1.cell? ⟨w.heap.size, 0, none⟩ = some (.slice p n c) ∧ w1.cell? ⟨w.heap.size, 1, none⟩ = some (.slice p2 n2 c2') ∧ w1.cell? ⟨w.heap.size + 1, 0, none⟩ = some (.slice p3 n3 c3) ∧ w1.cell? ⟨w.heap.size + 1, 1, none⟩ = some (.slice p4 n2 c4) := by rw [hw]; simp [go_sem]
      obtain ⟨x1, x2, x3, x4⟩ := X1
      clear hw c1
      go_wp2_with fail
      go_loopg [5] n2 (fun gg v wr => ∃ (k d : Nat), k ≤ n2 ∧ gg = n2 - k ∧ v = .int .i64 (k : Int) ∧ Hid (∀ i, i < k → x.getD i 0 = x'.getD i 0) ∧ wr = w1.drewN d)
      case atStart => exact ⟨0, 0, by omega, by omega, rfl, fun i hi => by omega, rfl⟩
      case round =>
        obtain ⟨k, d, hk, hg, rfl, Hx, rfl⟩ := hrel
        by_cases hkn : k < n2
        · have hk' : (k : Int) < (n2 : Int) := by omega
          obtain ⟨q, o, rfl, ca⟩ := HB.out.2 k hkn
          obtain ⟨q2, o2, rfl, cb⟩ := HD.out.2 k hkn
          have ca := cell_low ca B1.out
          have cb := cell_low cb B1.out
          obtain ⟨xx, ex⟩ : ∃ xx, x.getD k 0 = xx := ⟨_, rfl⟩
          obtain ⟨y, ey⟩ : ∃ y, x'.getD k 0 = y := ⟨_, rfl⟩
          have HE : Hid (x.getD k 0 = xx ∧ x'.getD k 0 = y) := ⟨ex, ey⟩
          rw [ex] at ca
          rw [ey] at cb
          clear ex ey
          by_cases hxy : xx = y
          · subst hxy
            have Hn : Hid (∀ i, i < k + 1 → x.getD i 0 = x'.getD i 0) := fun i hi => by
              rcases Nat.lt_succ_iff_lt_or_eq.1 hi with h | rfl
              · exact Hx.out i h
              · rw [HE.out.1, HE.out.2]
            clear Hx
            go_wp2
            go_region
            all_goals
              go_wp2
              go_roundg (n2 - (k + 1))
            case measure => omega
            case rel => exact ⟨k + 1, d + 1, by omega, rfl, by first | rfl | simp, Hn, rfl⟩
          · have hxy' : (xx != y) = true := by simp [hxy]
            go_wp2
            go_region
            all_goals go_wp2
            go_ret
            rw [← HR.out, decide_eq_false (ne_at HB.out.1 HD.out.1 hkn (by rw [HE.out.1, HE.out.2]; exact hxy))]
            exact ⟨rfl, below_drew B1.out (d + 1)⟩
        · obtain rfl : k = n2 := by omega
          go_wp2
          go_ret
          rw [← HR.out, decide_eq_true (eq_all HB.out.1 HD.out.1 Hx.out)]
          exact ⟨rfl, below_drew B1.out d⟩
    · have hne : ((n2 : Int) != (n4 : Int)) = true := by simp; omega
      have hne' : ¬ ((n2 : Int) = (n4 : Int)) := by omega
      go_wp2_with fail
      refine (c1 _ ?_).mono ?_
      · go_grown
      rintro e w1 ⟨rfl, m, rfl⟩
      go_wp2
      go_ret
      rw [← HR.out, decide_eq_false (fun e => hn (by rw [← HB.out.1, ← HD.out.1, e]))]
      exact ⟨rfl, below_drew (by go_grown) m⟩
  · rw [decide_eq_false hdd] at c1
    rw [decide_eq_false (fun h : d = d' ∧ x = x' => hdd h.1)]
    clear hdd
    go_enter Try.func21, Try.ntmps21
    go_wp2_with fail
    refine (c1 _ ?_).mono ?_
    · go_grown
    rintro e w1 ⟨rfl, m, rfl⟩
    go_wp2
    go_ret
    exact ⟨rfl, below_drew (by go_grown) m⟩
end Go.Proofs.Ytbndiadgnglkhaa.Wd
