/- Tensors: what tens.Good, tens.Same, slices.Clone, slices.Equal of numbers hand back; the reference's Is, Alike. Tensors: what tens.Same and the reference's Alike hand back; the law's great and row. -/
import Derived.Test.YtlehlikgehbnfaaShpA
import Derived.Test.YtlehlikgehbnfaaShpF
import Derived.Test.YtlehlikgehbnfaaTnsM
import Derived.Test.YtlehlikgehbnfaaFlow
namespace Go.Proofs.Ytlehlikgehbnfaa.Wd
open Go.RowKit
set_option linter.unusedVariables false
set_option linter.unusedSimpArgs false
theorem fixT : NumT Try.prog 28 23 .i64 8 := ⟨Try.underlying28, by kernel_rfl⟩
/-- A tensor: a shape, and as many numbers as that has. -/
abbrev isP (d x : List Int) : Prop := goodN (ntl d) ∧ x.length = prodN (ntl d)
theorem cell_low {w w' : World} {v : Value} {b o : Nat} (h : w.cell? ⟨b, o, none⟩ = some v) (hB : Below w.heap.size w w') : w'.cell? ⟨b, o, none⟩ = some v := still_cell hB h
theorem beq_dec (a b : Int) : (a == b) = decide (a = b) := by
  by_cases h : a = b <;> simp [h]
/-- A struct of two values in a block. -/
def Box (w : World) (b : Nat) (s t : Value) : Prop := w.cell? ⟨b, 0, none⟩ = some s ∧ w.cell? ⟨b, 1, none⟩ = some t
theorem Box.up {w w' : World} {b : Nat} {s t : Value} (h : Box w b s t) (hB : Below w.heap.size w w') : Box w' b s t := ⟨cell_low h.1 hB, cell_low h.2 hB⟩
set_option maxHeartbeats 1000000 in
theorem tgood_any (s t : Value) (d x : List Int) (hd : RI d) (w : World) (hs : Nums .i64 w s d) (ht : Nums .i64 w t x) :
    Calls Try.prog 22 #[.agg #[s, t]] w fun e w' => e = .returned (.bool (decide (isP d x))) ∧ Below w.heap.size w w' := by
  have HS : Hid (Nums .i64 w s d ∧ RI d) := ⟨hs, hd⟩
  obtain ⟨p, n, c, rfl, HA⟩ := hs.lst
  obtain ⟨p2, n2, c2, rfl, HB⟩ := ht.lst
  have HL : Hid (x.length = n2) := HB.out.1
  clear hs ht hd
  by_cases hg : goodN (ntl d)
  · have HG : Hid (goodN (ntl d)) := hg
    obtain ⟨N, eN⟩ : ∃ N, prodN (ntl d) = N := ⟨_, rfl⟩
    have er : decide (isP d x) = ((n2 : Int) == (N : Int)) := by
      rw [beq_dec]
      exact decide_eq_decide.2 ⟨fun h => by have := h.2; rw [HL.out, eN] at this; omega, fun h => ⟨hg, by rw [HL.out, eN]; omega⟩⟩
    rw [er]
    have HN : Hid (sizeN (ntl d) = N) := by show _ = _; rw [sizeN_good hg]; exact eN
    clear er eN hg
    go_enter Try.func22, Try.ntmps22
    go_wp2_with fail
    refine name_world (fun W0 hW0 => ?_)
    have B0 : Below w.heap.size w W0 := by rw [hW0]; go_grown
    have X0 : W0.cell? ⟨w.heap.size, 0, none⟩ = some (.slice p n c) ∧ W0.cell? ⟨w.heap.size, 1, none⟩ = some (.slice p2 n2 c2) := by rw [hW0]; simp [go_sem]
    have x0 := X0.1
    have x1 := X0.2
    clear hW0 X0
    have cg : ∀ m, Calls Try.prog 46 #[.slice p n c] (W0.drewN m) fun e w' => e = .returned (.bool true) ∧ w' = W0.drewN m := fun m => by
      have := good_any _ d HS.out.2 (W0.drewN m) (HS.out.1.up (below_drew B0 m))
      rw [decide_eq_true HG.out] at this
      exact this
    have cz : ∀ m, Calls Try.prog 47 #[.slice p n c] (W0.drewN m) fun e w' => e = .returned (.int .i64 (N : Int)) ∧ w' = W0.drewN m := fun m => by
      have := size_any _ d HS.out.2 (W0.drewN m) (HS.out.1.up (below_drew B0 m))
      rw [HN.out] at this
      exact this
    go_quiet (first | exact Calls.quiet_of_same (cg _) | exact Calls.quiet_of_same (cz _))
    go_wp2
    go_ret
    exact ⟨rfl, below_drew B0 nq⟩
  · rw [decide_eq_false (fun h : isP d x => hg h.1)]
    have HG : Hid (¬ goodN (ntl d)) := hg
    clear hg
    go_enter Try.func22, Try.ntmps22
    go_wp2_with fail
    refine name_world (fun W0 hW0 => ?_)
    have B0 : Below w.heap.size w W0 := by rw [hW0]; go_grown
    have X0 : W0.cell? ⟨w.heap.size, 0, none⟩ = some (.slice p n c) ∧ W0.cell? ⟨w.heap.size, 1, none⟩ = some (.slice p2 n2 c2) := by rw [hW0]; simp [go_sem]
    have x0 := X0.1
    have x1 := X0.2
    clear hW0 X0
    have cg : ∀ m, Calls Try.prog 46 #[.slice p n c] (W0.drewN m) fun e w' => e = .returned (.bool false) ∧ w' = W0.drewN m := fun m => by
      have := good_any _ d HS.out.2 (W0.drewN m) (HS.out.1.up (below_drew B0 m))
      rw [decide_eq_false HG.out] at this
      exact this
    go_quiet (exact Calls.quiet_of_same (cg _))
    go_wp2
    go_ret
    exact ⟨rfl, below_drew B0 nq⟩
set_option maxHeartbeats 1000000 in
theorem ris_any (s t : Value) (d x : List Int) (hd : RI d) (w : World) (hs : Nums .i64 w s d) (ht : Nums .i64 w t x) :
    Calls Try.prog 31 #[.agg #[s, t]] w fun e w' => e = .returned (.bool (decide (isP d x))) ∧ Below w.heap.size w w' := by
  have HS : Hid (Nums .i64 w s d ∧ RI d) := ⟨hs, hd⟩
  obtain ⟨p, n, c, rfl, HA⟩ := hs.lst
  obtain ⟨p2, n2, c2, rfl, HB⟩ := ht.lst
  have HL : Hid (x.length = n2) := HB.out.1
  clear hs ht hd
  by_cases hg : goodN (ntl d)
  · have HG : Hid (goodN (ntl d)) := hg
    obtain ⟨N, eN⟩ : ∃ N, prodN (ntl d) = N := ⟨_, rfl⟩
    have er : decide (isP d x) = ((n2 : Int) == (N : Int)) := by
      rw [beq_dec]
      exact decide_eq_decide.2 ⟨fun h => by have := h.2; rw [HL.out, eN] at this; omega, fun h => ⟨hg, by rw [HL.out, eN]; omega⟩⟩
    rw [er]
    have HN : Hid (sizeN (ntl d) = N) := by show _ = _; rw [sizeN_good hg]; exact eN
    clear er eN hg
    go_enter Try.func31, Try.ntmps31
    go_wp2_with fail
    refine name_world (fun W0 hW0 => ?_)
    have B0 : Below w.heap.size w W0 := by rw [hW0]; go_grown
    have X0 : W0.cell? ⟨w.heap.size, 0, none⟩ = some (.slice p n c) ∧ W0.cell? ⟨w.heap.size, 1, none⟩ = some (.slice p2 n2 c2) := by rw [hW0]; simp [go_sem]
    have x0 := X0.1
    have x1 := X0.2
    clear hW0 X0
    have cg : ∀ m, Calls Try.prog 59 #[.slice p n c] (W0.drewN m) fun e w' => e = .returned (.bool true) ∧ w' = W0.drewN m := fun m => by
      have := rgood_any _ d HS.out.2 (W0.drewN m) (HS.out.1.up (below_drew B0 m))
      rw [decide_eq_true HG.out] at this
      exact this
    have cz : ∀ m, Calls Try.prog 60 #[.slice p n c] (W0.drewN m) fun e w' => e = .returned (.int .i64 (N : Int)) ∧ w' = W0.drewN m := fun m => by
      have := rsize_any _ d HS.out.2 (W0.drewN m) (HS.out.1.up (below_drew B0 m))
      rw [HN.out] at this
      exact this
    go_quiet (first | exact Calls.quiet_of_same (cg _) | exact Calls.quiet_of_same (cz _))
    go_wp2
    go_ret
    exact ⟨rfl, below_drew B0 nq⟩
  · rw [decide_eq_false (fun h : isP d x => hg h.1)]
    have HG : Hid (¬ goodN (ntl d)) := hg
    clear hg
    go_enter Try.func31, Try.ntmps31
    go_wp2_with fail
    refine name_world (fun W0 hW0 => ?_)
    have B0 : Below w.heap.size w W0 := by rw [hW0]; go_grown
    have X0 : W0.cell? ⟨w.heap.size, 0, none⟩ = some (.slice p n c) ∧ W0.cell? ⟨w.heap.size, 1, none⟩ = some (.slice p2 n2 c2) := by rw [hW0]; simp [go_sem]
    have x0 := X0.1
    have x1 := X0.2
    clear hW0 X0
    have cg : ∀ m, Calls Try.prog 59 #[.slice p n c] (W0.drewN m) fun e w' => e = .returned (.bool false) ∧ w' = W0.drewN m := fun m => by
      have := rgood_any _ d HS.out.2 (W0.drewN m) (HS.out.1.up (below_drew B0 m))
      rw [decide_eq_false HG.out] at this
      exact this
    go_quiet (exact Calls.quiet_of_same (cg _))
    go_wp2
    go_ret
    exact ⟨rfl, below_drew B0 nq⟩
set_option maxHeartbeats 1000000 in
theorem cloneI_any (v : Value) (l : List Int) (hl : l.length ≤ 1073741824) (w : World) (hv : Nums .i64 w v l) :
    Calls Try.prog 25 #[v] w fun e w' => ∃ v', e = .returned v' ∧ OwnK .i64 3 w' w.heap.size v' l ∧ Below w.heap.size w w' := by
  have hnil := fun (w : World) a n c => Lib.run_eql_slice_nil (P := Try.prog) w 27 3 a n c 0 0 Try.underlying27
  have HV : Hid (Nums .i64 w v l ∧ l.length ≤ 1073741824) := ⟨hv, hl⟩
  rcases hv with ⟨rfl, rfl⟩ | ⟨ad, c, rfl, h⟩
  · go_enter Try.func25, Try.ntmps25
    go_wp2
    go_ret
    exact ⟨_, rfl, OwnK.nil _ _ _ _, Below.refl _ _⟩
  · obtain ⟨n, en⟩ : ∃ n, l.length = n := ⟨_, rfl⟩
    have HE : Hid (l.length = n) := en
    rw [en] at HV ⊢
    clear h hl en
    have H5 : Hid (OwnK .i64 3 (w.alloc (.cells #[] 3)) w.heap.size (.slice (some ⟨w.heap.size, 0, none⟩) 0 0) []) := own_lit w [] 0 rfl (by decide)
    have H6 : Hid (Nums .i64 (w.alloc (.cells #[] 3)) (.slice (some ad) n c) l) := HV.out.1.up (up_alloc w _)
    have H7 : Hid (([] : List Int).length + l.length ≤ 1073741824) := by show _ ≤ _; rw [HE.out]; simpa using HV.out.2
    have H8 : Hid (Below w.heap.size w (w.alloc (.cells #[] 3))) := up_alloc w _
    go_enter Try.func25, Try.ntmps25
    go_wp2_with (at_builtin; refine wpList_appendK numT (by decide) rfl (.tmp 5) (.tmp 6) rfl w.heap.size _ [] rfl H5.out _ l rfl H6.out H7.out (by simp) w H8.out ?_; intro v0 w0 H0 B0)
    refine bodyPost_ret (v := v0) (by simp [results, Try.results25, go_sem]) rfl ⟨_, rfl, H0.out, B0⟩
end Go.Proofs.Ytlehlikgehbnfaa.Wd
namespace Go.Proofs.Ytlehlikgehbnfaa.Wd
open Go.RowKit
set_option linter.unusedVariables false
set_option linter.unusedSimpArgs false
set_option maxHeartbeats 2000000 in
theorem ralike_any (s t s' t' : Value) (d x d' x' : List Int) (hd : d.length ≤ 9223372036854775807) (hx : x.length ≤ 9223372036854775807) (w : World) (hs : Nums .i64 w s d) (ht : Nums .i64 w t x) (hs' : Nums .i64 w s' d') (ht' : Nums .i64 w t' x') :
    Calls Try.prog 14 #[.agg #[s, t], .agg #[s', t']] w fun e w' => e = .returned (.bool (decide (d = d' ∧ x = x'))) ∧ Below w.heap.size w w' := by
  have c1 : ∀ W, Below w.heap.size w W → Calls Try.prog 26 #[s, s'] W fun e w' => e = .returned (.bool (decide (d = d'))) ∧ ∃ n, w' = W.drewN n := fun W hW => rsame_any s s' d d' hd W (hs.up hW) (hs'.up hW)
  obtain ⟨p, n, c, rfl, HA⟩ := hs.lst
  obtain ⟨p2, n2, c2', rfl, HB⟩ := ht.lst
  obtain ⟨p3, n3, c3, rfl, HC⟩ := hs'.lst
  obtain ⟨p4, n4, c4, rfl, HD⟩ := ht'.lst
  rw [HB.out.1] at hx
  have hx' : (n2 : Int) ≤ 9223372036854775807 := by omega
  clear hs ht hs' ht' hd HA HC
  by_cases hdd : d = d'
  · rw [decide_eq_true hdd] at c1
    have er : decide (d = d' ∧ x = x') = decide (x = x') := decide_eq_decide.2 ⟨fun h => h.2, fun h => ⟨hdd, h⟩⟩
    rw [er]
    obtain ⟨r, hr⟩ : ∃ r, decide (x = x') = r := ⟨_, rfl⟩
    have HR : Hid (decide (x = x') = r) := hr
    rw [hr]
    clear er hr hdd
    go_enter Try.func14, Try.ntmps14
    by_cases hn : n2 = n4
    · subst hn
      go_wp2_with fail
      refine (c1 _ ?_).mono ?_
      · go_grown
      rintro e w1 ⟨rfl, m, hw⟩
      have B1 : Hid (Below w.heap.size w w1) := by rw [hw]; exact below_drew (by go_grown) m
      have X1 : w1.cell? ⟨w.heap.size, 0, none⟩ = some (.slice p n c) ∧ w1.cell? ⟨w.heap.size, 1, none⟩ = some (.slice p2 n2 c2') ∧ w1.cell? ⟨w.heap.size + 1, 0, none⟩ = some (.slice p3 n3 c3) ∧ w1.cell? ⟨w.heap.size + 1, 1, none⟩ = some (.slice p4 n2 c4) := by rw [hw]; simp [go_sem]
      obtain ⟨x1, x2, x3, x4⟩ := X1
      clear hw c1
      go_wp2_with fail
      go_loopg [5] n2 (fun gg v wr => ∃ (k d : Nat), k ≤ n2 ∧ gg = n2 - k ∧ v = .int .i64 (k : Int) ∧ Hid (∀ i, i < k → x.getD i 0 = x'.getD i 0) ∧ wr = w1.drewN d)
      case atStart => exact ⟨0, 0, by omega, by omega, rfl, fun i hi => by omega, rfl⟩
      case round =>
        obtain ⟨k, d, hk, hg, rfl, Hx, rfl⟩ := hrel
        by_cases hkn : k < n2
        · have hk' : (k : Int) < (n2 : Int) := by omega
          obtain ⟨q, o, rfl, ca⟩ := HB.out.2 k hkn
          obtain ⟨q2, o2, rfl, cb⟩ := HD.out.2 k hkn
          have ca := cell_low ca B1.out
          have cb := cell_low cb B1.out
          obtain ⟨xx, ex⟩ : ∃ xx, x.getD k 0 = xx := ⟨_, rfl⟩
          obtain ⟨y, ey⟩ : ∃ y, x'.getD k 0 = y := ⟨_, rfl⟩
          have HE : Hid (x.getD k 0 = xx ∧ x'.getD k 0 = y) := ⟨ex, ey⟩
          rw [ex] at ca
          rw [ey] at cb
          clear ex ey
          by_cases hxy : xx = y
          · subst hxy
            have Hn : Hid (∀ i, i < k + 1 → x.getD i 0 = x'.getD i 0) := fun i hi => by
              rcases Nat.lt_succ_iff_lt_or_eq.1 hi with h | rfl
              · exact Hx.out i h
              · rw [HE.out.1, HE.out.2]
            clear Hx
            go_wp2
            go_region
            all_goals
              go_wp2
              go_roundg (n2 - (k + 1))
            case measure => omega
            case rel => exact ⟨k + 1, d + 1, by omega, rfl, by first | rfl | simp, Hn, rfl⟩
          · have hxy' : (xx != y) = true := by simp [hxy]
            go_wp2
            go_region
            all_goals go_wp2
            go_ret
            rw [← HR.out, decide_eq_false (ne_at HB.out.1 HD.out.1 hkn (by rw [HE.out.1, HE.out.2]; exact hxy))]
            exact ⟨rfl, below_drew B1.out (d + 1)⟩
        · obtain rfl : k = n2 := by omega
          go_wp2
          go_ret
          rw [← HR.out, decide_eq_true (eq_all HB.out.1 HD.out.1 Hx.out)]
          exact ⟨rfl, below_drew B1.out d⟩
    · have hne : ((n2 : Int) != (n4 : Int)) = true := by simp; omega
      have hne' : ¬ ((n2 : Int) = (n4 : Int)) := by omega
      go_wp2_with fail
      refine (c1 _ ?_).mono ?_
      · go_grown
      rintro e w1 ⟨rfl, m, rfl⟩
      go_wp2
      go_ret
      rw [← HR.out, decide_eq_false (fun e => hn (by rw [← HB.out.1, ← HD.out.1, e]))]
      exact ⟨rfl, below_drew (by go_grown) m⟩
  · rw [decide_eq_false hdd] at c1
    rw [decide_eq_false (fun h : d = d' ∧ x = x' => hdd h.1)]
    clear hdd
    go_enter Try.func14, Try.ntmps14
    go_wp2_with fail
    refine (c1 _ ?_).mono ?_
    · go_grown
    rintro e w1 ⟨rfl, m, rfl⟩
    go_wp2
    go_ret
    exact ⟨rfl, below_drew (by go_grown) m⟩
end Go.Proofs.Ytlehlikgehbnfaa.Wd
