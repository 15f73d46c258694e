/- Tensors: what tens.Good, tens.Same, slices.Clone, slices.Equal of numbers hand back; the reference's Is, Alike. -/
import Derived.Test.YtbndiadgnglkhaaShpA
import Derived.Test.YtbndiadgnglkhaaShpF
import Derived.Test.YtbndiadgnglkhaaTnsO
import Derived.Test.YtbndiadgnglkhaaFlow
import Derived.Test.YtbndiadgnglkhaaShpL
namespace Go.Proofs.Ytbndiadgnglkhaa.Wd
open Go.RowKit
set_option linter.unusedVariables false
set_option linter.unusedSimpArgs false
theorem fixT : NumT Try.prog 25 24 .i64 8 := ⟨Try.underlying25, by kernel_rfl⟩
/-- A tensor: a shape, and as many numbers as that has. -/
abbrev isP (d x : List Int) : Prop := goodN (ntl d) ∧ x.length = prodN (ntl d)
theorem cell_low {w w' : World} {v : Value} {b o : Nat} (h : w.cell? ⟨b, o, none⟩ = some v) (hB : Below w.heap.size w w') : w'.cell? ⟨b, o, none⟩ = some v := still_cell hB h
theorem beq_dec (a b : Int) : (a == b) = decide (a = b) := by
  by_cases h : a = b <;> simp [h]
/-- A struct of two values in a block. -/
def Box (w : World) (b : Nat) (s t : Value) : Prop := w.cell? ⟨b, 0, none⟩ = some s ∧ w.cell? ⟨b, 1, none⟩ = some t
theorem Box.up {w w' : World} {b : Nat} {s t : Value} (h : Box w b s t) (hB : Below w.heap.size w w') : Box w' b s t := ⟨cell_low h.1 hB, cell_low h.2 hB⟩
set_option maxHeartbeats 1000000 in
theorem tgood_any (s t : Value) (d x : List Int) (hd : RI d) (w : World) (hs : Nums .i64 w s d) (ht : Nums .i64 w t x) :
    Calls Try.prog 22 #[.agg #[s, t]] w fun e w' => e = .returned (.bool (decide (isP d x))) ∧ Below w.heap.size w w' := by
  have HS : Hid (Nums .i64 w s d ∧ RI d) := ⟨hs, hd⟩
  obtain ⟨p, n, c, rfl, HA⟩ := hs.lst
  obtain ⟨p2, n2, c2, rfl, HB⟩ := ht.lst
  have HL : Hid (x.length = n2) := HB.out.1
  clear hs ht hd
  by_cases hg : goodN (ntl d)
  · have HG : Hid (goodN (ntl d)) := hg
    obtain ⟨N, eN⟩ : ∃ N, prodN (ntl d) = N := ⟨_, rfl⟩
    have er : decide (isP d x) = ((n2 : Int) == (N : Int)) := by
      rw [beq_dec]
      exact decide_eq_decide.2 ⟨fun h => by have := h.2; rw [HL.out, eN] at this; omega, fun h => ⟨hg, by rw [HL.out, eN]; omega⟩⟩
    rw [er]
    have HN : Hid (sizeN (ntl d) = N) := by show _ = _; rw [sizeN_good hg]; exact eN
    clear er eN hg
    go_enter Try.func22, Try.ntmps22
    go_wp2_with fail
    refine name_world (fun W0 hW0 => ?_)
    have B0 : Below w.heap.size w W0 := by rw [hW0]; go_grown
    have X0 : W0.cell? ⟨w.heap.size, 0, none⟩ = some (.slice p n c) ∧ W0.cell? ⟨w.heap.size, 1, none⟩ = some (.slice p2 n2 c2) := by rw [hW0]; simp [go_sem]
    have x0 := X0.1
    have x1 := X0.2
    clear hW0 X0
    have cg : ∀ m, Calls Try.prog 36 #[.slice p n c] (W0.drewN m) fun e w' => e = .returned (.bool true) ∧ w' = W0.drewN m := fun m => by
      have := good_any _ d HS.out.2 (W0.drewN m) (HS.out.1.up (below_drew B0 m))
      rw [decide_eq_true HG.out] at this
      exact this
    have cz : ∀ m, Calls Try.prog 37 #[.slice p n c] (W0.drewN m) fun e w' => e = .returned (.int .i64 (N : Int)) ∧ w' = W0.drewN m := fun m => by
      have := size_any _ d HS.out.2 (W0.drewN m) (HS.out.1.up (below_drew B0 m))
      rw [HN.out] at this
      exact this
    go_quiet (first | exact Calls.quiet_of_same (cg _) | exact Calls.quiet_of_same (cz _))
    go_wp2
    go_ret
    exact ⟨rfl, below_drew B0 nq⟩
  · rw [decide_eq_false (fun h : isP d x => hg h.1)]
    have HG : Hid (¬ goodN (ntl d)) := hg
    clear hg
    go_enter Try.func22, Try.ntmps22
    go_wp2_with fail
    refine name_world (fun W0 hW0 => ?_)
    have B0 : Below w.heap.size w W0 := by rw [hW0]; go_grown
    have X0 : W0.cell? ⟨w.heap.size, 0, none⟩ = some (.slice p n c) ∧ W0.cell? ⟨w.heap.size, 1, none⟩ = some (.slice p2 n2 c2) := by rw [hW0]; simp [go_sem]
    have x0 := X0.1
    have x1 := X0.2
    clear hW0 X0
    have cg : ∀ m, Calls Try.prog 36 #[.slice p n c] (W0.drewN m) fun e w' => e = .returned (.bool false) ∧ w' = W0.drewN m := fun m => by
      have := good_any _ d HS.out.2 (W0.drewN m) (HS.out.1.up (below_drew B0 m))
      rw [decide_eq_false HG.out] at this
      exact this
    go_quiet (exact Calls.quiet_of_same (cg _))
    go_wp2
    go_ret
    exact ⟨rfl, below_drew B0 nq⟩
set_option maxHeartbeats 1000000 in
theorem ris_any (s t : Value) (d x : List Int) (hd : RI d) (w : World) (hs : Nums .i64 w s d) (ht : Nums .i64 w t x) :
    Calls Try.prog 23 #[.agg #[s, t]] w fun e w' => e = .returned (.bool (decide (isP d x))) ∧ Below w.heap.size w w' := by
  have HS : Hid (Nums .i64 w s d ∧ RI d) := ⟨hs, hd⟩
  obtain ⟨p, n, c, rfl, HA⟩ := hs.lst
  obtain ⟨p2, n2, c2, rfl, HB⟩ := ht.lst
  have HL : Hid (x.length = n2) := HB.out.1
  clear hs ht hd
  by_cases hg : goodN (ntl d)
  · have HG : Hid (goodN (ntl d)) := hg
    obtain ⟨N, eN⟩ : ∃ N, prodN (ntl d) = N := ⟨_, rfl⟩
    have er : decide (isP d x) = ((n2 : Int) == (N : Int)) := by
      rw [beq_dec]
      exact decide_eq_decide.2 ⟨fun h => by have := h.2; rw [HL.out, eN] at this; omega, fun h => ⟨hg, by rw [HL.out, eN]; omega⟩⟩
    rw [er]
    have HN : Hid (sizeN (ntl d) = N) := by show _ = _; rw [sizeN_good hg]; exact eN
    clear er eN hg
    go_enter Try.func23, Try.ntmps23
    go_wp2_with fail
    refine name_world (fun W0 hW0 => ?_)
    have B0 : Below w.heap.size w W0 := by rw [hW0]; go_grown
    have X0 : W0.cell? ⟨w.heap.size, 0, none⟩ = some (.slice p n c) ∧ W0.cell? ⟨w.heap.size, 1, none⟩ = some (.slice p2 n2 c2) := by rw [hW0]; simp [go_sem]
    have x0 := X0.1
    have x1 := X0.2
    clear hW0 X0
    have cg : ∀ m, Calls Try.prog 29 #[.slice p n c] (W0.drewN m) fun e w' => e = .returned (.bool true) ∧ w' = W0.drewN m := fun m => by
      have := rgood_any _ d HS.out.2 (W0.drewN m) (HS.out.1.up (below_drew B0 m))
      rw [decide_eq_true HG.out] at this
      exact this
    have cz : ∀ m, Calls Try.prog 53 #[.slice p n c] (W0.drewN m) fun e w' => e = .returned (.int .i64 (N : Int)) ∧ w' = W0.drewN m := fun m => by
      have := rsize_any _ d HS.out.2 (W0.drewN m) (HS.out.1.up (below_drew B0 m))
      rw [HN.out] at this
      exact this
    go_quiet (first | exact Calls.quiet_of_same (cg _) | exact Calls.quiet_of_same (cz _))
    go_wp2
    go_ret
    exact ⟨rfl, below_drew B0 nq⟩
  · rw [decide_eq_false (fun h : isP d x => hg h.1)]
    have HG : Hid (¬ goodN (ntl d)) := hg
    clear hg
    go_enter Try.func23, Try.ntmps23
    go_wp2_with fail
    refine name_world (fun W0 hW0 => ?_)
    have B0 : Below w.heap.size w W0 := by rw [hW0]; go_grown
    have X0 : W0.cell? ⟨w.heap.size, 0, none⟩ = some (.slice p n c) ∧ W0.cell? ⟨w.heap.size, 1, none⟩ = some (.slice p2 n2 c2) := by rw [hW0]; simp [go_sem]
    have x0 := X0.1
    have x1 := X0.2
    clear hW0 X0
    have cg : ∀ m, Calls Try.prog 29 #[.slice p n c] (W0.drewN m) fun e w' => e = .returned (.bool false) ∧ w' = W0.drewN m := fun m => by
      have := rgood_any _ d HS.out.2 (W0.drewN m) (HS.out.1.up (below_drew B0 m))
      rw [decide_eq_false HG.out] at this
      exact this
    go_quiet (exact Calls.quiet_of_same (cg _))
    go_wp2
    go_ret
    exact ⟨rfl, below_drew B0 nq⟩
set_option maxHeartbeats 2000000 in
theorem equalF_any (u v : Value) (a b : List Int) (hm : a.length ≤ 9223372036854775807) (w : World) (hu : Nums .i64 w u a) (hv : Nums .i64 w v b) :
    Calls Try.prog 44 #[u, v] w fun e w' => e = .returned (.bool (decide (a = b))) ∧ ∃ n, w' = w.drewN n := by
  obtain ⟨p, n, c, rfl, HA⟩ := hu.lst
  obtain ⟨p2, n2, c2, rfl, HB⟩ := hv.lst
  obtain ⟨r, er⟩ : ∃ r : Bool, decide (a = b) = r := ⟨_, rfl⟩
  have HR : Hid (decide (a = b) = r) := er
  rw [er]
  rw [HA.out.1] at hm
  have hm' : (n : Int) ≤ 9223372036854775807 := by omega
  clear er hv hu
  go_enter Try.func44, Try.ntmps44
  by_cases hn : n = n2
  · subst hn
    go_wp2_with fail
    go_loopg [13] n (fun gg v wr => ∃ (k d : Nat), k ≤ n ∧ gg = n - k ∧ v = .int .i64 (k : Int) ∧ Hid (∀ i, i < k → a.getD i 0 = b.getD i 0) ∧ wr = w.drewN d)
    case atStart => exact ⟨0, 0, by omega, by omega, rfl, fun i hi => by omega, rfl⟩
    case round =>
      obtain ⟨k, d, hk, hg, rfl, Hx, rfl⟩ := hrel
      by_cases hkn : k < n
      · have hk' : (k : Int) < (n : Int) := by omega
        obtain ⟨q, o, rfl, ca⟩ := HA.out.2 k hkn
        obtain ⟨q2, o2, rfl, cb⟩ := HB.out.2 k hkn
        obtain ⟨x, ex⟩ : ∃ x, a.getD k 0 = x := ⟨_, rfl⟩
        obtain ⟨y, ey⟩ : ∃ y, b.getD k 0 = y := ⟨_, rfl⟩
        have HE : Hid (a.getD k 0 = x ∧ b.getD k 0 = y) := ⟨ex, ey⟩
        rw [ex] at ca
        rw [ey] at cb
        clear ex ey
        by_cases hxy : x = y
        · subst hxy
          have Hn : Hid (∀ i, i < k + 1 → a.getD i 0 = b.getD i 0) := fun i hi => by
            rcases Nat.lt_succ_iff_lt_or_eq.1 hi with h | rfl
            · exact Hx.out i h
            · rw [HE.out.1, HE.out.2]
          clear Hx
          go_wp2
          go_region
          all_goals
            go_wp2
            go_roundg (n - (k + 1))
          case measure => omega
          case rel => exact ⟨k + 1, d + 1, by omega, rfl, by first | rfl | simp, Hn, rfl⟩
        · have hxy' : (x != y) = true := by simp [hxy]
          go_wp2
          go_region
          all_goals go_wp2
          go_ret
          rw [← HR.out, decide_eq_false (ne_at HA.out.1 HB.out.1 hkn (by rw [HE.out.1, HE.out.2]; exact hxy))]
          exact ⟨rfl, d + 1, rfl⟩
      · obtain rfl : k = n := by omega
        go_wp2
        go_ret
        rw [← HR.out, decide_eq_true (eq_all HA.out.1 HB.out.1 Hx.out)]
        exact ⟨rfl, d, rfl⟩
  · have hne : ((n : Int) != (n2 : Int)) = true := by simp; omega
    have hne' : ¬ ((n : Int) = (n2 : Int)) := by omega
    go_wp2
    go_ret
    rw [← HR.out, decide_eq_false (fun e => hn (by rw [← HA.out.1, ← HB.out.1, e]))]
    exact ⟨rfl, 0, rfl⟩
set_option maxHeartbeats 1000000 in
theorem cloneI_any (v : Value) (l : List Int) (hl : l.length ≤ 1073741824) (w : World) (hv : Nums .i64 w v l) :
    Calls Try.prog 38 #[v] w fun e w' => ∃ v', e = .returned v' ∧ OwnK .i64 3 w' w.heap.size v' l ∧ Below w.heap.size w w' := by
  have hnil := fun (w : World) a n c => Lib.run_eql_slice_nil (P := Try.prog) w 23 3 a n c 0 0 Try.underlying23
  have HV : Hid (Nums .i64 w v l ∧ l.length ≤ 1073741824) := ⟨hv, hl⟩
  rcases hv with ⟨rfl, rfl⟩ | ⟨ad, c, rfl, h⟩
  · go_enter Try.func38, Try.ntmps38
    go_wp2
    go_ret
    exact ⟨_, rfl, OwnK.nil _ _ _ _, Below.refl _ _⟩
  · obtain ⟨n, en⟩ : ∃ n, l.length = n := ⟨_, rfl⟩
    have HE : Hid (l.length = n) := en
    rw [en] at HV ⊢
    clear h hl en
    have H5 : Hid (OwnK .i64 3 (w.alloc (.cells #[] 3)) w.heap.size (.slice (some ⟨w.heap.size, 0, none⟩) 0 0) []) := own_lit w [] 0 rfl (by decide)
    have H6 : Hid (Nums .i64 (w.alloc (.cells #[] 3)) (.slice (some ad) n c) l) := HV.out.1.up (up_alloc w _)
    have H7 : Hid (([] : List Int).length + l.length ≤ 1073741824) := by show _ ≤ _; rw [HE.out]; simpa using HV.out.2
    have H8 : Hid (Below w.heap.size w (w.alloc (.cells #[] 3))) := up_alloc w _
    go_enter Try.func38, Try.ntmps38
    go_wp2_with (at_builtin; refine wpList_appendK numT (by decide) rfl (.tmp 5) (.tmp 6) rfl w.heap.size _ [] rfl H5.out _ l rfl H6.out H7.out (by simp) w H8.out ?_; intro v0 w0 H0 B0)
    refine bodyPost_ret (v := v0) (by simp [results, Try.results38, go_sem]) rfl ⟨_, rfl, H0.out, B0⟩
set_option maxHeartbeats 1000000 in
theorem cloneF_any (v : Value) (l : List Int) (hl : l.length ≤ 1073741824) (w : World) (hv : Nums .i64 w v l) :
    Calls Try.prog 39 #[v] w fun e w' => ∃ v', e = .returned v' ∧ OwnK .i64 24 w' w.heap.size v' l ∧ Below w.heap.size w w' := by
  have hnil := fun (w : World) a n c => Lib.run_eql_slice_nil (P := Try.prog) w 25 24 a n c 0 0 Try.underlying25
  have HV : Hid (Nums .i64 w v l ∧ l.length ≤ 1073741824) := ⟨hv, hl⟩
  rcases hv with ⟨rfl, rfl⟩ | ⟨ad, c, rfl, h⟩
  · go_enter Try.func39, Try.ntmps39
    go_wp2
    go_ret
    exact ⟨_, rfl, OwnK.nil _ _ _ _, Below.refl _ _⟩
  · obtain ⟨n, en⟩ : ∃ n, l.length = n := ⟨_, rfl⟩
    have HE : Hid (l.length = n) := en
    rw [en] at HV ⊢
    clear h hl en
    have H5 : Hid (OwnK .i64 24 (w.alloc (.cells #[] 24)) w.heap.size (.slice (some ⟨w.heap.size, 0, none⟩) 0 0) []) := own_lit w [] 0 rfl (by decide)
    have H6 : Hid (Nums .i64 (w.alloc (.cells #[] 24)) (.slice (some ad) n c) l) := HV.out.1.up (up_alloc w _)
    have H7 : Hid (([] : List Int).length + l.length ≤ 1073741824) := by show _ ≤ _; rw [HE.out]; simpa using HV.out.2
    have H8 : Hid (Below w.heap.size w (w.alloc (.cells #[] 24))) := up_alloc w _
    go_enter Try.func39, Try.ntmps39
    go_wp2_with (at_builtin; refine wpList_appendK fixT (by decide) rfl (.tmp 5) (.tmp 6) rfl w.heap.size _ [] rfl H5.out _ l rfl H6.out H7.out (by simp) w H8.out ?_; intro v0 w0 H0 B0)
    refine bodyPost_ret (v := v0) (by simp [results, Try.results39, go_sem]) rfl ⟨_, rfl, H0.out, B0⟩
end Go.Proofs.Ytbndiadgnglkhaa.Wd
