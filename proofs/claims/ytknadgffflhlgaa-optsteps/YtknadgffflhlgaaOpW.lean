/- The laws' own words of stage 15: a literal of one Wide; awake. -/
import Derived.Test.YtknadgffflhlgaaOpC
import Derived.Test.YtknadgffflhlgaaAlk
namespace Go.Proofs.Ytknadgffflhlgaa.Wd
open Go.RowKit Fx
set_option linter.unusedVariables false
set_option linter.unusedSimpArgs false
set_option maxRecDepth 8000
set_option maxHeartbeats 8000000
theorem nums_len {k : IntKind} {W : World} {p : Option Addr} {n c : Nat} {l : List Int} (h : Nums k W (.slice p n c) l) : l.length = n := by
  rcases h with ⟨e, rfl⟩ | ⟨ad, c', e, _⟩
  · cases e; rfl
  · cases e; rfl
/-- A literal of one Wide. -/
theorem wdr_lit {W : World} {t : TypeId} {x hi lo : Int} (hx : InW x) (h1 : x / 18446744073709551616 = hi) (h2 : x % 18446744073709551616 = lo) : WdR (W.alloc (.cells #[.int .i64 hi, .int .u64 lo] t)) (some ⟨W.heap.size, 0, none⟩) 1 [x] :=
  ⟨rfl, fun y hy => by simp at hy; subst hy; exact hx, fun i hi' => by
    obtain rfl : i = 0 := by omega
    refine ⟨_, _, rfl, ?_, ?_⟩ <;> simp [go_sem, h1, h2]⟩
theorem one_R (x : Int) (h : InR x) : RI [x] := fun y hy => by simp at hy; subst hy; exact h
theorem aw_P : opP [4294967296] (List.replicate 1 0) [8589934592] 1 4294967296 0 0 = [-4294967296] := by decide +kernel
theorem aw_M : opM (List.replicate 1 0) [8589934592] 1 0 0 = [8589934592] := by decide +kernel
theorem of_at2 {n hi lo : Int} (hn : InR n) (h1 : n / 18446744073709551616 = hi) (h2 : n % 18446744073709551616 = lo) (W : World) : Calls Try.prog 11 #[.int .i64 n] W fun e w' => e = .returned (.agg #[.int .i64 hi, .int .u64 lo]) ∧ Below W.heap.size W w' := by
  have := of_any n hn W
  unfold wd at this
  rw [h1, h2] at this
  exact this
theorem awake15_any (w : World) : Calls Try.prog 9 #[] w fun e w' => e = .returned (.bool true) ∧ Below w.heap.size w w' := by
  haveI : Nonempty World := ⟨w⟩
  go_enter Try.func9, Try.ntmps9
  go_wp2_with fail
  generalize hK1 : World.alloc _ _ = K1
  have H1 : Hid (Below w.heap.size w K1 ∧ Nums .i64 K1 (.slice (some ⟨w.heap.size, 0, none⟩) 1 1) [4294967296]) := by
    rw [← hK1]
    exact ⟨up_alloc w _, nums_lit (k := .i64) w [4294967296] 1 (0, 0) rfl⟩
  clear hK1
  refine (new_any _ 1 1 [4294967296] rfl (by decide) K1 H1.out.2).mono ?_
  rintro e w1 ⟨v, rfl, ⟨p, n, c, q, m, d, rfl, hP, hM⟩, hB⟩
  replace hP := hP.nums
  replace hM := hM.nums
  obtain rfl : n = 1 := (nums_len hP).symm
  obtain rfl : m = 1 := (nums_len hM).symm
  have H2 : Hid (Below w.heap.size w w1 ∧ Nums .i64 w1 (.slice p 1 c) [4294967296] ∧ Nums .i64 w1 (.slice q 1 d) (List.replicate 1 0)) := ⟨bstep H1.out.1 hB, hP, hM⟩
  clear hP hM hB H1
  go_wp2_with fail
  refine (of_at2 (n := 8589934592) (hi := 0) (lo := 8589934592) (by unfold InR; omega) (by decide) (by decide) w1).mono ?_
  rintro e w2 ⟨rfl, hB⟩
  have H3 : Hid (Below w.heap.size w w2 ∧ Nums .i64 w2 (.slice p 1 c) [4294967296] ∧ Nums .i64 w2 (.slice q 1 d) (List.replicate 1 0)) := ⟨bstep H2.out.1 hB, H2.out.2.1.up hB, H2.out.2.2.up hB⟩
  clear hB H2
  go_wp2_with fail
  generalize hK2 : World.alloc _ _ = K2
  have hB : Below w2.heap.size w2 K2 := by rw [← hK2]; exact up_alloc w2 _
  have H4 : Hid (Below w.heap.size w K2 ∧ Nums .i64 K2 (.slice p 1 c) [4294967296] ∧ Nums .i64 K2 (.slice q 1 d) (List.replicate 1 0) ∧ WdR K2 (some ⟨w2.heap.size, 0, none⟩) 1 [8589934592]) := ⟨bstep H3.out.1 hB, H3.out.2.1.up hB, H3.out.2.2.up hB, by rw [← hK2]; exact wdr_lit (by unfold InW; omega) (by decide) (by decide)⟩
  clear hB hK2 H3
  have cc := apply_ok p q (some ⟨w2.heap.size, 0, none⟩) 1 c d 1 [4294967296] (List.replicate 1 0) [8589934592] 1 4294967296 0 0 (by omega) (one_R _ (by unfold InR; omega)) (one_R _ (by unfold InR; omega)) (by unfold InR; omega) (by unfold InR; omega) (by unfold InR; omega) (by unfold InR; omega) (by omega) (by omega) rfl rfl K2 H4.out.2.1 H4.out.2.2.1 H4.out.2.2.2
  rw [aw_P, aw_M] at cc
  refine cc.mono ?_
  rintro e w3 ⟨v, rfl, ⟨p3, n3, c3, q3, m3, d3, rfl, hP, hM⟩, hB⟩
  replace hP := hP.nums
  replace hM := hM.nums
  obtain rfl : n3 = 1 := (nums_len hP).symm
  obtain rfl : m3 = 1 := (nums_len hM).symm
  have H5 : Hid (Below w.heap.size w w3 ∧ Nums .i64 w3 (.slice p3 1 c3) [-4294967296] ∧ Nums .i64 w3 (.slice q3 1 d3) [8589934592]) := ⟨bstep H4.out.1 hB, hP, hM⟩
  clear hP hM hB H4 cc
  go_wp2_with fail
  generalize hK3 : World.alloc _ _ = K3
  have H6 : Hid (Below w.heap.size w K3 ∧ Nums .i64 K3 (.slice p3 1 c3) [-4294967296] ∧ Nums .i64 K3 (.slice q3 1 d3) [8589934592] ∧ Cel K3 w3.heap.size (.slice p3 1 c3) (.slice q3 1 d3) ∧ Nums .i64 K3 (.slice (some ⟨w3.heap.size + 1, 0, none⟩) 1 1) [-4294967296]) := by
    have hB := blit (up_alloc w3 (.cells #[.slice p3 1 c3, .slice q3 1 d3] 25)) (.cells #[.int .i64 (-4294967296)] 27)
    rw [← hK3]
    exact ⟨bstep H5.out.1 hB, H5.out.2.1.up hB, H5.out.2.2.up hB, by unfold Cel; simp [go_sem], nums_lit2 (k := .i64) w3 _ [-4294967296] 1 (0, 0) rfl⟩
  clear hK3 H5
  have cc := alike10_any p3 (some ⟨w3.heap.size + 1, 0, none⟩) 1 c3 1 1 _ _ (by omega) K3 H6.out.2.1 H6.out.2.2.2.2
  rw [decide_eq_true rfl] at cc
  refine cc.mono ?_
  rintro e w4 ⟨rfl, hB⟩
  have H7 : Hid (Below w.heap.size w w4 ∧ Nums .i64 w4 (.slice q3 1 d3) [8589934592] ∧ Below K3.heap.size K3 w4) := ⟨bstep H6.out.1 hB, H6.out.2.2.1.up hB, hB⟩
  obtain ⟨a0, a1, _, _⟩ := H6.out.2.2.2.1.up hB
  clear hB H6 cc
  go_wp2_with fail
  generalize hK4 : World.alloc _ _ = K4
  have H8 : Hid (Below w.heap.size w K4 ∧ Nums .i64 K4 (.slice q3 1 d3) [8589934592] ∧ Nums .i64 K4 (.slice (some ⟨w4.heap.size, 0, none⟩) 1 1) [8589934592]) := by
    rw [← hK4]
    exact ⟨bstep H7.out.1 (up_alloc w4 _), H7.out.2.1.up (up_alloc w4 _), nums_lit (k := .i64) w4 [8589934592] 1 (0, 0) rfl⟩
  clear hK4 H7 a0 a1
  have cc := alike10_any q3 (some ⟨w4.heap.size, 0, none⟩) 1 d3 1 1 _ _ (by omega) K4 H8.out.2.1 H8.out.2.2
  rw [decide_eq_true rfl] at cc
  refine cc.mono ?_
  rintro e w5 ⟨rfl, hB⟩
  have H9 : Hid (Below w.heap.size w w5) := bstep H8.out.1 hB
  clear hB H8 cc
  go_wp2
  go_ret
  exact ⟨rfl, H9.out⟩
end Go.Proofs.Ytknadgffflhlgaa.Wd
