/- What every law of stage 16 asks first. -/
import Derived.Test.YtimbidiogcfpeaaDaA
namespace Go.Proofs.Ytimbidiogcfpeaa.Wd
open Go.RowKit Fx
set_option linter.unusedVariables false
set_option linter.unusedSimpArgs false
set_option maxRecDepth 8000
set_option maxHeartbeats 8000000
theorem aw16_a : batE 5 2 2 = 0 ∧ batV 5 2 2 = [4, 0] := by decide +kernel
theorem aw16_b : shE [1, 3] 3 = 0 ∧ shV [4, 0] [1, 3] 3 = [0] := by decide +kernel
theorem aw16_c : goodM [1, 3] := by decide +kernel
theorem dnums_len {k : IntKind} {W : World} {p : Option Addr} {n c : Nat} {l : List Int} (h : Nums k W (.slice p n c) l) : l.length = n := by
  rcases h with ⟨e, rfl⟩ | ⟨ad, c', e, _⟩
  · cases e; rfl
  · cases e; rfl
theorem dsame_any (u v : Value) (a b : List Int) (hm : a.length ≤ 9223372036854775807) (w : World) (hu : Nums .i64 w u a) (hv : Nums .i64 w v b) :
    Calls Try.prog 15 #[u, v] w fun e w' => e = .returned (.bool (decide (a = b))) ∧ Below w.heap.size w w' :=
  (rsame_any u v a b hm w hu hv).mono fun e w' h => ⟨h.1, by obtain ⟨n, rfl⟩ := h.2; exact ⟨rfl, rfl, rfl, Nat.le_refl _, fun _ _ => rfl⟩⟩
theorem awake16_any (w : World) : Calls Try.prog 9 #[] w fun e w' => e = .returned (.bool true) ∧ Below w.heap.size w w' := by
  haveI : Nonempty World := ⟨w⟩
  go_enter Try.func9, Try.ntmps9
  have cc := dbatch_any 5 2 2 (by omega) (by omega) (by omega) w
  rw [aw16_a.1, aw16_a.2] at cc
  go_wp2_with fail
  refine cc.mono ?_
  rintro e w1 ⟨v, rfl, hv, hB⟩
  replace hv := hv.nums
  obtain ⟨p, n, c, rfl, _⟩ := hv.lst
  obtain rfl : n = 2 := (dnums_len hv).symm
  have H1 : Hid (Below w.heap.size w w1 ∧ Nums .i64 w1 (.slice p 2 c) [4, 0]) := ⟨hB, hv⟩
  clear hv hB cc
  go_wp2_with fail
  generalize hK1 : World.alloc _ _ = K1
  have H2 : Hid (Below w.heap.size w K1 ∧ Nums .i64 K1 (.slice p 2 c) [4, 0] ∧ Nums .i64 K1 (.slice (some ⟨w1.heap.size, 0, none⟩) 2 2) [1, 3]) := by
    rw [← hK1]
    exact ⟨bstep H1.out.1 (up_alloc w1 _), H1.out.2.up (up_alloc w1 _), nums_lit (k := .i64) w1 [1, 3] 2 (0, 0) rfl⟩
  clear hK1 H1
  have cc := dshard_any p (some ⟨w1.heap.size, 0, none⟩) 2 c 2 2 [4, 0] [1, 3] 3 (by omega) (by omega) K1 H2.out.2.1 H2.out.2.2
  rw [aw16_b.1, aw16_b.2] at cc
  refine cc.mono ?_
  rintro e w2 ⟨v, rfl, hv, hB⟩
  replace hv := hv.nums
  obtain ⟨p2, n2, c2, rfl, _⟩ := hv.lst
  obtain rfl : n2 = 1 := (dnums_len hv).symm
  have H3 : Hid (Below w.heap.size w w2 ∧ Nums .i64 w2 (.slice p 2 c) [4, 0] ∧ Nums .i64 w2 (.slice p2 1 c2) [0]) := ⟨bstep H2.out.1 hB, H2.out.2.1.up hB, hv⟩
  clear hv hB cc H2
  go_wp2_with fail
  generalize hK2 : World.alloc _ _ = K2
  have H4 : Hid (Below w.heap.size w K2 ∧ Nums .i64 K2 (.slice p 2 c) [4, 0] ∧ Nums .i64 K2 (.slice p2 1 c2) [0] ∧ Nums .i64 K2 (.slice (some ⟨w2.heap.size, 0, none⟩) 2 2) [4, 0]) := by
    rw [← hK2]
    exact ⟨bstep H3.out.1 (up_alloc w2 _), H3.out.2.1.up (up_alloc w2 _), H3.out.2.2.up (up_alloc w2 _), nums_lit (k := .i64) w2 [4, 0] 2 (0, 0) rfl⟩
  clear hK2 H3
  have cc := dsame_any (.slice p 2 c) (.slice (some ⟨w2.heap.size, 0, none⟩) 2 2) _ _ (by decide) K2 H4.out.2.1 H4.out.2.2.2
  rw [decide_eq_true rfl] at cc
  refine cc.mono ?_
  rintro e w3 ⟨rfl, hB⟩
  have H5 : Hid (Below w.heap.size w w3 ∧ Nums .i64 w3 (.slice p2 1 c2) [0]) := ⟨bstep H4.out.1 hB, H4.out.2.2.1.up hB⟩
  clear hB H4 cc
  go_wp2_with fail
  generalize hK3 : World.alloc _ _ = K3
  have H6 : Hid (Below w.heap.size w K3 ∧ Nums .i64 K3 (.slice p2 1 c2) [0] ∧ Nums .i64 K3 (.slice (some ⟨w3.heap.size, 0, none⟩) 1 1) [0]) := by
    rw [← hK3]
    exact ⟨bstep H5.out.1 (up_alloc w3 _), H5.out.2.up (up_alloc w3 _), nums_lit (k := .i64) w3 [0] 1 (0, 0) rfl⟩
  clear hK3 H5
  have cc := dsame_any (.slice p2 1 c2) (.slice (some ⟨w3.heap.size, 0, none⟩) 1 1) _ _ (by decide) K3 H6.out.2.1 H6.out.2.2
  rw [decide_eq_true rfl] at cc
  refine cc.mono ?_
  rintro e w4 ⟨rfl, hB⟩
  have H7 : Hid (Below w.heap.size w w4) := bstep H6.out.1 hB
  clear hB H6 cc
  go_wp2_with fail
  generalize hK4 : World.alloc _ _ = K4
  have H8 : Hid (Below w.heap.size w K4 ∧ Nums .i64 K4 (.slice (some ⟨w4.heap.size, 0, none⟩) 2 2) [1, 3]) := by
    rw [← hK4]
    exact ⟨bstep H7.out (up_alloc w4 _), nums_lit (k := .i64) w4 [1, 3] 2 (0, 0) rfl⟩
  clear hK4 H7
  have cc := dgood_any (some ⟨w4.heap.size, 0, none⟩) 2 2 [1, 3] (by omega) K4 H8.out.2
  rw [decide_eq_true aw16_c] at cc
  refine cc.mono ?_
  rintro e w5 ⟨rfl, hB⟩
  have H9 : Hid (Below w.heap.size w w5) := bstep H8.out.1 hB
  clear hB H8 cc
  go_wp2
  go_ret
  exact ⟨rfl, H9.out⟩
end Go.Proofs.Ytimbidiogcfpeaa.Wd
