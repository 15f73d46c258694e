/- What package shape's fromLast, joined and Join hand back. -/
import Derived.Test.YtbndiadgnglkhaaShpB
namespace Go.Proofs.Ytbndiadgnglkhaa.Wd
open Go.RowKit
set_option linter.unusedVariables false
set_option linter.unusedSimpArgs false
set_option maxHeartbeats 1000000 in
theorem last_any (v : Value) (d : List Nat) (hd : goodN d) (k : Nat) (hk : 1 ≤ k ∧ k ≤ 4) (w : World) (hv : Nums .i64 w v (itl d)) :
    Calls Try.prog 58 #[v, .int .i64 (k : Int)] w fun e w' => e = .returned (.int .i64 ((sideN d k : Nat) : Int)) ∧ w' = w := by
  obtain ⟨p, n, c, rfl, HC⟩ := hv.lst
  have hdn : d.length = n := by rw [← itl_len d]; exact HC.out.1
  have hn : n ≤ 4 := by rw [← hdn]; exact hd.1
  have hn' : (n : Int) ≤ 4 := by omega
  obtain ⟨r, er⟩ : ∃ r : Int, ((sideN d k : Nat) : Int) = r := ⟨_, rfl⟩
  by_cases hkn : n < k
  · have hkn' : (n : Int) < (k : Int) := by omega
    rw [sideN_far d k (by omega)]
    clear hv er hdn hd
    go_enter Try.func58, Try.ntmps58
    go_wp2
    go_ret
    exact ⟨rfl, rfl⟩
  · have hkn' : (k : Int) ≤ (n : Int) := by omega
    obtain ⟨j, hj⟩ : ∃ j, j = n - k := ⟨_, rfl⟩
    have hjk : (n : Int) - (k : Int) = (j : Int) := by omega
    have hjn : (j : Int) < (n : Int) := by omega
    have hs := side_at d k hk.1 (by omega)
    rw [hdn, ← hj, er] at hs
    obtain ⟨q, o, rfl, hcell⟩ := HC.out.2 j (by omega)
    rw [hs] at hcell
    rw [er]
    clear hv er hdn hd hs hj
    go_enter Try.func58, Try.ntmps58
    go_wp2
    go_ret
    exact ⟨rfl, rfl⟩
set_option maxHeartbeats 1000000 in
theorem joined_any (x y : Int) (w : World) :
    Calls Try.prog 57 #[.int .i64 x, .int .i64 y] w fun e w' => e = .returned (.tuple #[.int .i64 (jnd x y), .bool (jok x y)]) ∧ w' = w := by
  by_cases hx : x = 1
  · subst hx
    rw [show jnd 1 y = y from rfl, show jok 1 y = true by unfold jok; exact decide_eq_true (.inl rfl)]
    go_enter Try.func57, Try.ntmps57
    go_wp2
    go_ret2
    exact ⟨rfl, rfl⟩
  · rw [show jnd x y = x from if_neg hx]
    have hx' : (x == 1) = false := by simp [hx]
    by_cases hy : y = 1
    · subst hy
      rw [show jok x 1 = true by unfold jok; exact decide_eq_true (.inr (.inl rfl))]
      go_enter Try.func57, Try.ntmps57
      go_wp2
      go_ret2
      exact ⟨rfl, rfl⟩
    · have hy' : (y == 1) = false := by simp [hy]
      have ej : jok x y = (x == y) := by
        unfold jok
        by_cases h : x = y
        · rw [decide_eq_true (.inr (.inr h))]; simp [h]
        · rw [decide_eq_false (by rintro (h' | h' | h') <;> contradiction)]; simp [h]
      rw [ej]
      clear ej
      go_enter Try.func57, Try.ntmps57
      go_wp2
      go_ret2
      exact ⟨rfl, rfl⟩
end Go.Proofs.Ytbndiadgnglkhaa.Wd
