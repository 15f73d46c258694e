/- Are two rows of numbers alike? -/
import Derived.Test.YtknadgffflhlgaaTenW
namespace Go.Proofs.Ytknadgffflhlgaa.Wd
open Go.RowKit Fx
set_option linter.unusedVariables false
set_option linter.unusedSimpArgs false
theorem list_ext0 {a b : List Int} (h : a.length = b.length) (h2 : ∀ i, i < a.length → a.getD i 0 = b.getD i 0) : a = b := by
  refine List.ext_getElem h fun i hi hj => ?_
  have := h2 i hi
  rwa [List.getD_eq_getElem?_getD, List.getElem?_eq_getElem hi, List.getD_eq_getElem?_getD, List.getElem?_eq_getElem hj] at this
set_option maxHeartbeats 8000000 in
theorem alike10_any (p p2 : Option Addr) (n c n2 c2 : Nat) (a b : List Int) (hn : n ≤ 1073741824) (w : World) (h1 : Nums .i64 w (.slice p n c) a) (h2 : Nums .i64 w (.slice p2 n2 c2) b) :
    Calls Try.prog 17 #[.slice p n c, .slice p2 n2 c2] w fun e w' => e = .returned (.bool (decide (a = b))) ∧ Below w.heap.size w w' := by
  haveI : Nonempty World := ⟨w⟩
  obtain ⟨r, er⟩ : ∃ r : Bool, decide (a = b) = r := ⟨_, rfl⟩
  have HR : Hid (decide (a = b) = r) := er
  obtain ⟨_, _, _, e1, HA⟩ := h1.lst
  cases e1
  obtain ⟨_, _, _, e2, HC⟩ := h2.lst
  cases e2
  rw [er]
  clear er h1 h2
  go_enter Try.func17, Try.ntmps17
  by_cases hnn : n = n2
  case neg =>
    have er : r = false := by rw [← HR.out, decide_eq_false fun h => hnn (by rw [← HA.out.1, ← HC.out.1, h])]
    subst er
    have hm' : ((n : Int) != (n2 : Int)) = true := by simpa using (show (n : Int) ≠ (n2 : Int) by omega)
    have hm2 : ¬ ((n : Int) = (n2 : Int)) := by omega
    go_wp2
    go_ret
    exact ⟨rfl, Below.refl _ _⟩
  subst hnn
  go_wp2_with fail
  go_loopg [5] n (fun gg v wr => ∃ (k : Nat), k ≤ n ∧ gg = n - k ∧ v = .int .i64 (k : Int) ∧ Hid (∀ i, i < k → a.getD i 0 = b.getD i 0) ∧ Hid (Below w.heap.size w wr))
  case atStart => exact ⟨0, by omega, by omega, rfl, fun i hi => by omega, Below.refl _ _⟩
  case round =>
    obtain ⟨k, hk, hg, rfl, Hx, HB⟩ := hrel
    by_cases hkn : k < n
    · have hk' : (k : Int) < (n : Int) := by omega
      obtain ⟨qa, oa, rfl, a1⟩ := HA.out.2 k hkn
      obtain ⟨qb, ob, rfl, b1⟩ := HC.out.2 k hkn
      have a0 := cell_low a1 HB.out
      have b0 := cell_low b1 HB.out
      obtain ⟨u, eu⟩ : ∃ u, a.getD k 0 = u := ⟨_, rfl⟩
      obtain ⟨v, ev⟩ : ∃ v, b.getD k 0 = v := ⟨_, rfl⟩
      rw [eu] at a0
      rw [ev] at b0
      clear a1 b1
      by_cases he : u = v
      · subst he
        have HN : Hid (∀ i, i < k + 1 → a.getD i 0 = b.getD i 0) := fun i hi => by
          rcases Nat.lt_succ_iff_lt_or_eq.1 hi with h2 | rfl
          · exact Hx.out i h2
          · rw [eu, ev]
        clear eu ev
        go_wp2
        go_region
        go_wp2
        go_roundg (n - (k + 1))
        case measure => omega
        case rel => exact ⟨k + 1, by omega, rfl, by first | rfl | simp, HN, HB.out.trans ⟨rfl, rfl, rfl, Nat.le_refl _, fun _ _ => rfl⟩⟩
      · have er : r = false := by rw [← HR.out, decide_eq_false fun h => he (by rw [← eu, ← ev, h])]
        subst er
        have he2 : (u != v) = true := by simpa using he
        clear eu ev
        go_wp2
        go_region
        go_wp2
        go_ret
        exact ⟨rfl, HB.out.trans ⟨rfl, rfl, rfl, Nat.le_refl _, fun _ _ => rfl⟩⟩
    · obtain rfl : k = n := by omega
      have er : r = true := by
        rw [← HR.out, decide_eq_true (list_ext0 (by rw [HA.out.1, HC.out.1]) fun i hi => Hx.out i (by rw [← HA.out.1]; exact hi))]
      subst er
      go_wp2
      go_ret
      exact ⟨rfl, HB.out⟩
end Go.Proofs.Ytknadgffflhlgaa.Wd
