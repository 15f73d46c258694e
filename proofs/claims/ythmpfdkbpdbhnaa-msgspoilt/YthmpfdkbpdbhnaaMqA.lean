/- The program's messages: framed, Good. -/
import Derived.Test.YthmpfdkbpdbhnaaMsX
import Derived.Test.YthmpfdkbpdbhnaaFrP
namespace Go.Proofs.Ythmpfdkbpdbhnaa.Wd
open Go.RowKit
set_option linter.unusedVariables false
set_option linter.unusedSimpArgs false
set_option maxRecDepth 8000
set_option maxHeartbeats 4000000
theorem pframed_any (k f t v s : Int) (pn pv pb : Option Addr) (n cn m cv nb cb : Nat) (w : World) :
    Calls Try.prog 25 #[MsV k f t v s (.slice pn n cn) (.slice pv m cv), .slice pb nb cb] w fun e w' => e = .returned (FrV k f t v s (.slice pb nb cb)) ∧ Below w.heap.size w w' := by
  go_enter Try.func25, Try.ntmps25
  go_wp2
  refine bodyPost_ret (v := FrV k f t v s (.slice pb nb cb)) (by unfold FrV; simp [results, Try.results25, go_sem]) rfl ⟨rfl, by go_grown⟩
theorem pmgood_any (k f t v s : Int) (pn pv : Option Addr) (n cn m cv : Nat) (w : World) :
    Calls Try.prog 11 #[MsV k f t v s (.slice pn n cn) (.slice pv m cv)] w fun e w' => e = .returned (.bool (decide (goodG k f t n m))) ∧ Below w.heap.size w w' := by
  obtain ⟨r, er⟩ : ∃ r, decide (goodG k f t n m) = r := ⟨_, rfl⟩
  obtain ⟨z1, e1⟩ : ∃ z, decide (goodF k f t 0) = z := ⟨_, rfl⟩
  have cF := fun W => pframed_any k f t v s pn pv none n cn m cv 0 0 W
  have cG := fun W => pfgood_any k f t v s none 0 0 W
  rw [e1] at cG
  have HZ : Hid (r = ((z1 && decide (n ≤ 500)) && decide (m ≤ 500))) := by
    show _ = _
    rw [← er, ← e1]
    simp only [← Bool.decide_and]
    exact decide_eq_decide.2 (by unfold goodG goodF; omega)
  rw [er]
  clear er e1
  go_enter Try.func11, Try.ntmps11
  go_wp2_with fail
  generalize hW0 : World.alloc _ _ = W0
  have H0 : Hid (Below w.heap.size w W0 ∧ W0.heap[w.heap.size]? = some (.cells #[.int .i64 k, .int .i64 f, .int .i64 t, .int .u32 v, .int .u32 s, .slice pn n cn, .slice pv m cv] 27 (0, 0))) := by
    rw [← hW0]
    exact ⟨up_alloc _ _, by show (w.heap.push _)[w.heap.size]? = _; simp⟩
  clear hW0
  refine (cF W0).mono ?_
  rintro e wf ⟨rfl, hB⟩
  have HF : Hid (Below w.heap.size w wf ∧ wf.heap[w.heap.size]? = some (.cells #[.int .i64 k, .int .i64 f, .int .i64 t, .int .u32 v, .int .u32 s, .slice pn n cn, .slice pv m cv] 27 (0, 0))) := ⟨bstep H0.out.1 hB, (hB.block _ (heap_in8 H0.out.2)).trans H0.out.2⟩
  clear hB cF H0
  unfold FrV
  go_wp2_with fail
  refine (cG wf).mono ?_
  rintro e w1 ⟨rfl, hB⟩
  have H1 : Hid (Below w.heap.size w w1) := bstep HF.out.1 hB
  obtain ⟨⟨x0, x1, x2, x3, x4, x5, x6⟩, _⟩ := ms_cells ((hB.block _ (heap_in8 HF.out.2)).trans HF.out.2)
  have kx := cell_lt x5
  clear hB cG HF
  cases z1 with
  | false =>
    go_wp2
    go_ret
    exact ⟨by rw [HZ.out]; rfl, H1.out⟩
  | true =>
    by_cases h4 : (n : Int) ≤ 500
    · go_wp2
      go_ret
      exact ⟨by rw [HZ.out, decide_eq_true (show n ≤ 500 by omega), decide_eq_decide.2 (show ((m : Int) ≤ 500) ↔ m ≤ 500 by omega)]; rfl, H1.out⟩
    · go_wp2
      go_ret
      exact ⟨by rw [HZ.out, decide_eq_false (show ¬ n ≤ 500 by omega)]; rfl, H1.out⟩
end Go.Proofs.Ythmpfdkbpdbhnaa.Wd
