/- A bound, a state of noughts, and the state that a trainer begins with. -/
import Derived.Test.YtknadgffflhlgaaOpM
import Derived.Test.YtknadgffflhlgaaTwo
import Derived.Test.YtknadgffflhlgaaTenW
import Derived.Test.YtknadgffflhlgaaWds
import Derived.Test.YtknadgffflhlgaaTold
import Derived.Laws.CopyOwn
namespace Go.Proofs.Ytknadgffflhlgaa.Wd
open Go.RowKit Fx
set_option linter.unusedVariables false
set_option linter.unusedSimpArgs false
set_option maxRecDepth 8000
set_option maxHeartbeats 8000000
theorem within_any (d b : Int) (hd : InR d) (hb : InR b) (h0 : 0 ≤ b) (w : World) :
    Calls Try.prog 21 #[.int .i64 d, .int .i64 b] w fun e w' => e = .returned (.int .i64 (bnd b d)) ∧ w' = w := by
  unfold InR at hd hb
  by_cases hz : b = 0
  · subst hz
    rw [bnd_zero]
    go_enter Try.func21, Try.ntmps21
    go_wp2
    exact bodyPost_ret (v := .int .i64 d) (by simp [results, Try.results21, go_sem]) rfl ⟨rfl, rfl⟩
  · have hz' : (b == 0) = false := by simpa using hz
    obtain ⟨m, em⟩ : ∃ m, max d (-b) = m := ⟨_, rfl⟩
    obtain ⟨r, er⟩ : ∃ r, min m b = r := ⟨_, rfl⟩
    have hr : bnd b d = r := by
      unfold bnd
      split <;> (try split) <;> omega
    rw [hr]
    have kmax : ∀ (ts : Array TypeId) (t : TypeId) (w : World), (Builtin.max_ ts t #[.int .i64 d, .int .i64 (-b)]).run Try.prog w = .ok (.int .i64 m) w := fun ts t w => by
      have e : (if -b > d then -b else d) = m := by rw [← em]; split <;> omega
      simp [Builtin.max_, Builtin.max2, e]
    have kmin : ∀ (ts : Array TypeId) (t : TypeId) (w : World), (Builtin.min_ ts t #[.int .i64 m, .int .i64 b]).run Try.prog w = .ok (.int .i64 r) w := fun ts t w => by
      have e : (if b < m then b else m) = r := by rw [← er]; split <;> omega
      simp [Builtin.min_, Builtin.min2, e]
    clear em er hr
    go_enter Try.func21, Try.ntmps21
    go_wp2
    exact bodyPost_ret (v := .int .i64 r) (by simp [results, Try.results21, go_sem]) rfl ⟨rfl, rfl⟩
theorem ofsize_end {w W4 : World} {n : Nat} {s t : Value} {T e : TypeId} (hn : n ≤ 1048576) (h : (((w.alloc (.cells #[s, t] T)).alloc (.cells (vals .i64 (List.replicate n 0)).toArray e)).alloc (.cells (vals .i64 (List.replicate n 0)).toArray e)).drew = W4) :
    Below w.heap.size w W4 ∧ Cel W4 w.heap.size s t ∧ OwnK .i64 e W4 w.heap.size (.slice (some ⟨w.heap.size + 1, 0, none⟩) n n) (List.replicate n 0) ∧ OwnK .i64 e W4 w.heap.size (.slice (some ⟨w.heap.size + 1 + 1, 0, none⟩) n n) (List.replicate n 0) := by
  have B1 := up_alloc w (.cells #[s, t] T)
  obtain ⟨B2, O1, O2⟩ := two_made (k := .i64) (e := e) (by omega) h
  have es : (w.alloc (.cells #[s, t] T)).heap.size = w.heap.size + 1 := Array.size_push _
  have XR : Cel (w.alloc (.cells #[s, t] T)) w.heap.size s t := by
    unfold Cel
    simp [go_sem]
  rw [es] at O1 O2
  exact ⟨bstep B1 B2, XR.up B2, O1.low (by omega), O2.low (by omega)⟩
theorem ofsize_any (n : Nat) (hn : n ≤ 1048576) (w : World) :
    Calls Try.prog 20 #[.int .i64 (n : Int)] w fun e w' => ∃ g g', e = .returned (.agg #[.slice (some ⟨g, 0, none⟩) n n, .slice (some ⟨g', 0, none⟩) n n]) ∧ Below w.heap.size w w' ∧ g ≠ g' ∧ OwnK .i64 27 w' w.heap.size (.slice (some ⟨g, 0, none⟩) n n) (List.replicate n 0) ∧ OwnK .i64 27 w' w.heap.size (.slice (some ⟨g', 0, none⟩) n n) (List.replicate n 0) := by
  obtain ⟨MK, eMK⟩ : ∃ MK, vals .i64 (List.replicate n 0) = MK := ⟨_, rfl⟩
  have hmk : ∀ W, (Instr.makeSlice 23 (.int .i64 (n : Int)) (.int .i64 (n : Int))).run Try.prog W = .ok (.slice (some ⟨W.heap.size, 0, none⟩) n n) (W.alloc (.cells MK.toArray 27)) := fun W => by rw [← eMK]; exact make_run fixT (by decide) n (by omega) .i64 .i64 W
  have HMK : Hid (vals .i64 (List.replicate n 0) = MK) := eMK
  clear eMK
  go_enter Try.func20, Try.ntmps20
  go_wp2_with fail
  go_region
  all_goals
    obtain rfl := HMK.out
    generalize hW4 : World.drew _ = W4
    obtain ⟨hb, hx, ho1, ho2⟩ := ofsize_end hn hW4
    have HF : Hid (Below w.heap.size w W4 ∧ OwnK .i64 27 W4 w.heap.size (.slice (some ⟨w.heap.size + 1, 0, none⟩) n n) (List.replicate n 0) ∧ OwnK .i64 27 W4 w.heap.size (.slice (some ⟨w.heap.size + 1 + 1, 0, none⟩) n n) (List.replicate n 0)) := ⟨hb, ho1, ho2⟩
    obtain ⟨y0, y1, _, _⟩ := hx
    clear hW4 hb ho1 ho2 hmk HMK
    go_wp2
  · exact bodyPost_ret (v := .agg #[.slice (some ⟨w.heap.size + 1, 0, none⟩) n n, .slice (some ⟨w.heap.size + 1 + 1, 0, none⟩) n n]) (by simp [results, Try.results20, go_sem, y0, y1]) rfl ⟨_, _, rfl, HF.out.1, by omega, HF.out.2.1, HF.out.2.2⟩
  · exact bodyPost_ret (v := .agg #[.slice (some ⟨w.heap.size + 1 + 1, 0, none⟩) n n, .slice (some ⟨w.heap.size + 1, 0, none⟩) n n]) (by simp [results, Try.results20, go_sem, y0, y1]) rfl ⟨_, _, rfl, HF.out.1, by omega, HF.out.2.2, HF.out.2.1⟩
end Go.Proofs.Ytknadgffflhlgaa.Wd
