/- What the laws of frames reckon with: own, same. -/
import Derived.Test.YtdllobikpjejiaaFrQ
namespace Go.Proofs.Ytdllobikpjejiaa.Wd
open Go.RowKit
set_option linter.unusedVariables false
set_option linter.unusedSimpArgs false
set_option maxRecDepth 8000
set_option maxHeartbeats 4000000
theorem fown_any (k f t v s : Int) (p : Option Addr) (n c : Nat) (w : World) :
    Calls Try.prog 14 #[.agg #[.int .i64 k, .int .i64 f, .int .i64 t, .int .u32 v, .int .u32 s, .slice p n c]] w fun e w' => e = .returned (.agg #[.int .i64 k, .int .i64 f, .int .i64 t, .int .u32 v, .int .u32 s, .slice p n c]) ∧ Below w.heap.size w w' := by
  go_enter Try.func14, Try.ntmps14
  go_wp2
  exact bodyPost_ret (v := .agg #[.int .i64 k, .int .i64 f, .int .i64 t, .int .u32 v, .int .u32 s, .slice p n c]) (by simp [results, Try.results14, go_sem]) rfl ⟨rfl, bstep (up_alloc _ _) (up_alloc _ _)⟩
theorem fsame_any (k f t v s k' f' t' v' s' : Int) (p p' : Option Addr) (n c n' c' : Nat) (b b' : List Int) (hb : By8 b) (hb' : By8 b') (w : World) (h1 : Bytes w (.slice p n c) b) (h2 : Bytes w (.slice p' n' c') b') :
    Calls Try.prog 13 #[.agg #[.int .i64 k, .int .i64 f, .int .i64 t, .int .u32 v, .int .u32 s, .slice p n c], .agg #[.int .i64 k', .int .i64 f', .int .i64 t', .int .u32 v', .int .u32 s', .slice p' n' c']] w fun e w' => e = .returned (.bool (decide (k = k' ∧ f = f' ∧ t = t' ∧ v = v' ∧ s = s' ∧ b = b'))) ∧ Below w.heap.size w w' := by
  have HN : Hid (∀ (W : World), Below w.heap.size w W → (Sem.run Try.prog (convert 24 9 (.slice p n c)) W = .ok (.string (str b)) W) ∧ Sem.run Try.prog (convert 24 9 (.slice p' n' c')) W = .ok (.string (str b')) W) := fun W hW => ⟨conv_any (h1.up hW) hb, conv_any (h2.up hW) hb'⟩
  have HQ : Hid (((str b).toList == (str b').toList) = decide (b = b')) := str_eq hb hb'
  clear h1 h2
  go_enter Try.func13, Try.ntmps13
  by_cases ek : k = k'
  case neg =>
    have qk : (k == k') = false := by simpa using ek
    go_wp2
    go_ret
    exact ⟨by rw [decide_eq_false fun h => ek (by simp only [h])]; rfl, bstep (up_alloc _ _) (up_alloc _ _)⟩
  have qk : (k == k') = true := by simpa using ek
  by_cases ef : f = f'
  case neg =>
    have qf : (f == f') = false := by simpa using ef
    go_wp2
    go_ret
    exact ⟨by rw [decide_eq_false fun h => ef (by simp only [h])]; rfl, bstep (up_alloc _ _) (up_alloc _ _)⟩
  have qf : (f == f') = true := by simpa using ef
  by_cases et : t = t'
  case neg =>
    have qt : (t == t') = false := by simpa using et
    go_wp2
    go_ret
    exact ⟨by rw [decide_eq_false fun h => et (by simp only [h])]; rfl, bstep (up_alloc _ _) (up_alloc _ _)⟩
  have qt : (t == t') = true := by simpa using et
  by_cases ev : v = v'
  case neg =>
    have qv : (v == v') = false := by simpa using ev
    go_wp2
    go_ret
    exact ⟨by rw [decide_eq_false fun h => ev (by simp only [h])]; rfl, bstep (up_alloc _ _) (up_alloc _ _)⟩
  have qv : (v == v') = true := by simpa using ev
  by_cases es : s = s'
  case neg =>
    have qs : (s == s') = false := by simpa using es
    go_wp2
    go_ret
    exact ⟨by rw [decide_eq_false fun h => es (by simp only [h])]; rfl, bstep (up_alloc _ _) (up_alloc _ _)⟩
  have qs : (s == s') = true := by simpa using es
  obtain ⟨cv1, cv2⟩ := HN.out ((w.alloc (.cells #[.int .i64 k, .int .i64 f, .int .i64 t, .int .u32 v, .int .u32 s, .slice p n c] 32)).alloc (.cells #[.int .i64 k', .int .i64 f', .int .i64 t', .int .u32 v', .int .u32 s', .slice p' n' c'] 32)) (bstep (up_alloc _ _) (up_alloc _ _))
  obtain ⟨r, er⟩ : ∃ r, decide (b = b') = r := ⟨_, rfl⟩
  have hq := HQ.out
  rw [er] at hq
  have HR : Hid (decide (k = k' ∧ f = f' ∧ t = t' ∧ v = v' ∧ s = s' ∧ b = b') = r) := by
    show _ = _
    rw [← er]
    exact decide_eq_decide.2 ⟨fun h => h.2.2.2.2.2, fun h => ⟨ek, ef, et, ev, es, h⟩⟩
  rw [HR.out]
  clear er HR HQ HN ek ef et ev es
  go_wp2
  go_ret
  exact ⟨rfl, bstep (up_alloc _ _) (up_alloc _ _)⟩
end Go.Proofs.Ytdllobikpjejiaa.Wd
