/- All blocks but one stand, while memory grows. Nothing of the program is named here. -/
import Derived.Test.YtbndiadgnglkhaaOwnU
import Derived.OneCell
namespace Go.Proofs.Ytbndiadgnglkhaa.Wd
open Go.RowKit
set_option linter.unusedVariables false
set_option linter.unusedSimpArgs false
structure Stay (g : Nat) (W W' : World) : Prop where
  size : W.heap.size ≤ W'.heap.size
  block : ∀ b, b ≠ g → b < W.heap.size → W'.heap[b]? = W.heap[b]?
theorem Stay.refl (g : Nat) (W : World) : Stay g W W := ⟨Nat.le_refl _, fun _ _ _ => rfl⟩
theorem Stay.trans {g : Nat} {a b c : World} (h : Stay g a b) (h2 : Stay g b c) : Stay g a c :=
  ⟨Nat.le_trans h.size h2.size, fun k h1 hk => (h2.block k h1 (Nat.lt_of_lt_of_le hk h.size)).trans (h.block k h1 hk)⟩
theorem Stay.of {g : Nat} {a b : World} (h : Below a.heap.size a b) : Stay g a b := ⟨h.size, fun k _ hk => h.block k hk⟩
theorem Stay.up {g : Nat} {a b c : World} (h : Stay g a b) (h2 : Below b.heap.size b c) : Stay g a c := h.trans (Stay.of h2)
theorem Stay.set {g : Nat} {a b : World} (h : Stay g a b) (o : Nat) (x : Value) : Stay g a (b.setCell ⟨g, o, none⟩ x) :=
  h.trans ⟨by simp, fun k hk _ => Below.heap_setCell _ _ _ _ hk⟩
theorem Stay.cell {g : Nat} {W W' : World} {a : Addr} {v : Value} (h : Stay g W W') (hc : W.cell? a = some v) (hg : a.block ≠ g) : W'.cell? a = some v := by
  have hb := cell_block hc
  unfold World.cell? at hc ⊢
  rw [h.block _ hg hb]
  exact hc
theorem Stay.frozen {g : Nat} {W W' : World} {b o : Nat} (h : Stay g W W') (hb : b < W.heap.size) (hg : b ≠ g) : W'.frozen? ⟨b, o, none⟩ = W.frozen? ⟨b, o, none⟩ := by
  unfold World.frozen?
  rw [h.block _ hg hb]
theorem Stay.below {g : Nat} {w a b : World} (h : Stay g a b) (hB : Below w.heap.size w a) (hg : w.heap.size ≤ g) (h2 : Below w.heap.size w b) : Below w.heap.size w b := h2
/-- A slice whose cells lie in blocks but g. -/
def Off (g : Nat) (v : Value) : Prop := ∀ ad n c, v = .slice (some ad) n c → ad.block ≠ g
theorem Nums.stay {k : IntKind} {g : Nat} {W W' : World} {v : Value} {l : List Int} (h : Nums k W v l) (hs : Stay g W W') (ho : Off g v) : Nums k W' v l := by
  rcases h with h | ⟨ad, c, rfl, h⟩
  · exact .inl h
  · refine .inr ⟨ad, c, rfl, fun j u hu => hs.cell (h j u hu) ?_⟩
    have := ho ad _ _ rfl
    unfold Addr.add
    split <;> exact this
/-- What was there before the block g was made. -/
theorem Nums.off {k : IntKind} {W : World} {v : Value} {l : List Int} (h : Nums k W v l) (hl : l ≠ []) {g : Nat} (hg : W.heap.size ≤ g) : Off g v := by
  intro ad n c e
  rcases h with ⟨rfl, _⟩ | ⟨ad', c', rfl, h⟩
  · cases e
  · cases e
    obtain ⟨x, xs, rfl⟩ : ∃ x xs, l = x :: xs := by cases l with | nil => exact absurd rfl hl | cons x xs => exact ⟨x, xs, rfl⟩
    have := h 0 (.int k x) rfl
    have := cell_block this
    intro e
    rw [show (ad.add 0) = ad by unfold Addr.add; simp] at this
    omega
theorem Nums.keep {k : IntKind} {g : Nat} {W W' : World} {v : Value} {l : List Int} (h : Nums k W v l) (hs : Stay g W W') (hg : W.heap.size ≤ g) : Nums k W' v l := by
  by_cases hl : l = []
  · subst hl
    rcases h with ⟨rfl, _⟩ | ⟨ad, c, rfl, h⟩
    · exact .inl ⟨rfl, rfl⟩
    · exact .inr ⟨ad, c, rfl, fun j u hu => by simp [vals] at hu⟩
  · exact h.stay hs (h.off hl hg)
theorem OwnK.off {k : IntKind} {e : TypeId} {W : World} {B g : Nat} {v : Value} {l : List Int} (h : OwnK k e W B v l) (hg : g < B) : Off g v := by
  intro ad n c ev
  rcases h.2 with ⟨h1, _⟩ | ⟨q, cap, cur, h1, h2, _⟩
  · rw [h1] at ev; cases ev
  · rw [h1] at ev
    cases ev
    show q ≠ g
    omega
theorem OwnK.stay {k : IntKind} {e : TypeId} {W W' : World} {B g : Nat} {v : Value} {l : List Int} (h : OwnK k e W B v l) (hs : Stay g W W') (hg : Off g v) : OwnK k e W' B v l := by
  refine ⟨h.1, ?_⟩
  rcases h.2 with h | ⟨q, cap, cur, h1, h2, h3, h4⟩
  · exact .inl h
  · refine .inr ⟨q, cap, cur, h1, h2, ?_, h4⟩
    have hq : q < W.heap.size := by
      rcases Nat.lt_or_ge q W.heap.size with h | h
      · exact h
      · rw [Array.getElem?_eq_none h] at h3; cases h3
    rw [hs.block q (hg _ _ _ h1) hq]
    exact h3
theorem OwnK.size {k : IntKind} {e : TypeId} {W : World} {B g n c : Nat} {l : List Int} (h : OwnK k e W B (.slice (some ⟨g, 0, none⟩) n c) l) : g < W.heap.size := by
  rcases h.2 with ⟨h1, _⟩ | ⟨q, cap, cur, h1, h2, h3, h4⟩
  · cases h1
  · cases h1
    rcases Nat.lt_or_ge g W.heap.size with h | h
    · exact h
    · rw [Array.getElem?_eq_none h] at h3; cases h3
end Go.Proofs.Ytbndiadgnglkhaa.Wd
