/- append([]byte{}, b...) in a region whose order is drawn. -/
import Derived.Test.YthmpfdkbpdbhnaaPkD
import Derived.Test.YthmpfdkbpdbhnaaSeg
import Derived.ArgAppend
namespace Go.Proofs.Ythmpfdkbpdbhnaa.Wd
open Go.RowKit
set_option linter.unusedVariables false
set_option linter.unusedSimpArgs false
theorem heap_in8 {W : World} {b : Nat} {o : Obj} (h : W.heap[b]? = some o) : b < W.heap.size := by
  rcases Nat.lt_or_ge b W.heap.size with h' | h'
  · exact h'
  · rw [Array.getElem?_eq_none h'] at h; cases h
/-- An empty literal of bytes. -/
def Lit8 (B : Nat) (v : Value) (W : World) : Prop := ∃ g, v = .slice (some ⟨g, 0, none⟩) 0 0 ∧ W.heap[g]? = some (.cells #[] 5 (0, 0)) ∧ B ≤ g
theorem Lit8.up {B : Nat} {v : Value} {W W' : World} (h : Lit8 B v W) (hB : Below W.heap.size W W') : Lit8 B v W' := by
  obtain ⟨g, a, b, c⟩ := h
  exact ⟨g, a, (hB.block _ (heap_in8 b)).trans b, c⟩
theorem lit8_new (B : Nat) (W : World) (hB : B ≤ W.heap.size) : Lit8 B (.slice (some ⟨W.heap.size, 0, none⟩) 0 0) (W.alloc (.cells #[] 5)) := ⟨_, rfl, by show (W.heap.push _)[W.heap.size]? = _; simp, hB⟩
theorem Own8.up {W W' : World} {B : Nat} {v : Value} {l : List Int} (h : Own8 W B v l) (hb : Below W.heap.size W W') : Own8 W' B v l := by
  refine ⟨h.1, ?_⟩
  rcases h.2 with h | ⟨g, cap, cur, h1, h2, h3, h4⟩
  · exact .inl h
  · exact .inr ⟨g, cap, cur, h1, h2, (hb.block g (heap_in8 h3)).trans h3, h4⟩
def OwnR (B : Nat) (l : List Int) (v : Value) (W : World) : Prop := Own8 W B v l
theorem OwnR.up {B : Nat} {l : List Int} {v : Value} {W W' : World} (h : OwnR B l v W) (hb : Below W.heap.size W W') : OwnR B l v W' := Own8.up h hb
theorem app8 (W : World) (B : Nat) (u : Value) (h0 : Lit8 B u W) (hB : B ≤ W.heap.size) (v : Value) (l : List Int) (hv : Bytes W v l) (hl : l.length ≤ 1073741824) :
    ∃ v' w', (Builtin.append_ #[31, 31] 31 #[u, v]).run Try.prog W = .ok v' w' ∧ Own8 w' B v' l ∧ Below W.heap.size W w' := by
  obtain ⟨i0, hi, hz0, hz1, hz2⟩ := info_parts info8
  obtain ⟨g, rfl, h1, h2⟩ := h0
  have hO : W.ownsRow B 5 1 (.slice (some ⟨g, 0, none⟩) 0 0) 0 [] := ⟨rfl, .inr ⟨g, 0, #[], rfl, h2, h1, Nat.le_refl _, Nat.zero_le _, rfl, rfl⟩⟩
  rcases hv with ⟨rfl, rfl⟩ | ⟨ad, c, rfl, hc⟩
  · exact ⟨_, W, run_append_owned_none W B 31 _ 5 i0 1 Try.underlying31 hi _ _ _ hO, hO, Below.refl _ _⟩
  · by_cases h : l = []
    · subst h
      refine ⟨.slice (some ⟨g, 0, none⟩) 0 0, W, ?_, hO, Below.refl _ _⟩
      have hf := run_firstCells_some (P := Try.prog) W i0.size 0 ad 0 c [] (by simp) (fun j u hu => by simp at hu)
      simp [Builtin.append_, run_underlying Try.underlying31, sizeOf, typeInfo, hi, Builtin.lenOf, hf, storeCells]
    · have hpos : 0 < l.length := by cases l with | nil => exact absurd rfl h | cons a l => simp
      obtain ⟨v', w', hr, ho, hgr⟩ := run_append_arg_grows (P := Try.prog) (w := W) 31 31 5 i0 (.int .u8 0) 1 1 Try.underlying31 hi hz0 hz1 hz2 rfl (by decide) ⟨g, 0, none⟩ 0 0 [] rfl (fun j u hu => by simp at hu) ad l.length c (l.map (Value.int .u8)) (by simp) hc (by omega) (by unfold maxLen; omega) (by omega)
      refine ⟨v', w', hr, ?_, Below.grown (Below.refl _ _) hgr (Nat.le_refl _) (fun j hj => by cases hj)⟩
      rw [Nat.zero_add, List.nil_append] at ho
      exact Own8.low (B := W.heap.size) ho hB
end Go.Proofs.Ythmpfdkbpdbhnaa.Wd
