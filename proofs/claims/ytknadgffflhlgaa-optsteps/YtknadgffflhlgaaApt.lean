/- Rows of one's own that grow side by side; append of one number as an operation of a drawn region. -/
import Derived.Test.YtknadgffflhlgaaTenW
import Derived.Deep.AppendLies
namespace Go.Proofs.Ytknadgffflhlgaa.Wd
open Go.RowKit Fx
set_option linter.unusedVariables false
set_option linter.unusedSimpArgs false
/-- Two slices of the call's own do not share a block. -/
def Ap (u v : Value) : Prop := ∀ g, ¬ (u.ownBlock = some g ∧ v.ownBlock = some g)
theorem Ap.symm {u v : Value} (h : Ap u v) : Ap v u := fun g c => h g ⟨c.2, c.1⟩
theorem OwnK.lt {k : IntKind} {e : TypeId} {W : World} {B g : Nat} {v : Value} {l : List Int} (h : OwnK k e W B v l) (hg : v.ownBlock = some g) : g < W.heap.size := by
  rcases h.2 with ⟨h1, _⟩ | ⟨q, cap, cur, h1, h2, h3, _⟩
  · rw [h1] at hg; cases hg
  · rw [h1] at hg
    cases hg
    rcases Nat.lt_or_ge q W.heap.size with h | h
    · exact h
    · rw [Array.getElem?_eq_none h] at h3; cases h3
theorem OwnK.grown {k : IntKind} {e : TypeId} {W W' : World} {B : Nat} {u v : Value} {l : List Int} (h : OwnK k e W B v l) (hg : W.grownBy W' u.ownBlock) (hap : Ap u v) : OwnK k e W' B v l := by
  refine ⟨h.1, ?_⟩
  rcases h.2 with h1 | ⟨q, cap, cur, h1, h2, h3, h4⟩
  · exact .inl h1
  · have hq : q < W.heap.size := h.lt (by rw [h1]; rfl)
    exact .inr ⟨q, cap, cur, h1, h2, by rw [hg.block q hq (fun c => hap q ⟨c.symm, by rw [h1]; rfl⟩)]; exact h3, h4⟩
theorem wpList_append_apart {P : Program} {t e : TypeId} {k : IntKind} {b : Nat} (T : NumT P t e k b) (hb8 : b ≤ 8) {ops : Array Oper} {rest : List Oper} {o : Oper} {a : Act} {Q : Exit → Act → World → Prop} {w : World} (hgd : o.guard = none) (s x : Operand)
    (ho : o.op = .call { callee := .builtin .append, args := #[s, x], argTypes := #[t, t] }) (B : Nat) (u : Value) (l0 : List Int) (hs : a.eval s = u) (hown : OwnK k e w B u l0)
    (ad : Addr) (X : Int) (c : Nat) (hx : a.eval x = .slice (some ad) 1 c) (hb : Nums k w (.slice (some ad) 1 c) [X]) (hlen : l0.length + 1 ≤ 1073741824) (hB : B ≤ w.heap.size) (w0 : World) (hB0 : Below B w0 w) (v : Value) (lv : List Int) (hv : OwnK k e w B v lv) (hap : Ap u v)
    (h : ∀ u' w', Hid (OwnK k e w' B u' (l0 ++ [X]) ∧ OwnK k e w' B v lv ∧ Ap u' v) → Below B w0 w' → wpList P ops Q rest (a.put o.dst u') w') : wpList P ops Q (o :: rest) a w := by
  obtain ⟨i0, hi, hz0, hz1, hz2⟩ := info_of T
  have hm : (l0.length + 1) * b ≤ 1073741824 * 8 := Nat.mul_le_mul hlen hb8
  have hc : ∀ j u, (vals k [X])[j]? = some u → w.cell? (ad.add j) = some u := by
    rcases hb with ⟨h1, _⟩ | ⟨ad', c', e1, hc⟩
    · cases h1
    · cases e1
      exact hc
  refine wpList_append_lies _ hgd s x t ho B e i0 (.int k 0) 1 b T.ht hi hz0 hz1 hz2 rfl (by decide) u l0.length _ hs hown ad 1 c (vals k [X]) hx (by simp [vals]) hc (vals_one k [X]) (by omega) (by unfold maxLen; omega) (by omega) hB w.heap.size rfl ?_
  intro g cap w' h1 h2 h3 h4
  refine h _ w' ⟨?_, hv.grown h2 hap, fun q hq => ?_⟩ (Below.grown hB0 h2 hB hown.block)
  · unfold OwnK vals at *
    simpa using h1
  · obtain ⟨hq1, hq2⟩ := hq
    cases hq1
    rcases h3 with h3 | h3
    · exact hap _ ⟨h3, hq2⟩
    · have hlt : g < w.heap.size := hv.lt hq2
      omega
theorem app_one {P : Program} {t e : TypeId} {k : IntKind} {b : Nat} (T : NumT P t e k b) (hb8 : b ≤ 8) (ty : TypeId) (W : World) (B : Nat) (u : Value) (l : List Int) (hu : OwnK k e W B u l) (g : Nat) (X : Int) (hg : W.heap[g]? = some (.cells [Value.int k X].toArray e (0, 0))) (hl : l.length + 1 ≤ 1073741824) (hB : B ≤ W.heap.size) :
    ∃ g' cap w', (Builtin.append_ #[t, t] ty #[u, .slice (some ⟨g, 0, none⟩) 1 1]).run P W = .ok (.slice (some ⟨g', 0, none⟩) (l.length + 1) cap) w' ∧ OwnK k e w' B (.slice (some ⟨g', 0, none⟩) (l.length + 1) cap) (l ++ [X]) ∧ W.grownBy w' u.ownBlock ∧ (u.ownBlock = some g' ∨ W.heap.size ≤ g') := by
  obtain ⟨i0, hi, hz0, hz1, hz2⟩ := info_of T
  have hm : (l.length + 1) * b ≤ 1073741824 * 8 := Nat.mul_le_mul hl hb8
  obtain ⟨g', cap, w', hr, h1, h2, h3, h4⟩ := run_append_lies (P := P) W t ty B e i0 (.int k 0) 1 b T.ht hi hz0 hz1 hz2 rfl (by decide) u l.length _ hu ⟨g, 0, none⟩ 1 1 (vals k [X]) (by simp [vals]) (fun j x hj => by
    rw [addr_plus, Nat.zero_add]
    unfold World.cell?
    simpa [hg, vals] using hj) (vals_one k [X]) (by omega) (by unfold maxLen; omega) (by omega) hB _ rfl
  refine ⟨g', cap, w', hr, ?_, h2, h3.imp id fun h => by omega⟩
  unfold OwnK vals at *
  simpa using h1
end Go.Proofs.Ytknadgffflhlgaa.Wd
