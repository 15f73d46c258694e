/- A slice of the call's own stays what it is while memory grows. Nothing of the program is named here. -/
import Derived.Test.YtbndiadgnglkhaaNums
namespace Go.Proofs.Ytbndiadgnglkhaa.Wd
open Go.RowKit
theorem OwnK.up {k : IntKind} {e : TypeId} {W W' : World} {B : Nat} {v : Value} {l : List Int} (h : OwnK k e W B v l) (hb : Below W.heap.size W W') : OwnK k e W' B v l := by
  refine ⟨h.1, ?_⟩
  rcases h.2 with h | ⟨g, cap, cur, h1, h2, h3, h4⟩
  · exact .inl h
  · refine .inr ⟨g, cap, cur, h1, h2, ?_, h4⟩
    have hg : g < W.heap.size := by
      rcases Nat.lt_or_ge g W.heap.size with h | h
      · exact h
      · rw [Array.getElem?_eq_none h] at h3; cases h3
    rw [hb.block g hg]
    exact h3
end Go.Proofs.Ytbndiadgnglkhaa.Wd
