/- Tensors that can be read: what tens.Good, tens.Same and the reference's Is, Alike tell of them. -/
import Derived.Test.YtknadgffflhlgaaTenA
import Derived.Test.YtknadgffflhlgaaTenW
namespace Go.Proofs.Ytknadgffflhlgaa.Wd
open Go.RowKit
set_option linter.unusedVariables false
set_option linter.unusedSimpArgs false
/-- A tensor that can be read. -/
def Tn (D X : List Int) (v : Value) (W : World) : Prop := ∃ p n c p2 n2 c2, v = .agg #[.slice p n c, .slice p2 n2 c2] ∧ Nums .i64 W (.slice p n c) D ∧ Nums .i64 W (.slice p2 n2 c2) X
theorem Tn.up {D X : List Int} {v : Value} {W W' : World} (h : Tn D X v W) (hB : Below W.heap.size W W') : Tn D X v W' := by
  obtain ⟨p, n, c, p2, n2, c2, e, h1, h2⟩ := h
  exact ⟨p, n, c, p2, n2, c2, e, h1.up hB, h2.up hB⟩
theorem TRes.tn {W : World} {B : Nat} {v : Value} {D X : List Int} (h : TRes W B v D X) : Tn D X v W := by
  obtain ⟨s, t, rfl, h1, h2⟩ := h
  obtain ⟨p, n, c, rfl, _⟩ := h1.nums.lst
  obtain ⟨p2, n2, c2, rfl, _⟩ := h2.nums.lst
  exact ⟨p, n, c, p2, n2, c2, rfl, h1.nums, h2.nums⟩
/-- No more than an int tells. -/
def Few (l : List Int) : Prop := l.length ≤ 9223372036854775807
theorem RowN.riI {w : World} {p : Option Addr} {n c : Nat} {z : Nat → Int} (h : RowN .i64 w p n c z) : RI (nlst n z) := fun y hy => bounds_i64 (h.wf y hy)
theorem RowN.few {W : World} {p : Option Addr} {n c : Nat} {z : Nat → Int} (h : RowN .i64 W p n c z) : Few (nlst n z) := by
  unfold Few
  rw [nlst_len]
  have := h.1.1
  have := h.1.2.1
  omega
end Go.Proofs.Ytknadgffflhlgaa.Wd
