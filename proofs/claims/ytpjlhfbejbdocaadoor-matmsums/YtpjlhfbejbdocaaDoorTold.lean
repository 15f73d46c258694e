/- What an operation of a drawn region hands back, told by predicates that hold on: a cell newly made, a literal's row, a tensor of one's own. -/
import Derived.Test.YtpjlhfbejbdocaaDoorTenM
import Derived.Test.YtpjlhfbejbdocaaDoorFlow
namespace Go.Proofs.YtpjlhfbejbdocaaDoor.Wd
open Go.RowKit
set_option linter.unusedVariables false
set_option linter.unusedSimpArgs false
/-- A cell for a tensor, newly made. -/
def NewC (B : Nat) (v : Value) (W : World) : Prop := ∃ b, v = .pointer (some ⟨b, 0, none⟩) ∧ W.heap[b]? = some (.cells #[.slice none 0 0, .slice none 0 0] 26 (0, 0)) ∧ B ≤ b
theorem heap_lt {W : World} {b : Nat} {o : Obj} (h : W.heap[b]? = some o) : b < W.heap.size := by
  rcases Nat.lt_or_ge b W.heap.size with h' | h'
  · exact h'
  · rw [Array.getElem?_eq_none h'] at h; cases h
theorem NewC.up {B : Nat} {v : Value} {W W' : World} (h : NewC B v W) (hB : Below W.heap.size W W') : NewC B v W' := by
  obtain ⟨b, e, h1, h2⟩ := h
  exact ⟨b, e, by rw [hB.block b (heap_lt h1)]; exact h1, h2⟩
theorem new_cel {W : World} {b : Nat} {s t : Value} {e : TypeId} (h : W.heap[b]? = some (.cells #[s, t] e (0, 0))) : Cel W b s t := by
  refine ⟨?_, ?_, ?_, ?_⟩
  · unfold World.cell?; simp [h]
  · unfold World.cell?; simp [h]
  · unfold World.frozen?; simp [h]
  · unfold World.frozen?; simp [h]
theorem OwnK.off_type {k : IntKind} {e e' : TypeId} {W : World} {B b : Nat} {v : Value} {l : List Int} {cs : Array Value} {fz : Nat × Nat} (h : OwnK k e W B v l) (hb : W.heap[b]? = some (.cells cs e' fz)) (hne : e ≠ e') : Off b v := by
  intro ad n c ev
  rcases h.2 with ⟨h1, _⟩ | ⟨q, cap, cur, h1, h2, h3, _⟩
  · rw [h1] at ev; cases ev
  · rw [h1] at ev
    cases ev
    intro hq
    have hq : q = b := hq
    subst hq
    rw [h3] at hb
    injection hb with hb
    injection hb with _ h5 _
    exact hne h5
/-- A tensor's copy. -/
def OwnT (B : Nat) (D X : List Int) (v : Value) (W : World) : Prop := ∃ p n c p2 n2 c2, v = .agg #[.slice p n c, .slice p2 n2 c2] ∧ OwnK .i64 3 W B (.slice p n c) D ∧ OwnK .i64 28 W B (.slice p2 n2 c2) X
theorem OwnT.up {B : Nat} {D X : List Int} {v : Value} {W W' : World} (h : OwnT B D X v W) (hB : Below W.heap.size W W') : OwnT B D X v W' := by
  obtain ⟨p, n, c, p2, n2, c2, e, h1, h2⟩ := h
  exact ⟨p, n, c, p2, n2, c2, e, h1.up hB, h2.up hB⟩
/-- A literal's row. -/
def LitN (l : List Int) (v : Value) (W : World) : Prop := ∃ g, v = .slice (some ⟨g, 0, none⟩) l.length l.length ∧ Nums .i64 W v l
theorem LitN.up {l : List Int} {v : Value} {W W' : World} (h : LitN l v W) (hB : Below W.heap.size W W') : LitN l v W' := by
  obtain ⟨g, e, h1⟩ := h
  exact ⟨g, e, h1.up hB⟩
/-- A tensor's two literals. -/
def TupP (B : Nat) (D X : List Int) (E : Int) (v : Value) (W : World) : Prop := ∃ u, v = .tuple #[u, .int .i64 E] ∧ OwnT B D X u W
theorem TupP.up {B : Nat} {D X : List Int} {E : Int} {v : Value} {W W' : World} (h : TupP B D X E v W) (hB : Below W.heap.size W W') : TupP B D X E v W' := by
  obtain ⟨u, e, h1⟩ := h
  exact ⟨u, e, h1.up hB⟩
theorem tn_nums {D X : List Int} {p p2 : Option Addr} {n c n2 c2 : Nat} {W : World} (h : Tn D X (.agg #[.slice p n c, .slice p2 n2 c2]) W) : Nums .i64 W (.slice p n c) D ∧ Nums .i64 W (.slice p2 n2 c2) X := by
  obtain ⟨p', n', c', p2', n2', c2', e, h1, h2⟩ := h
  cases e
  exact ⟨h1, h2⟩
theorem TRes.own {W : World} {B : Nat} {v : Value} {D X : List Int} (h : TRes W B v D X) : OwnT B D X v W := by
  obtain ⟨s, t, rfl, h1, h2⟩ := h
  obtain ⟨p, n, c, rfl, _⟩ := h1.nums.lst
  obtain ⟨p2, n2, c2, rfl, _⟩ := h2.nums.lst
  exact ⟨p, n, c, p2, n2, c2, rfl, h1, h2⟩
end Go.Proofs.YtpjlhfbejbdocaaDoor.Wd
