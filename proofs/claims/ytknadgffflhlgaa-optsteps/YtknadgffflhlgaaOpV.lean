/- What a step hands back, told in regions whose order is drawn. -/
import Derived.Test.YtknadgffflhlgaaOpW
namespace Go.Proofs.Ytknadgffflhlgaa.Wd
open Go.RowKit Fx
set_option linter.unusedVariables false
set_option linter.unusedSimpArgs false
set_option maxRecDepth 8000
set_option maxHeartbeats 8000000
def TupS (e : Int) (P M : List Int) (v : Value) (W : World) : Prop := ∃ u, v = .tuple #[u, .int .i64 e] ∧ SRes W u P M
theorem TupS.up {e : Int} {P M : List Int} {v : Value} {W W' : World} (h : TupS e P M v W) (hB : Below W.heap.size W W') : TupS e P M v W' := by
  obtain ⟨u, e, a⟩ := h
  exact ⟨u, e, a.up hB⟩
def StV (P M : List Int) (v : Value) (W : World) : Prop := SRes W v P M
theorem StV.up {P M : List Int} {v : Value} {W W' : World} (h : StV P M v W) (hB : Below W.heap.size W W') : StV P M v W' := SRes.up h hB
/-- A cell for a state, newly made. -/
def NewS (B : Nat) (T : TypeId) (v : Value) (W : World) : Prop := ∃ b, v = .pointer (some ⟨b, 0, none⟩) ∧ W.heap[b]? = some (.cells #[.slice none 0 0, .slice none 0 0] T (0, 0)) ∧ B ≤ b
theorem NewS.up {B : Nat} {T : TypeId} {v : Value} {W W' : World} (h : NewS B T v W) (hB : Below W.heap.size W W') : NewS B T v W' := by
  obtain ⟨b, e, a, h2⟩ := h
  exact ⟨b, e, by rw [hB.block b (heap_lt a)]; exact a, h2⟩
/-- A row of Wides at the head of a block. -/
def LitW (n : Nat) (l : List Int) (v : Value) (W : World) : Prop := ∃ g, v = .slice (some ⟨g, 0, none⟩) n n ∧ WdR W (some ⟨g, 0, none⟩) n l
theorem LitW.up {n : Nat} {l : List Int} {v : Value} {W W' : World} (h : LitW n l v W) (hB : Below W.heap.size W W') : LitW n l v W' := by
  obtain ⟨g, e, a⟩ := h
  exact ⟨g, e, a.up hB⟩
theorem news_cel {T : TypeId} {W : World} {b : Nat} (h : W.heap[b]? = some (.cells #[.slice none 0 0, .slice none 0 0] T (0, 0))) : Cel W b (.slice none 0 0) (.slice none 0 0) := by
  unfold Cel World.cell? World.frozen?
  rw [h]
  simp
/-- A state stored into its cell. -/
theorem put_state {T : TypeId} {W : World} {b : Nat} {v : Value} {P M : List Int} (hT : 27 ≠ T) (hb : W.heap[b]? = some (.cells #[.slice none 0 0, .slice none 0 0] T (0, 0))) (hs : SRes W v P M) : ∃ p n c q m d, v = .agg #[.slice p n c, .slice q m d] ∧ P.length = n ∧ M.length = m ∧ Cel W b (.slice none 0 0) (.slice none 0 0) ∧ Cel (set2 W b (.slice p n c) (.slice q m d)) b (.slice p n c) (.slice q m d) ∧ Nums .i64 (set2 W b (.slice p n c) (.slice q m d)) (.slice p n c) P ∧ Nums .i64 (set2 W b (.slice p n c) (.slice q m d)) (.slice q m d) M := by
  obtain ⟨p, n, c, q, m, d, rfl, h1, h2⟩ := hs
  have s2 := Stay.set2 (g := b) W (.slice p n c) (.slice q m d)
  exact ⟨p, n, c, q, m, d, rfl, nums_len0 h1, nums_len0 h2, news_cel hb, (news_cel hb).set _ _, (h1.stay s2 (h1.off_type hb hT)).nums, (h2.stay s2 (h2.off_type hb hT)).nums⟩
/-- What stood below a store into a cell above. -/
theorem below_put {B : Nat} {w W : World} {b : Nat} (h : Below B w W) (hb : B ≤ b) (x y : Value) : Below B w (set2 W b x y) := below_set2 h b hb x y
end Go.Proofs.Ytknadgffflhlgaa.Wd
