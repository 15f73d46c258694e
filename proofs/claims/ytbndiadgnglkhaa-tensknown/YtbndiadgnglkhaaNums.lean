/- Slices of integers of any kind: what they hold; made, appended to, stored into. Nothing of the program is named here. -/
import Derived.WalkKit
import Derived.ProofKit
import Derived.WalkSpells
import Derived.Handy
import Derived.Deep.AppendSrc
import Derived.OwnWalk
import Derived.Laws.AppendOwnNone
import Derived.Laws.OwnMore
import Derived.Test.YtbndiadgnglkhaaRow
namespace Go.Proofs.Ytbndiadgnglkhaa.Wd
open Go.RowKit
set_option linter.unusedVariables false
set_option linter.unusedSimpArgs false
theorem cell_block {W : World} {a : Addr} {v : Value} (h : W.cell? a = some v) : a.block < W.heap.size := by
  by_cases c : a.block < W.heap.size
  · exact c
  · exfalso
    unfold World.cell? at h
    rw [show W.heap[a.block]? = none from by simp; omega] at h
    simp at h
theorem addr_plus (b o j : Nat) : (⟨b, o, none⟩ : Addr).add j = ⟨b, o + j, none⟩ := by
  unfold Addr.add
  split
  · rename_i h; rw [h, Nat.add_zero]
  · rfl
theorem still_cell {W W' : World} {a : Addr} {v : Value} (hb : Below W.heap.size W W') (h : W.cell? a = some v) : W'.cell? a = some v := by
  rw [hb.cell (p := a) (cell_block h)]
  exact h
def vals (k : IntKind) (l : List Int) : List Value := l.map (Value.int k)
theorem vals_one (k : IntKind) (l : List Int) : ∀ u ∈ vals k l, u.oneCell' = true := by
  intro u hu
  obtain ⟨x, _, rfl⟩ := List.mem_map.1 hu
  rfl
theorem vals_set (k : IntKind) (l : List Int) (j : Nat) (x : Int) : (vals k l).set j (.int k x) = vals k (l.set j x) := by
  unfold vals
  rw [List.map_set]
theorem vals_get (k : IntKind) (l : List Int) (j : Nat) (h : j < l.length) : (vals k l)[j]? = some (.int k (l.getD j 0)) := by
  unfold vals
  rw [List.getElem?_map, List.getElem?_eq_getElem h, List.getD_eq_getElem?_getD, List.getElem?_eq_getElem h]
  rfl
/-- The slice's numbers are these. -/
def Nums (k : IntKind) (W : World) (v : Value) (l : List Int) : Prop :=
  (v = .slice none 0 0 ∧ l = []) ∨ ∃ ad c, v = .slice (some ad) l.length c ∧ ∀ j u, (vals k l)[j]? = some u → W.cell? (ad.add j) = some u
theorem Nums.up {k : IntKind} {W W' : World} {v : Value} {l : List Int} (h : Nums k W v l) (hb : Below W.heap.size W W') : Nums k W' v l := by
  rcases h with h | ⟨ad, c, rfl, h⟩
  · exact .inl h
  · exact .inr ⟨ad, c, rfl, fun j u hu => still_cell hb (h j u hu)⟩
theorem Nums.view {k : IntKind} {W : World} {v : Value} {l : List Int} (h : Nums k W v l) : ∃ p c, v = .slice p l.length c ∧ ∀ j, j < l.length → ∃ q o, p = some ⟨q, o, none⟩ ∧ W.cell? ⟨q, o + j, none⟩ = some (.int k (l.getD j 0)) := by
  rcases h with ⟨rfl, rfl⟩ | ⟨ad, c, rfl, h⟩
  · exact ⟨none, 0, rfl, fun j hj => by simp at hj⟩
  · refine ⟨_, c, rfl, fun j hj => ?_⟩
    have h0 := h 0 _ (vals_get k l 0 (by omega))
    have hj' := h j _ (vals_get k l j hj)
    have := spot_none (show W.cell? ad = _ from h0)
    obtain ⟨q, o, sp⟩ := ad
    cases this
    rw [addr_plus] at hj'
    exact ⟨q, o, rfl, hj'⟩
/-- A slice that came in, as a list. -/
def nlst (n : Nat) (z : Nat → Int) : List Int := (List.range n).map z
theorem nlst_len (n : Nat) (z : Nat → Int) : (nlst n z).length = n := by simp [nlst]
theorem nlst_get (n : Nat) (z : Nat → Int) (j : Nat) (h : j < n) : (nlst n z)[j]? = some (z j) := by simp [nlst, h]
theorem RowN.wf {k : IntKind} {W : World} {p : Option Addr} {n c : Nat} {z : Nat → Int} (h : RowN k W p n c z) : ∀ y, y ∈ nlst n z → (Lit.int k y).wf = true := by
  intro y hy
  obtain ⟨i, hi, rfl⟩ := List.mem_map.1 hy
  exact h.1.2.2.1 i (List.mem_range.1 hi)
theorem RowN.nums {k : IntKind} {W : World} {p : Option Addr} {n c : Nat} {z : Nat → Int} (h : RowN k W p n c z) : Nums k W (.slice p n c) (nlst n z) := by
  cases p with
  | none =>
    obtain ⟨rfl, rfl⟩ := h.2 rfl
    exact .inl ⟨rfl, rfl⟩
  | some ad =>
    refine .inr ⟨ad, c, by rw [nlst_len], fun j u hu => ?_⟩
    unfold vals at hu
    rw [List.getElem?_map] at hu
    obtain ⟨x, hx, rfl⟩ := Option.map_eq_some_iff.1 hu
    have hj : j < n := by
      rcases Nat.lt_or_ge j n with h | h
      · exact h
      · rw [List.getElem?_eq_none (by rw [nlst_len]; exact h)] at hx; cases hx
    rw [nlst_get n z j hj] at hx
    cases hx
    obtain ⟨b, o, e, _, hcell⟩ := h.1.2.2.2 (by omega)
    cases e
    rw [addr_plus]
    exact hcell j hj
/-- A slice of the call's own holds these numbers. -/
def OwnK (k : IntKind) (e : TypeId) (W : World) (B : Nat) (v : Value) (l : List Int) : Prop := W.ownsRow B e 1 v l.length (vals k l)
theorem OwnK.nums {k : IntKind} {e : TypeId} {W : World} {B : Nat} {v : Value} {l : List Int} (h : OwnK k e W B v l) : Nums k W v l := by
  rcases h.2 with ⟨h1, h2⟩ | ⟨g, cap, cur, rfl, _⟩
  · exact .inl ⟨h1, by simpa using h2⟩
  · exact .inr ⟨⟨g, 0, none⟩, cap, rfl, World.ownsRow.cells h rfl⟩
theorem OwnK.low {k : IntKind} {e : TypeId} {W : World} {B B' : Nat} {v : Value} {l : List Int} (h : OwnK k e W B v l) (hB : B' ≤ B) : OwnK k e W B' v l := by
  refine ⟨h.1, ?_⟩
  rcases h.2 with h | ⟨g, cap, cur, h1, h2, h3⟩
  · exact .inl h
  · exact .inr ⟨g, cap, cur, h1, Nat.le_trans hB h2, h3⟩
theorem OwnK.block {k : IntKind} {e : TypeId} {W : World} {B : Nat} {v : Value} {l : List Int} (h : OwnK k e W B v l) : ∀ j, v.ownBlock = some j → B ≤ j := by
  intro j hj
  rcases h.2 with ⟨rfl, _⟩ | ⟨g, cap, cur, rfl, hB, _⟩
  · cases hj
  · cases hj; exact hB
theorem OwnK.nil (k : IntKind) (e : TypeId) (W : World) (B : Nat) : OwnK k e W B (.slice none 0 0) [] := ⟨by simp [vals], .inl ⟨rfl, rfl⟩⟩
/-- Where it is not empty, it lies in a block of its own. -/
theorem OwnK.at {k : IntKind} {e : TypeId} {W : World} {B : Nat} {v : Value} {l : List Int} (h : OwnK k e W B v l) (hl : 0 < l.length) : ∃ g c, v = .slice (some ⟨g, 0, none⟩) l.length c ∧ B ≤ g := by
  rcases h.2 with ⟨_, h2⟩ | ⟨g, cap, cur, rfl, hB, _⟩
  · omega
  · exact ⟨g, cap, rfl, hB⟩
/-- A cell of it is read, and stored into. -/
theorem OwnK.cell {k : IntKind} {e : TypeId} {W : World} {B g n c : Nat} {l : List Int} (h : OwnK k e W B (.slice (some ⟨g, 0, none⟩) n c) l) (hn : l.length = n) (j : Nat) (hj : j < n) : W.cell? ⟨g, j, none⟩ = some (.int k (l.getD j 0)) ∧ W.frozen? ⟨g, j, none⟩ = false := by
  subst hn
  exact ⟨by rw [World.ownsRow.cellAt h j (by omega), vals_get k l j hj], World.ownsRow.frozenAt h j⟩
theorem OwnK.store {k : IntKind} {e : TypeId} {W : World} {B g n c : Nat} {l : List Int} (h : OwnK k e W B (.slice (some ⟨g, 0, none⟩) n c) l) (hn : l.length = n) (j : Nat) (x : Int) : OwnK k e (W.setCell ⟨g, j, none⟩ (.int k x)) B (.slice (some ⟨g, 0, none⟩) n c) (l.set j x) := by
  subst hn
  have := (World.ownsRow.stored h j (.int k x)).1
  unfold OwnK
  rw [← vals_set, List.length_set]
  exact this
/-- The facts of a type of slices of integers. -/
structure NumT (P : Program) (t e : TypeId) (k : IntKind) (b : Nat) : Prop where
  ht : P.underlying t = some (.slice e)
  hi : (P.info? e).map (fun i => (i.zero, i.size, i.bytes)) = some (some (.int k 0), 1, b)
theorem info_of {P : Program} {t e : TypeId} {k : IntKind} {b : Nat} (T : NumT P t e k b) : ∃ i0, P.info? e = some i0 ∧ i0.zero = some (.int k 0) ∧ i0.size = 1 ∧ i0.bytes = b := by
  have := T.hi
  cases h : P.info? e with
  | none => rw [h] at this; cases this
  | some i =>
    rw [h] at this
    simp only [Option.map_some, Option.some.injEq, Prod.mk.injEq] at this
    exact ⟨i, rfl, this.1, this.2.1, this.2.2⟩
/-- append of numbers, whatever they are, behind numbers of the call's own. -/
theorem wpList_appendK {P : Program} {t e : TypeId} {k : IntKind} {b : Nat} (T : NumT P t e k b) (hb8 : b ≤ 8) {ops : Array Oper} {rest : List Oper} {o : Oper} {a : Act} {Q : Exit → Act → World → Prop} {w : World} (hgd : o.guard = none) (s x : Operand)
    (ho : o.op = .call { callee := .builtin .append, args := #[s, x], argTypes := #[t, t] }) (B : Nat) (v0 : Value) (l0 : List Int) (hs : a.eval s = v0) (hown : OwnK k e w B v0 l0)
    (v : Value) (l : List Int) (hx : a.eval x = v) (hb : Nums k w v l) (hlen : l0.length + l.length ≤ 1073741824) (hB : B ≤ w.heap.size) (w0 : World) (hB0 : Below B w0 w)
    (h : ∀ v' w', Hid (OwnK k e w' B v' (l0 ++ l)) → Below B w0 w' → wpList P ops Q rest (a.put o.dst v') w') : wpList P ops Q (o :: rest) a w := by
  obtain ⟨i0, hi, hz0, hz1, hz2⟩ := info_of T
  rcases hb with ⟨rfl, rfl⟩ | ⟨ad, c, rfl, hc⟩
  · refine wpList_append_own_none hgd s x t ho B e i0 1 T.ht hi v0 l0.length _ hs hown hx ?_
    exact h v0 w (show OwnK _ _ _ _ _ _ by rw [List.append_nil]; exact hown) hB0
  · have hm : (l0.length + l.length) * b ≤ 1073741824 * 8 := Nat.mul_le_mul hlen hb8
    refine wpList_append_own _ hgd s x t ho B e i0 (.int k 0) 1 b T.ht hi hz0 hz1 hz2 rfl (by decide) v0 l0.length _ hs hown ad l.length c (vals k l) hx (by simp [vals]) hc (vals_one k l) (by unfold maxLen; omega) (by omega) hB ?_
    intro v' w' h1 h2 h3
    refine h v' w' ?_ (Below.grown hB0 h2 hB hown.block)
    show OwnK _ _ _ _ _ _
    unfold OwnK vals at *
    simpa using h1
/-- make: as many noughts. -/
theorem wpList_makeK {P : Program} {t e : TypeId} {k : IntKind} {b : Nat} (T : NumT P t e k b) (hb8 : b ≤ 8) (w : World) {ops : Array Oper} {rest : List Oper} {o : Oper} {a : Act} {Q : Exit → Act → World → Prop}
    (hg : o.guard = none) (l c : Operand) (hop : o.op = Op.makeSlice t l c) (kl kc : IntKind) (L C : Int) (n : Nat) (hl : a.eval l = .int kl L) (hc : a.eval c = .int kc C) (hL : L = (n : Int)) (hC : C = (n : Int)) (hn : n ≤ 1073741824)
    (B : Nat) (w0 : World) (hB : B ≤ w.heap.size) (hB0 : Below B w0 w)
    (hK : ∀ w', Hid (OwnK k e w' w.heap.size (.slice (some ⟨w.heap.size, 0, none⟩) n n) (List.replicate n 0)) → Below w.heap.size w w' → Below B w0 w' → wpList P ops Q rest (a.put o.dst (.slice (some ⟨w.heap.size, 0, none⟩) n n)) w') :
    wpList P ops Q (o :: rest) a w := by
  obtain ⟨i0, hi, hz0, hz1, hz2⟩ := info_of T
  have hm : b * n ≤ 8 * 1073741824 := Nat.mul_le_mul hb8 hn
  refine wpList_make_full w hg l c t hop w.heap.size e i0 (.int k 0) 1 T.ht hi hz0 hz1 kl kc L C n hl hc hL hC (by rw [hz2]; omega) (by unfold maxLen; omega) (Nat.le_refl _) ?_
  intro w' h1 h2
  have hB1 : Below w.heap.size w w' := Below.grown (Below.refl _ _) h2 (Nat.le_refl _) (fun j hj => by cases hj)
  refine hK w' ?_ hB1 (hB0.trans (hB1.mono hB))
  show OwnK _ _ _ _ _ _
  unfold OwnK vals
  rw [List.length_replicate, List.map_replicate]
  have e1 : (madeCells (Value.int k 0).cells (n * 1)).toList = List.replicate n (Value.int k 0) := by
    rw [Nat.mul_one]
    exact toList_madeCells_one _ _
  rw [e1] at h1
  exact h1
/-- A literal's row. -/
theorem nums_lit {k : IntKind} {e : TypeId} (W : World) (l : List Int) (n : Nat) (fz : Nat × Nat) (h : l.length = n) : Nums k (W.alloc (.cells (vals k l).toArray e fz)) (.slice (some ⟨W.heap.size, 0, none⟩) n n) l := .inr ⟨_, n, by rw [h], by
  intro j u hj
  rw [addr_plus, Nat.zero_add]
  unfold World.cell? World.alloc
  simp only [Array.getElem?_push_size]
  simpa using hj⟩
theorem own_lit {k : IntKind} {e : TypeId} (W : World) (l : List Int) (n : Nat) (h : l.length = n) (hn : n ≤ 1073741824) : OwnK k e (W.alloc (.cells (vals k l).toArray e)) W.heap.size (.slice (some ⟨W.heap.size, 0, none⟩) n n) l := by
  subst h
  refine ⟨by simp [vals], .inr ⟨W.heap.size, l.length, (vals k l).toArray, rfl, Nat.le_refl _, ?_, Nat.le_refl _, by unfold maxLen; omega, by simp [vals], by rw [Nat.mul_one, List.take_of_length_le (by simp [vals])]⟩⟩
  show (W.heap.push _)[W.heap.size]? = _
  simp
end Go.Proofs.Ytbndiadgnglkhaa.Wd
