/- All that stood stands but two blocks; a row that is copied over whole. -/
import Derived.Test.YtknadgffflhlgaaTenW
import Derived.Laws.CopyOwn
namespace Go.Proofs.Ytknadgffflhlgaa.Wd
open Go.RowKit
set_option linter.unusedVariables false
set_option linter.unusedSimpArgs false
/-- All that stood stands but two blocks. -/
def But2 (x y : Nat) (W W' : World) : Prop := W.heap.size ≤ W'.heap.size ∧ ∀ k, k < W.heap.size → k ≠ x → k ≠ y → W'.heap[k]? = W.heap[k]?
theorem But2.of {x y : Nat} {W W' : World} (h : Below W.heap.size W W') : But2 x y W W' := ⟨h.size, fun k hk _ _ => h.block k hk⟩
theorem But2.set {x y : Nat} {W W' : World} (h : But2 x y W W') {b o : Nat} {v : Value} (hb : b = x ∨ b = y) : But2 x y W (W'.setCell ⟨b, o, none⟩ v) := ⟨by simpa using h.1, fun k hk h1 h2 => by
  rw [Below.heap_setCell _ _ _ _ (show k ≠ b by rcases hb with rfl | rfl <;> assumption)]
  exact h.2 k hk h1 h2⟩
theorem But2.up {x y : Nat} {W W' W'' : World} (h : But2 x y W W') (h2 : Below W'.heap.size W' W'') : But2 x y W W'' := ⟨Nat.le_trans h.1 h2.size, fun k hk h3 h4 => (h2.block k (Nat.lt_of_lt_of_le hk h.1)).trans (h.2 k hk h3 h4)⟩
theorem But2.refl (x y : Nat) (W : World) : But2 x y W W := ⟨Nat.le_refl _, fun _ _ _ _ => rfl⟩
theorem But2.cell {x y b o : Nat} {W W' : World} {v : Value} (h : But2 x y W W') (hc : W.cell? ⟨b, o, none⟩ = some v) (hx : b ≠ x) (hy : b ≠ y) : W'.cell? ⟨b, o, none⟩ = some v := by
  have hb := cell_lt hc
  unfold World.cell? at hc ⊢
  rw [h.2 b hb hx hy]
  exact hc
theorem But2.frozen {x y b o : Nat} {W W' : World} (h : But2 x y W W') (hb : b < W.heap.size) (hx : b ≠ x) (hy : b ≠ y) : W'.frozen? ⟨b, o, none⟩ = W.frozen? ⟨b, o, none⟩ := by
  unfold World.frozen?
  rw [h.2 b hb hx hy]
theorem Cel.but {x y b : Nat} {W W' : World} {s t : Value} (h : Cel W b s t) (hs : But2 x y W W') (hx : b ≠ x) (hy : b ≠ y) : Cel W' b s t := by
  have hb := cell_lt h.1
  refine ⟨hs.cell h.1 hx hy, hs.cell h.2.1 hx hy, ?_, ?_⟩
  · rw [hs.frozen hb hx hy]; exact h.2.2.1
  · rw [hs.frozen hb hx hy]; exact h.2.2.2
/-- A row of numbers that was copied over whole. -/
theorem vals_many (k : IntKind) (l : List Int) : (vals k l).length = l.length := by simp [vals]
theorem copied {e : TypeId} {W : World} {B g n c : Nat} {l x : List Int} (h : OwnK .i64 e W B (.slice (some ⟨g, 0, none⟩) n c) l) (hx : x.length = n) :
    ∃ cur : Array Value, W.heap[g]? = some (.cells cur e (0, 0)) ∧ 0 + (vals .i64 x).length ≤ cur.size ∧ ∀ U, W.setRow g (cur.toList.take 0 ++ (vals .i64 x ++ cur.toList.drop (0 + (vals .i64 x).length))).toArray = U → Nums .i64 U (.slice (some ⟨g, 0, none⟩) n c) x ∧ Stay g W U ∧ ∀ B', B' ≤ g → Below B' W U := by
  rcases h.2 with ⟨h1, _⟩ | ⟨q, cap, cur, h1, h2, h3, h4, h5, h6, h7⟩
  · cases h1
  · cases h1
    have hl : l.length ≤ cur.size := by omega
    refine ⟨cur, h3, by rw [vals_many]; omega, fun U hU => ⟨?_, ?_, ?_⟩⟩
    · refine .inr ⟨⟨g, 0, none⟩, c, by rw [hx], fun j v hj => ?_⟩
      rw [addr_plus, Nat.zero_add, ← hU]
      unfold World.cell? World.setRow
      simp only [Array.getElem?_modify, h3]
      have hj' : j < (vals .i64 x).length := by
        rcases Nat.lt_or_ge j (vals .i64 x).length with h | h
        · exact h
        · rw [List.getElem?_eq_none h] at hj; cases hj
      simp [List.getElem?_append_left hj', hj]
    · rw [← hU]
      exact ⟨by simp [World.setRow], fun b hb _ => setRow_other W g b _ hb⟩
    · intro B' hB'
      rw [← hU]
      exact below_setRow (Below.refl _ _) hB' _
theorem nums_len0 {k : IntKind} {e : TypeId} {W : World} {B : Nat} {p : Option Addr} {n c : Nat} {l : List Int} (h : OwnK k e W B (.slice p n c) l) : l.length = n := by
  rcases h.2 with ⟨e1, e2⟩ | ⟨q, cap, cur, e1, _⟩
  · cases e1; simpa using e2
  · cases e1; rfl
theorem copiedO {e : TypeId} {W : World} {B g n c : Nat} {l x : List Int} (h : OwnK .i64 e W B (.slice (some ⟨g, 0, none⟩) n c) l) (hx : x.length = n) :
    ∃ cur : Array Value, W.heap[g]? = some (.cells cur e (0, 0)) ∧ 0 + (vals .i64 x).length ≤ cur.size ∧ ∀ U, W.setRow g (cur.toList.take 0 ++ (vals .i64 x ++ cur.toList.drop (0 + (vals .i64 x).length))).toArray = U → OwnK .i64 e U B (.slice (some ⟨g, 0, none⟩) n c) x ∧ Stay g W U ∧ ∀ B', B' ≤ g → Below B' W U := by
  obtain ⟨cur, h1, h2, h3⟩ := copied h hx
  refine ⟨cur, h1, h2, fun U hU => ⟨?_, (h3 U hU).2⟩⟩
  rcases h.2 with ⟨e1, _⟩ | ⟨q, cap, cur', e1, e2, e3, e4, e5, e6, e7⟩
  · cases e1
  · cases e1
    rw [h1] at e3
    cases e3
    rw [vals_many] at h2
    refine ⟨by simp [vals], .inr ⟨g, c, (cur.toList.take 0 ++ (vals .i64 x ++ cur.toList.drop (0 + (vals .i64 x).length))).toArray, by rw [hx], e2, ?_, by omega, e5, ?_, ?_⟩⟩
    · rw [← hU]
      exact setRow_heap W g _ _ e _ h1
    · have : (cur.toList.take 0 ++ (vals .i64 x ++ cur.toList.drop (0 + (vals .i64 x).length))).length = c * 1 := by
        rw [List.length_append, List.length_append, List.length_drop, vals_many, List.take_zero, List.length_nil]
        have e8 : cur.toList.length = cur.size := Array.length_toList
        omega
      simpa using this
    · rw [show (cur.toList.take 0 ++ (vals .i64 x ++ cur.toList.drop (0 + (vals .i64 x).length))).toArray.toList = vals .i64 x ++ cur.toList.drop (0 + (vals .i64 x).length) by simp]
      rw [List.take_append_of_le_length (by rw [vals_many]; omega), List.take_of_length_le (by rw [vals_many]; omega)]
/-- copy over a row of one's own that is as long. -/
theorem wpList_copyK {P : Program} {w : World} {ops : Array Oper} {rest : List Oper} {o : Oper} {a : Act} {Q : Exit → Act → World → Prop} (hgd : o.guard = none) (d s : Operand) (dT sT : TypeId)
    (ho : o.op = .call { callee := .builtin .copy, args := #[d, s], argTypes := #[dT, sT] }) (elem e : TypeId) (hu : P.underlying dT = some (.slice elem)) (hsz : (P.info? elem).map (·.size) = some 1)
    (g n c : Nat) (p : Option Addr) (c2 : Nat) (hd : a.eval d = .slice (some ⟨g, 0, none⟩) n c) (hs : a.eval s = .slice p n c2) (B : Nat) (l x : List Int) (hx : x.length = n)
    (h : OwnK .i64 e w B (.slice (some ⟨g, 0, none⟩) n c) l) (hN : Nums .i64 w (.slice p n c2) x)
    (hK : ∀ U, Hid (OwnK .i64 e U B (.slice (some ⟨g, 0, none⟩) n c) x ∧ Stay g w U ∧ ∀ B', B' ≤ g → Below B' w U) → wpList P ops Q rest (a.put o.dst (goInt n)) U) : wpList P ops Q (o :: rest) a w := by
  by_cases h0 : n = 0
  · subst h0
    have : x = [] := List.eq_nil_of_length_eq_zero hx
    subst this
    exact wpList_copy_nothing hgd d s dT sT ho elem hu hsz _ p 0 c 0 c2 hd hs rfl (hK w ⟨by rw [List.eq_nil_of_length_eq_zero (nums_len0 h)] at h; exact h, Stay.refl _ _, fun B' _ => ⟨rfl, rfl, rfl, Nat.le_refl _, fun _ _ => rfl⟩⟩)
  · rcases hN with ⟨e1, _⟩ | ⟨ad, c', e1, hc⟩
    · cases e1
      exact absurd rfl h0
    · cases e1
      obtain ⟨cur, h1, h2, h3⟩ := copiedO h hx
      have := wpList_copy_own (ops := ops) (rest := rest) (Q := Q) hgd d s dT sT ho elem hu hsz g 0 x.length c ad x.length c2 (by rw [hx]; exact hd) hs cur e h1 (vals .i64 x) (by rw [vals_many]; simp) hc h2 (vals_one .i64 x)
      refine this ?_
      rw [vals_many, hx]
      have h4 := hK _ (h3 _ rfl)
      rw [vals_many] at h4
      exact h4
end Go.Proofs.Ytknadgffflhlgaa.Wd
