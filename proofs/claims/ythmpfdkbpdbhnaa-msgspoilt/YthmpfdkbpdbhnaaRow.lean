/- A slice of integers that came in: what a walk is told of it. Slices of integers of any kind: what they hold; made, appended to, stored into. Nothing of the program is named here. A slice of the call's own stays what it is while memory grows. Nothing of the program is named here. All blocks but one stand, while memory grows. Nothing of the program is named here. -/
import Derived.WalkKit
import Derived.ProofKit
import Derived.OpenShut
import Derived.ChangeSlices
import Derived.Carry
import Derived.WalkSpells
import Derived.Handy
import Derived.Deep.AppendSrc
import Derived.OwnWalk
import Derived.Laws.AppendOwnNone
import Derived.Laws.OwnMore
import Derived.OneCell
namespace Go.Proofs.Ythmpfdkbpdbhnaa.Wd
open Go.ChangeShapes Go.WideShapes Go.ChangeAt Go.RowKit
/-- The slice's elements are the numbers z 0, z 1 .. , each fitting its kind; where it has one, they lie one behind the other in a block. -/
def Row (k : IntKind) (W : World) (p : Option Addr) (n c : Nat) (z : Nat → Int) : Prop :=
  n ≤ c ∧ c ≤ 9223372036854775807 ∧ (∀ i, i < n → (Lit.int k (z i)).wf = true) ∧ (0 < n → ∃ b o, p = some ⟨b, o, none⟩ ∧ b < W.heap.size ∧ ∀ i, i < n → W.cell? ⟨b, o + i, none⟩ = some (.int k (z i)))
theorem up_alloc (W : World) (o : Obj) : Below W.heap.size W (W.alloc o) := (Below.refl _ _).alloc (Nat.le_refl _) _
theorem bstep {w w1 w2 : World} (h : Below w.heap.size w w1) (h2 : Below w1.heap.size w1 w2) : Below w.heap.size w w2 := h.trans (h2.mono h.size)
theorem spot_none {W : World} {a : Addr} {v : Value} (h : W.cell? a = some v) : a = ⟨a.block, a.off, none⟩ := by
  unfold World.cell? at h
  split at h
  · obtain ⟨b, o, s⟩ := a
    cases s with
    | none => rfl
    | some x => simp at h
  · cases h
theorem cell_size {W : World} {b o : Nat} {v : Value} (h : W.cell? ⟨b, o, none⟩ = some v) : b < W.heap.size := by
  by_cases c : b < W.heap.size
  · exact c
  · exfalso
    unfold World.cell? at h
    rw [show W.heap[b]? = none from by simp; omega] at h
    simp at h
theorem open_row {H : Type} {enc : TypeId × Value → H} {P : Program} {W : World} {t e : TypeId} {k : IntKind} {a : Option Addr} {n c : Nat} {d : DataW H} {ps : List MemPlace} (ht : P.underlying t = some (.slice e)) (he : P.underlying e = some (.int k)) (hc : P.cellsOf e = 1)
    (h : DataW.Trod enc P W 0 (fun _ => true) true t (.slice a n c) d ps) : ∃ z, Row k W a n c z := by
  obtain ⟨fuel, hf⟩ := h
  rcases open_ints ht he hc hf with ⟨hcs, _⟩ | ⟨x, l, c', zs, hcs, _, hl, hm, hz, _, hcell, hwz⟩
  · simp [Value.cells] at hcs
    obtain ⟨rfl, rfl, rfl⟩ := hcs
    exact ⟨fun _ => 0, by omega, by omega, fun i hi => by omega, fun h => by omega⟩
  · simp [Value.cells] at hcs
    obtain ⟨rfl, rfl, rfl⟩ := hcs
    have hz' : zs.length = c := by simpa using hz
    refine ⟨fun i => zs.getD i 0, hl, by unfold maxLen at hm; omega, fun i hi => hwz _ ?_, fun h => ?_⟩
    · show zs.getD i 0 ∈ zs
      rw [List.getD_eq_getElem?_getD, List.getElem?_eq_getElem (by omega)]
      exact List.getElem_mem _
    · have h0 := hcell 0 (by omega)
      have e0 : x.add 0 = x := by simp [Addr.add]
      rw [e0] at h0
      have ex := spot_none h0
      refine ⟨x.block, x.off, by rw [← ex], ?_, fun i hi => ?_⟩
      · rw [ex] at h0
        exact cell_size h0
      · have := hcell i (by omega)
        rw [← this]
        congr 1
        unfold Addr.add
        split
        · rename_i h; subst h; rw [Nat.add_zero]; exact ex.symm
        · rw [ex]
/-- The same, and a nil slice has no room. -/
def RowN (k : IntKind) (W : World) (p : Option Addr) (n c : Nat) (z : Nat → Int) : Prop := Row k W p n c z ∧ (p = none → n = 0 ∧ c = 0)
theorem open_rowN {H : Type} {enc : TypeId × Value → H} {P : Program} {W : World} {t e : TypeId} {k : IntKind} {a : Option Addr} {n c : Nat} {d : DataW H} {ps : List MemPlace} (ht : P.underlying t = some (.slice e)) (he : P.underlying e = some (.int k)) (hc : P.cellsOf e = 1)
    (h : DataW.Trod enc P W 0 (fun _ => true) true t (.slice a n c) d ps) : ∃ z, RowN k W a n c z := by
  obtain ⟨z, hz⟩ := open_row ht he hc h
  refine ⟨z, hz, fun hn => ?_⟩
  subst hn
  obtain ⟨fuel, hf⟩ := h
  rcases open_ints ht he hc hf with ⟨hcs, _⟩ | ⟨x, l, c', zs, hcs, _⟩
  · simp [Value.cells] at hcs
    exact hcs
  · simp [Value.cells] at hcs
end Go.Proofs.Ythmpfdkbpdbhnaa.Wd
namespace Go.Proofs.Ythmpfdkbpdbhnaa.Wd
open Go.RowKit
set_option linter.unusedVariables false
set_option linter.unusedSimpArgs false
theorem cell_block {W : World} {a : Addr} {v : Value} (h : W.cell? a = some v) : a.block < W.heap.size := by
  by_cases c : a.block < W.heap.size
  · exact c
  · exfalso
    unfold World.cell? at h
    rw [show W.heap[a.block]? = none from by simp; omega] at h
    simp at h
theorem addr_plus (b o j : Nat) : (⟨b, o, none⟩ : Addr).add j = ⟨b, o + j, none⟩ := by
  unfold Addr.add
  split
  · rename_i h; rw [h, Nat.add_zero]
  · rfl
theorem still_cell {W W' : World} {a : Addr} {v : Value} (hb : Below W.heap.size W W') (h : W.cell? a = some v) : W'.cell? a = some v := by
  rw [hb.cell (p := a) (cell_block h)]
  exact h
def vals (k : IntKind) (l : List Int) : List Value := l.map (Value.int k)
theorem vals_one (k : IntKind) (l : List Int) : ∀ u ∈ vals k l, u.oneCell' = true := by
  intro u hu
  obtain ⟨x, _, rfl⟩ := List.mem_map.1 hu
  rfl
theorem vals_set (k : IntKind) (l : List Int) (j : Nat) (x : Int) : (vals k l).set j (.int k x) = vals k (l.set j x) := by
  unfold vals
  rw [List.map_set]
theorem vals_get (k : IntKind) (l : List Int) (j : Nat) (h : j < l.length) : (vals k l)[j]? = some (.int k (l.getD j 0)) := by
  unfold vals
  rw [List.getElem?_map, List.getElem?_eq_getElem h, List.getD_eq_getElem?_getD, List.getElem?_eq_getElem h]
  rfl
/-- The slice's numbers are these. -/
def Nums (k : IntKind) (W : World) (v : Value) (l : List Int) : Prop :=
  (v = .slice none 0 0 ∧ l = []) ∨ ∃ ad c, v = .slice (some ad) l.length c ∧ ∀ j u, (vals k l)[j]? = some u → W.cell? (ad.add j) = some u
theorem Nums.up {k : IntKind} {W W' : World} {v : Value} {l : List Int} (h : Nums k W v l) (hb : Below W.heap.size W W') : Nums k W' v l := by
  rcases h with h | ⟨ad, c, rfl, h⟩
  · exact .inl h
  · exact .inr ⟨ad, c, rfl, fun j u hu => still_cell hb (h j u hu)⟩
theorem Nums.view {k : IntKind} {W : World} {v : Value} {l : List Int} (h : Nums k W v l) : ∃ p c, v = .slice p l.length c ∧ ∀ j, j < l.length → ∃ q o, p = some ⟨q, o, none⟩ ∧ W.cell? ⟨q, o + j, none⟩ = some (.int k (l.getD j 0)) := by
  rcases h with ⟨rfl, rfl⟩ | ⟨ad, c, rfl, h⟩
  · exact ⟨none, 0, rfl, fun j hj => by simp at hj⟩
  · refine ⟨_, c, rfl, fun j hj => ?_⟩
    have h0 := h 0 _ (vals_get k l 0 (by omega))
    have hj' := h j _ (vals_get k l j hj)
    have := spot_none (show W.cell? ad = _ from h0)
    obtain ⟨q, o, sp⟩ := ad
    cases this
    rw [addr_plus] at hj'
    exact ⟨q, o, rfl, hj'⟩
/-- A slice that came in, as a list. -/
def nlst (n : Nat) (z : Nat → Int) : List Int := (List.range n).map z
theorem nlst_len (n : Nat) (z : Nat → Int) : (nlst n z).length = n := by simp [nlst]
theorem nlst_get (n : Nat) (z : Nat → Int) (j : Nat) (h : j < n) : (nlst n z)[j]? = some (z j) := by simp [nlst, h]
theorem RowN.wf {k : IntKind} {W : World} {p : Option Addr} {n c : Nat} {z : Nat → Int} (h : RowN k W p n c z) : ∀ y, y ∈ nlst n z → (Lit.int k y).wf = true := by
  intro y hy
  obtain ⟨i, hi, rfl⟩ := List.mem_map.1 hy
  exact h.1.2.2.1 i (List.mem_range.1 hi)
theorem RowN.nums {k : IntKind} {W : World} {p : Option Addr} {n c : Nat} {z : Nat → Int} (h : RowN k W p n c z) : Nums k W (.slice p n c) (nlst n z) := by
  cases p with
  | none =>
    obtain ⟨rfl, rfl⟩ := h.2 rfl
    exact .inl ⟨rfl, rfl⟩
  | some ad =>
    refine .inr ⟨ad, c, by rw [nlst_len], fun j u hu => ?_⟩
    unfold vals at hu
    rw [List.getElem?_map] at hu
    obtain ⟨x, hx, rfl⟩ := Option.map_eq_some_iff.1 hu
    have hj : j < n := by
      rcases Nat.lt_or_ge j n with h | h
      · exact h
      · rw [List.getElem?_eq_none (by rw [nlst_len]; exact h)] at hx; cases hx
    rw [nlst_get n z j hj] at hx
    cases hx
    obtain ⟨b, o, e, _, hcell⟩ := h.1.2.2.2 (by omega)
    cases e
    rw [addr_plus]
    exact hcell j hj
/-- A slice of the call's own holds these numbers. -/
def OwnK (k : IntKind) (e : TypeId) (W : World) (B : Nat) (v : Value) (l : List Int) : Prop := W.ownsRow B e 1 v l.length (vals k l)
theorem OwnK.nums {k : IntKind} {e : TypeId} {W : World} {B : Nat} {v : Value} {l : List Int} (h : OwnK k e W B v l) : Nums k W v l := by
  rcases h.2 with ⟨h1, h2⟩ | ⟨g, cap, cur, rfl, _⟩
  · exact .inl ⟨h1, by simpa using h2⟩
  · exact .inr ⟨⟨g, 0, none⟩, cap, rfl, World.ownsRow.cells h rfl⟩
theorem OwnK.low {k : IntKind} {e : TypeId} {W : World} {B B' : Nat} {v : Value} {l : List Int} (h : OwnK k e W B v l) (hB : B' ≤ B) : OwnK k e W B' v l := by
  refine ⟨h.1, ?_⟩
  rcases h.2 with h | ⟨g, cap, cur, h1, h2, h3⟩
  · exact .inl h
  · exact .inr ⟨g, cap, cur, h1, Nat.le_trans hB h2, h3⟩
theorem OwnK.block {k : IntKind} {e : TypeId} {W : World} {B : Nat} {v : Value} {l : List Int} (h : OwnK k e W B v l) : ∀ j, v.ownBlock = some j → B ≤ j := by
  intro j hj
  rcases h.2 with ⟨rfl, _⟩ | ⟨g, cap, cur, rfl, hB, _⟩
  · cases hj
  · cases hj; exact hB
theorem OwnK.nil (k : IntKind) (e : TypeId) (W : World) (B : Nat) : OwnK k e W B (.slice none 0 0) [] := ⟨by simp [vals], .inl ⟨rfl, rfl⟩⟩
/-- Where it is not empty, it lies in a block of its own. -/
theorem OwnK.at {k : IntKind} {e : TypeId} {W : World} {B : Nat} {v : Value} {l : List Int} (h : OwnK k e W B v l) (hl : 0 < l.length) : ∃ g c, v = .slice (some ⟨g, 0, none⟩) l.length c ∧ B ≤ g := by
  rcases h.2 with ⟨_, h2⟩ | ⟨g, cap, cur, rfl, hB, _⟩
  · omega
  · exact ⟨g, cap, rfl, hB⟩
/-- A cell of it is read, and stored into. -/
theorem OwnK.cell {k : IntKind} {e : TypeId} {W : World} {B g n c : Nat} {l : List Int} (h : OwnK k e W B (.slice (some ⟨g, 0, none⟩) n c) l) (hn : l.length = n) (j : Nat) (hj : j < n) : W.cell? ⟨g, j, none⟩ = some (.int k (l.getD j 0)) ∧ W.frozen? ⟨g, j, none⟩ = false := by
  subst hn
  exact ⟨by rw [World.ownsRow.cellAt h j (by omega), vals_get k l j hj], World.ownsRow.frozenAt h j⟩
theorem OwnK.store {k : IntKind} {e : TypeId} {W : World} {B g n c : Nat} {l : List Int} (h : OwnK k e W B (.slice (some ⟨g, 0, none⟩) n c) l) (hn : l.length = n) (j : Nat) (x : Int) : OwnK k e (W.setCell ⟨g, j, none⟩ (.int k x)) B (.slice (some ⟨g, 0, none⟩) n c) (l.set j x) := by
  subst hn
  have := (World.ownsRow.stored h j (.int k x)).1
  unfold OwnK
  rw [← vals_set, List.length_set]
  exact this
/-- The facts of a type of slices of integers. -/
structure NumT (P : Program) (t e : TypeId) (k : IntKind) (b : Nat) : Prop where
  ht : P.underlying t = some (.slice e)
  hi : (P.info? e).map (fun i => (i.zero, i.size, i.bytes)) = some (some (.int k 0), 1, b)
theorem info_of {P : Program} {t e : TypeId} {k : IntKind} {b : Nat} (T : NumT P t e k b) : ∃ i0, P.info? e = some i0 ∧ i0.zero = some (.int k 0) ∧ i0.size = 1 ∧ i0.bytes = b := by
  have := T.hi
  cases h : P.info? e with
  | none => rw [h] at this; cases this
  | some i =>
    rw [h] at this
    simp only [Option.map_some, Option.some.injEq, Prod.mk.injEq] at this
    exact ⟨i, rfl, this.1, this.2.1, this.2.2⟩
/-- append of numbers, whatever they are, behind numbers of the call's own. -/
theorem wpList_appendK {P : Program} {t e : TypeId} {k : IntKind} {b : Nat} (T : NumT P t e k b) (hb8 : b ≤ 8) {ops : Array Oper} {rest : List Oper} {o : Oper} {a : Act} {Q : Exit → Act → World → Prop} {w : World} (hgd : o.guard = none) (s x : Operand)
    (ho : o.op = .call { callee := .builtin .append, args := #[s, x], argTypes := #[t, t] }) (B : Nat) (v0 : Value) (l0 : List Int) (hs : a.eval s = v0) (hown : OwnK k e w B v0 l0)
    (v : Value) (l : List Int) (hx : a.eval x = v) (hb : Nums k w v l) (hlen : l0.length + l.length ≤ 1073741824) (hB : B ≤ w.heap.size) (w0 : World) (hB0 : Below B w0 w)
    (h : ∀ v' w', Hid (OwnK k e w' B v' (l0 ++ l)) → Below B w0 w' → wpList P ops Q rest (a.put o.dst v') w') : wpList P ops Q (o :: rest) a w := by
  obtain ⟨i0, hi, hz0, hz1, hz2⟩ := info_of T
  rcases hb with ⟨rfl, rfl⟩ | ⟨ad, c, rfl, hc⟩
  · refine wpList_append_own_none hgd s x t ho B e i0 1 T.ht hi v0 l0.length _ hs hown hx ?_
    exact h v0 w (show OwnK _ _ _ _ _ _ by rw [List.append_nil]; exact hown) hB0
  · have hm := Nat.mul_le_mul hlen hb8
    refine wpList_append_own _ hgd s x t ho B e i0 (.int k 0) 1 b T.ht hi hz0 hz1 hz2 rfl (by decide) v0 l0.length _ hs hown ad l.length c (vals k l) hx (by simp [vals]) hc (vals_one k l) (by unfold maxLen; omega) (by omega) hB ?_
    intro v' w' h1 h2 h3
    refine h v' w' ?_ (Below.grown hB0 h2 hB hown.block)
    show OwnK _ _ _ _ _ _
    unfold OwnK vals at *
    simpa using h1
/-- make: as many noughts. -/
theorem wpList_makeK {P : Program} {t e : TypeId} {k : IntKind} {b : Nat} (T : NumT P t e k b) (hb8 : b ≤ 8) (w : World) {ops : Array Oper} {rest : List Oper} {o : Oper} {a : Act} {Q : Exit → Act → World → Prop}
    (hg : o.guard = none) (l c : Operand) (hop : o.op = Op.makeSlice t l c) (kl kc : IntKind) (L C : Int) (n : Nat) (hl : a.eval l = .int kl L) (hc : a.eval c = .int kc C) (hL : L = (n : Int)) (hC : C = (n : Int)) (hn : n ≤ 1073741824)
    (B : Nat) (w0 : World) (hB : B ≤ w.heap.size) (hB0 : Below B w0 w)
    (hK : ∀ w', Hid (OwnK k e w' w.heap.size (.slice (some ⟨w.heap.size, 0, none⟩) n n) (List.replicate n 0)) → Below w.heap.size w w' → Below B w0 w' → wpList P ops Q rest (a.put o.dst (.slice (some ⟨w.heap.size, 0, none⟩) n n)) w') :
    wpList P ops Q (o :: rest) a w := by
  obtain ⟨i0, hi, hz0, hz1, hz2⟩ := info_of T
  have hm := Nat.mul_le_mul hb8 hn
  refine wpList_make_full w hg l c t hop w.heap.size e i0 (.int k 0) 1 T.ht hi hz0 hz1 kl kc L C n hl hc hL hC (by rw [hz2]; omega) (by unfold maxLen; omega) (Nat.le_refl _) ?_
  intro w' h1 h2
  have hB1 : Below w.heap.size w w' := Below.grown (Below.refl _ _) h2 (Nat.le_refl _) (fun j hj => by cases hj)
  refine hK w' ?_ hB1 (hB0.trans (hB1.mono hB))
  show OwnK _ _ _ _ _ _
  unfold OwnK vals
  rw [List.length_replicate, List.map_replicate]
  have e1 : (madeCells (Value.int k 0).cells (n * 1)).toList = List.replicate n (Value.int k 0) := by
    rw [Nat.mul_one]
    exact toList_madeCells_one _ _
  rw [e1] at h1
  exact h1
theorem make_run {P : Program} {t e : TypeId} {k : IntKind} {b : Nat} (T : NumT P t e k b) (hb8 : b ≤ 8) (n : Nat) (hn : n ≤ 1073741824) (kl kc : IntKind) (W : World) : (Instr.makeSlice t (.int kl (n : Int)) (.int kc (n : Int))).run P W = .ok (.slice (some ⟨W.heap.size, 0, none⟩) n n) (W.alloc (.cells (vals k (List.replicate n 0)).toArray e)) := by
  obtain ⟨i0, hi, hz0, hz1, hz2⟩ := info_of T
  have hm := Nat.mul_le_mul hb8 hn
  have hb' : (i0.bytes : Int) * (n : Int) ≤ 281474976710656 := by
    have h : ((i0.bytes * n : Nat) : Int) ≤ 281474976710656 := by rw [hz2]; omega
    rwa [Int.natCast_mul] at h
  have hr := run_make (P := P) W t e i0 (.int k 0) T.ht hi hz0 kl kc n n (by omega) (Int.le_refl _) hb' (by omega)
  simp only [Int.toNat_natCast] at hr
  rw [hr]
  have e1 : (madeCells (Value.int k 0).cells (n * i0.size)) = (vals k (List.replicate n 0)).toArray := by
    rw [hz1, Nat.mul_one]
    apply Array.toList_inj.1
    have := toList_madeCells_one (Value.int k 0) n
    rw [show (Value.int k 0).cells = #[Value.int k 0] from rfl, this]
    unfold vals
    rw [List.map_replicate]
  rw [e1]
/-- A literal's row. -/
theorem nums_lit {k : IntKind} {e : TypeId} (W : World) (l : List Int) (n : Nat) (fz : Nat × Nat) (h : l.length = n) : Nums k (W.alloc (.cells (vals k l).toArray e fz)) (.slice (some ⟨W.heap.size, 0, none⟩) n n) l := .inr ⟨_, n, by rw [h], by
  intro j u hj
  rw [addr_plus, Nat.zero_add]
  unfold World.cell? World.alloc
  simp only [Array.getElem?_push_size]
  simpa using hj⟩
theorem own_lit {k : IntKind} {e : TypeId} (W : World) (l : List Int) (n : Nat) (h : l.length = n) (hn : n ≤ 1073741824) : OwnK k e (W.alloc (.cells (vals k l).toArray e)) W.heap.size (.slice (some ⟨W.heap.size, 0, none⟩) n n) l := by
  subst h
  refine ⟨by simp [vals], .inr ⟨W.heap.size, l.length, (vals k l).toArray, rfl, Nat.le_refl _, ?_, Nat.le_refl _, by unfold maxLen; omega, by simp [vals], by rw [Nat.mul_one, List.take_of_length_le (by simp [vals])]⟩⟩
  show (W.heap.push _)[W.heap.size]? = _
  simp
end Go.Proofs.Ythmpfdkbpdbhnaa.Wd
namespace Go.Proofs.Ythmpfdkbpdbhnaa.Wd
open Go.RowKit
theorem OwnK.up {k : IntKind} {e : TypeId} {W W' : World} {B : Nat} {v : Value} {l : List Int} (h : OwnK k e W B v l) (hb : Below W.heap.size W W') : OwnK k e W' B v l := by
  refine ⟨h.1, ?_⟩
  rcases h.2 with h | ⟨g, cap, cur, h1, h2, h3, h4⟩
  · exact .inl h
  · refine .inr ⟨g, cap, cur, h1, h2, ?_, h4⟩
    have hg : g < W.heap.size := by
      rcases Nat.lt_or_ge g W.heap.size with h | h
      · exact h
      · rw [Array.getElem?_eq_none h] at h3; cases h3
    rw [hb.block g hg]
    exact h3
end Go.Proofs.Ythmpfdkbpdbhnaa.Wd
namespace Go.Proofs.Ythmpfdkbpdbhnaa.Wd
open Go.RowKit
set_option linter.unusedVariables false
set_option linter.unusedSimpArgs false
structure Stay (g : Nat) (W W' : World) : Prop where
  size : W.heap.size ≤ W'.heap.size
  block : ∀ b, b ≠ g → b < W.heap.size → W'.heap[b]? = W.heap[b]?
theorem Stay.refl (g : Nat) (W : World) : Stay g W W := ⟨Nat.le_refl _, fun _ _ _ => rfl⟩
theorem Stay.trans {g : Nat} {a b c : World} (h : Stay g a b) (h2 : Stay g b c) : Stay g a c :=
  ⟨Nat.le_trans h.size h2.size, fun k h1 hk => (h2.block k h1 (Nat.lt_of_lt_of_le hk h.size)).trans (h.block k h1 hk)⟩
theorem Stay.of {g : Nat} {a b : World} (h : Below a.heap.size a b) : Stay g a b := ⟨h.size, fun k _ hk => h.block k hk⟩
theorem Stay.up {g : Nat} {a b c : World} (h : Stay g a b) (h2 : Below b.heap.size b c) : Stay g a c := h.trans (Stay.of h2)
theorem Stay.set {g : Nat} {a b : World} (h : Stay g a b) (o : Nat) (x : Value) : Stay g a (b.setCell ⟨g, o, none⟩ x) :=
  h.trans ⟨by simp, fun k hk _ => Below.heap_setCell _ _ _ _ hk⟩
theorem Stay.cell {g : Nat} {W W' : World} {a : Addr} {v : Value} (h : Stay g W W') (hc : W.cell? a = some v) (hg : a.block ≠ g) : W'.cell? a = some v := by
  have hb := cell_block hc
  unfold World.cell? at hc ⊢
  rw [h.block _ hg hb]
  exact hc
theorem Stay.frozen {g : Nat} {W W' : World} {b o : Nat} (h : Stay g W W') (hb : b < W.heap.size) (hg : b ≠ g) : W'.frozen? ⟨b, o, none⟩ = W.frozen? ⟨b, o, none⟩ := by
  unfold World.frozen?
  rw [h.block _ hg hb]
theorem Stay.below {g : Nat} {w a b : World} (h : Stay g a b) (hB : Below w.heap.size w a) (hg : w.heap.size ≤ g) (h2 : Below w.heap.size w b) : Below w.heap.size w b := h2
/-- A slice whose cells lie in blocks but g. -/
def Off (g : Nat) (v : Value) : Prop := ∀ ad n c, v = .slice (some ad) n c → ad.block ≠ g
theorem Nums.stay {k : IntKind} {g : Nat} {W W' : World} {v : Value} {l : List Int} (h : Nums k W v l) (hs : Stay g W W') (ho : Off g v) : Nums k W' v l := by
  rcases h with h | ⟨ad, c, rfl, h⟩
  · exact .inl h
  · refine .inr ⟨ad, c, rfl, fun j u hu => hs.cell (h j u hu) ?_⟩
    have := ho ad _ _ rfl
    unfold Addr.add
    split <;> exact this
/-- What was there before the block g was made. -/
theorem Nums.off {k : IntKind} {W : World} {v : Value} {l : List Int} (h : Nums k W v l) (hl : l ≠ []) {g : Nat} (hg : W.heap.size ≤ g) : Off g v := by
  intro ad n c e
  rcases h with ⟨rfl, _⟩ | ⟨ad', c', rfl, h⟩
  · cases e
  · cases e
    obtain ⟨x, xs, rfl⟩ : ∃ x xs, l = x :: xs := by cases l with | nil => exact absurd rfl hl | cons x xs => exact ⟨x, xs, rfl⟩
    have := h 0 (.int k x) rfl
    have := cell_block this
    intro e
    rw [show (ad.add 0) = ad by unfold Addr.add; simp] at this
    omega
theorem Nums.keep {k : IntKind} {g : Nat} {W W' : World} {v : Value} {l : List Int} (h : Nums k W v l) (hs : Stay g W W') (hg : W.heap.size ≤ g) : Nums k W' v l := by
  by_cases hl : l = []
  · subst hl
    rcases h with ⟨rfl, _⟩ | ⟨ad, c, rfl, h⟩
    · exact .inl ⟨rfl, rfl⟩
    · exact .inr ⟨ad, c, rfl, fun j u hu => by simp [vals] at hu⟩
  · exact h.stay hs (h.off hl hg)
theorem OwnK.off {k : IntKind} {e : TypeId} {W : World} {B g : Nat} {v : Value} {l : List Int} (h : OwnK k e W B v l) (hg : g < B) : Off g v := by
  intro ad n c ev
  rcases h.2 with ⟨h1, _⟩ | ⟨q, cap, cur, h1, h2, _⟩
  · rw [h1] at ev; cases ev
  · rw [h1] at ev
    cases ev
    show q ≠ g
    omega
theorem OwnK.stay {k : IntKind} {e : TypeId} {W W' : World} {B g : Nat} {v : Value} {l : List Int} (h : OwnK k e W B v l) (hs : Stay g W W') (hg : Off g v) : OwnK k e W' B v l := by
  refine ⟨h.1, ?_⟩
  rcases h.2 with h | ⟨q, cap, cur, h1, h2, h3, h4⟩
  · exact .inl h
  · refine .inr ⟨q, cap, cur, h1, h2, ?_, h4⟩
    have hq : q < W.heap.size := by
      rcases Nat.lt_or_ge q W.heap.size with h | h
      · exact h
      · rw [Array.getElem?_eq_none h] at h3; cases h3
    rw [hs.block q (hg _ _ _ h1) hq]
    exact h3
theorem OwnK.size {k : IntKind} {e : TypeId} {W : World} {B g n c : Nat} {l : List Int} (h : OwnK k e W B (.slice (some ⟨g, 0, none⟩) n c) l) : g < W.heap.size := by
  rcases h.2 with ⟨h1, _⟩ | ⟨q, cap, cur, h1, h2, h3, h4⟩
  · cases h1
  · cases h1
    rcases Nat.lt_or_ge g W.heap.size with h | h
    · exact h
    · rw [Array.getElem?_eq_none h] at h3; cases h3
end Go.Proofs.Ythmpfdkbpdbhnaa.Wd
