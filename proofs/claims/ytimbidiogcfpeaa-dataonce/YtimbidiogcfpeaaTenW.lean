/- Tensors: what tens.walk hands back. Tensors: what tens.spread hands back. Tensors that are answered: two slices of the call's own, told in a cell of the callee. Nothing of the program is named here but its types. -/
import Derived.Test.YtimbidiogcfpeaaTenA
import Derived.Test.YtimbidiogcfpeaaRow
import Derived.Test.YtimbidiogcfpeaaFlow
import Derived.Test.YtimbidiogcfpeaaFacts
namespace Go.Proofs.Ytimbidiogcfpeaa.Wd
open Go.RowKit
set_option linter.unusedVariables false
set_option linter.unusedSimpArgs false
/-- make of no number, with room. -/
theorem wpList_make0K {P : Program} {t e : TypeId} {k : IntKind} {b : Nat} (T : NumT P t e k b) (hb8 : b ≤ 8) (w : World) {ops : Array Oper} {rest : List Oper} {o : Oper} {a : Act} {Q : Exit → Act → World → Prop}
    (hg : o.guard = none) (l c : Operand) (hop : o.op = Op.makeSlice t l c) (kl kc : IntKind) (C : Int) (n : Nat) (hl : a.eval l = .int kl 0) (hc : a.eval c = .int kc C) (hC : C = (n : Int)) (hn : n ≤ 1073741824)
    (hK : ∀ w', Hid (OwnK k e w' w.heap.size (.slice (some ⟨w.heap.size, 0, none⟩) 0 n) []) → Below w.heap.size w w' → wpList P ops Q rest (a.put o.dst (.slice (some ⟨w.heap.size, 0, none⟩) 0 n)) w') :
    wpList P ops Q (o :: rest) a w := by
  obtain ⟨i0, hi, hz0, hz1, hz2⟩ := info_of T
  have hm : b * n ≤ 8 * 1073741824 := Nat.mul_le_mul hb8 hn
  refine wpList_make_own w hg l c t hop w.heap.size e i0 (.int k 0) 1 T.ht hi hz0 hz1 kl kc C n hl hc hC (by rw [hz2]; omega) (by unfold maxLen; omega) (Nat.le_refl _) ?_
  intro w' h1 h2
  exact hK w' h1 (Below.grown (Below.refl _ _) h2 (Nat.le_refl _) (fun j hj => by cases hj))
theorem rowW_le {d s : List Nat} (hd : ∀ x, x ∈ d → x ≤ 4096) (hs : ∀ x, x ∈ s → x ≤ 4096) : ∀ k a, a ∈ rowW d s k → a ≤ k * 16777216
  | 0, a, h => by simp [rowW] at h; omega
  | k + 1, a, h => by
    rw [rowW] at h
    obtain ⟨b, hb, h⟩ := List.mem_flatMap.1 h
    obtain ⟨n, hn, rfl⟩ := List.mem_map.1 h
    have h1 := rowW_le hd hs k b hb
    have h2 := List.mem_range.1 hn
    have h3 : d.getD k 0 ≤ 4096 := by
      rcases Nat.lt_or_ge k d.length with hk | hk
      · rw [getD_lt d k 0 hk]; exact hd _ (List.getElem_mem _)
      · rw [getD_ge d k 0 hk]; omega
    have h4 : s.getD k 0 ≤ 4096 := by
      rcases Nat.lt_or_ge k s.length with hk | hk
      · rw [getD_lt s k 0 hk]; exact hs _ (List.getElem_mem _)
      · rw [getD_ge s k 0 hk]; omega
    have := Nat.mul_le_mul (show n ≤ 4096 by omega) h4
    omega
theorem itl_app (a b : List Nat) : itl (a ++ b) = itl a ++ itl b := by simp [itl]
theorem range_map_succ (g : Nat → Nat) (i : Nat) : (List.range (i + 1)).map g = (List.range i).map g ++ [g i] := by rw [List.range_succ, List.map_append]; rfl
theorem flat_succ (l : List Nat) (f : Nat → List Nat) (j : Nat) (h : j < l.length) : (l.take (j + 1)).flatMap f = (l.take j).flatMap f ++ f (l.getD j 0) := by
  rw [List.take_succ_eq_append_getElem h, List.flatMap_append, getD_lt l j 0 h]
  simp
end Go.Proofs.Ytimbidiogcfpeaa.Wd
namespace Go.Proofs.Ytimbidiogcfpeaa.Wd
open Go.RowKit
set_option linter.unusedVariables false
set_option linter.unusedSimpArgs false
theorem itl_set (l : List Nat) (j x : Nat) : itl (l.set j x) = (itl l).set j (x : Int) := by unfold itl; rw [List.map_set]
end Go.Proofs.Ytimbidiogcfpeaa.Wd
namespace Go.Proofs.Ytimbidiogcfpeaa.Wd
open Go.RowKit
set_option linter.unusedVariables false
set_option linter.unusedSimpArgs false
theorem cell_lt {W : World} {b o : Nat} {v : Value} (h : W.cell? ⟨b, o, none⟩ = some v) : b < W.heap.size := cell_block (a := ⟨b, o, none⟩) h
/-- A struct of two values in a block, that may be stored into. -/
def Cel (W : World) (b : Nat) (s t : Value) : Prop := W.cell? ⟨b, 0, none⟩ = some s ∧ W.cell? ⟨b, 1, none⟩ = some t ∧ W.frozen? ⟨b, 0, none⟩ = false ∧ W.frozen? ⟨b, 1, none⟩ = false
theorem Cel.up {W W' : World} {b : Nat} {s t : Value} (h : Cel W b s t) (hB : Below W.heap.size W W') : Cel W' b s t := by
  have hb := cell_lt h.1
  refine ⟨cell_low h.1 hB, cell_low h.2.1 hB, ?_, ?_⟩
  · rw [hB.frozen (p := ⟨b, 0, none⟩) hb]; exact h.2.2.1
  · rw [hB.frozen (p := ⟨b, 1, none⟩) hb]; exact h.2.2.2
theorem Cel.stay {g : Nat} {W W' : World} {b : Nat} {s t : Value} (h : Cel W b s t) (hs : Stay g W W') (hg : b ≠ g) : Cel W' b s t := by
  have hb := cell_lt h.1
  refine ⟨hs.cell h.1 hg, hs.cell h.2.1 hg, ?_, ?_⟩
  · rw [hs.frozen hb hg]; exact h.2.2.1
  · rw [hs.frozen hb hg]; exact h.2.2.2
theorem celW {V W0 : World} {b : Nat} {s t : Value} (h : V = W0) (h2 : V.cell? ⟨b, 0, none⟩ = some s ∧ V.cell? ⟨b, 1, none⟩ = some t ∧ V.frozen? ⟨b, 0, none⟩ = false ∧ V.frozen? ⟨b, 1, none⟩ = false) : Hid (Cel W0 b s t) := h ▸ h2
theorem hidB {w V W0 : World} (h : V = W0) (h2 : Below w.heap.size w V) : Hid (Below w.heap.size w W0) := h ▸ h2
theorem set_same {W : World} {p : Addr} {x v : Value} (h : W.cell? p = some v) : (W.setCell p x).cell? p = some x := World.cell?_setCell_same _ _ _ h
theorem set_off {W : World} {b i j : Nat} {x : Value} (hij : j ≠ i) : (W.setCell ⟨b, i, none⟩ x).cell? ⟨b, j, none⟩ = W.cell? ⟨b, j, none⟩ := World.cell?_setCell_other _ _ _ _ (by simp; try omega)
/-- The struct, stored. -/
abbrev set2 (W : World) (b : Nat) (s t : Value) : World := (W.setCell ⟨b, 0, none⟩ s).setCell ⟨b, 1, none⟩ t
theorem Cel.set {W : World} {b : Nat} {s t : Value} (h : Cel W b s t) (s' t' : Value) : Cel (set2 W b s' t') b s' t' := by
  refine ⟨?_, ?_, ?_, ?_⟩
  · show ((W.setCell ⟨b, 0, none⟩ s').setCell ⟨b, 1, none⟩ t').cell? ⟨b, 0, none⟩ = _
    rw [set_off (by omega)]
    exact set_same h.1
  · exact set_same (by rw [set_off (by omega)]; exact h.2.1)
  · simp [h.2.2.1]
  · simp [h.2.2.2]
theorem Stay.set2 {g : Nat} (W : World) (s t : Value) : Stay g W (set2 W g s t) := ((Stay.refl g W).set 0 s).set 1 t
theorem OwnK.off_new {k : IntKind} {e : TypeId} {W : World} {B g : Nat} {v : Value} {l : List Int} (h : OwnK k e W B v l) (hg : W.heap.size ≤ g) : Off g v := by
  intro ad n c ev
  rcases h.2 with ⟨h1, _⟩ | ⟨q, cap, cur, h1, h2, h3, _⟩
  · rw [h1] at ev; cases ev
  · rw [h1] at ev
    cases ev
    have : q < W.heap.size := by
      rcases Nat.lt_or_ge q W.heap.size with h | h
      · exact h
      · rw [Array.getElem?_eq_none h] at h3; cases h3
    show q ≠ g
    omega
theorem below_cell {w W : World} (h : Below w.heap.size w W) (b : Nat) (hb : w.heap.size ≤ b) (x y : Value) : Below w.heap.size w (set2 W b x y) := below_set2 h b hb x y
/-- Both spread and reckoned, number by number. -/
def eachE (d x d' y : List Int) : Int := if isP d x ∧ isP d' y then joinE d d' else 1
def eachD (d x d' y : List Int) : List Int := if isP d x ∧ isP d' y then joinL d d' else []
def eachV (op : Int → Int → Int) (d x d' y : List Int) : List Int :=
  if (isP d x ∧ isP d' y) ∧ joinE d d' = 0 then (List.range (prodN (ntl (joinL d d')))).map fun i => op (x.getD (fromN (ntl d) (ntl (joinL d d')) i) 0) (y.getD (fromN (ntl d') (ntl (joinL d d')) i) 0) else []
theorem each_none {op : Int → Int → Int} {d x d' y : List Int} (h : ¬ (isP d x ∧ isP d' y)) : eachE d x d' y = 1 ∧ eachD d x d' y = [] ∧ eachV op d x d' y = [] := ⟨if_neg h, if_neg h, if_neg fun h' => h h'.1⟩
theorem joinL_bad {a b : List Int} (h : joinE a b ≠ 0) : joinL a b = [] := by
  unfold joinL
  rw [if_neg]
  rintro ⟨h1, h2, h3, h4⟩
  apply h
  unfold joinE
  rw [if_pos ⟨h1, h2⟩, if_pos h3, if_pos h4]
theorem each_bad {op : Int → Int → Int} {d x d' y : List Int} (h : isP d x ∧ isP d' y) (hE : joinE d d' ≠ 0) : eachE d x d' y = joinE d d' ∧ eachD d x d' y = [] ∧ eachV op d x d' y = [] :=
  ⟨if_pos h, by unfold eachD; rw [if_pos h]; exact joinL_bad hE, if_neg fun h' => hE h'.2⟩
/-- Both fit: what stands where. -/
structure Joint (d x d' y : List Int) (a b J : List Nat) : Prop where
  da : d = itl a
  db : d' = itl b
  ga : goodN a
  gb : goodN b
  gJ : goodN J
  jn : joinL d d' = itl J
  je : joinE d d' = 0
  lx : x.length = prodN a
  ly : y.length = prodN b
  fa : fitsN a J
  ja : joinN a J = J
  fb : fitsN b J
  jb : joinN b J = J
theorem joint {d x d' y : List Int} (h : isP d x ∧ isP d' y) (hE : joinE d d' = 0) : ∃ a b J, Joint d x d' y a b J := by
  obtain ⟨h1, h2, h3, h4⟩ := joinE_zero hE
  obtain ⟨a, ga, rfl⟩ := good_itl h1
  obtain ⟨b, gb, rfl⟩ := good_itl h2
  rw [ntl_itl, ntl_itl] at h3 h4
  have hj := (join_fine ga gb h3 h4).1
  have e1 := h.1.2
  have e2 := h.2.2
  rw [ntl_itl] at e1 e2
  refine ⟨a, b, joinN a b, rfl, rfl, ga, gb, h4, hj, hE, e1, e2, ?_, ?_, ?_, ?_⟩
  · rw [fitsN_comm]; exact fitsN_again ga.2.1 gb.2.1 h3
  · rw [joinN_comm, joinN_again]
  · rw [fitsN_comm, joinN_comm a b]; exact fitsN_again gb.2.1 ga.2.1 ((fitsN_comm _ _).1 h3)
  · rw [joinN_comm b, joinN_comm a b, joinN_again]
theorem Joint.E {op : Int → Int → Int} {d x d' y : List Int} {a b J : List Nat} (h : Joint d x d' y a b J) : eachE d x d' y = 0 ∧ eachD d x d' y = itl J ∧ eachV op d x d' y = (List.range (prodN J)).map fun i => op (x.getD (fromN a J i) 0) (y.getD (fromN b J i) 0) := by
  have hp : isP d x ∧ isP d' y := by
    rw [h.da, h.db]
    unfold isP
    rw [ntl_itl, ntl_itl]
    exact ⟨⟨h.ga, h.lx⟩, h.gb, h.ly⟩
  refine ⟨?_, ?_, ?_⟩
  · unfold eachE; rw [if_pos hp]; exact h.je
  · unfold eachD; rw [if_pos hp]; exact h.jn
  · unfold eachV
    rw [if_pos ⟨hp, h.je⟩, h.jn, ntl_itl]
    rw [h.da, h.db, ntl_itl, ntl_itl]
end Go.Proofs.Ytimbidiogcfpeaa.Wd
