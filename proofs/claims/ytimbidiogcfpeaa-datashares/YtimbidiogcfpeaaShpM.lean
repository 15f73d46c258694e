/- Shapes, as lists of numbers: sizes, places, what two spread to, what is spread where, how often. Nothing of the program is named here. Shapes: what two spread to, what is spread where, and how often. Nothing of the program is named here. Shapes as lists of Go's ints: what the loops over them reckon. Nothing of the program is named here. Shapes as Go's ints: what is spread where. Nothing of the program is named here. -/
import Derived.RowKit
namespace Go.Proofs.Ytimbidiogcfpeaa.Wd
open Go.RowKit
set_option linter.unusedVariables false
set_option linter.unusedSimpArgs false
def prodN : List Nat → Nat
  | [] => 1
  | d :: ds => d * prodN ds
theorem prodN_append : ∀ a b : List Nat, prodN (a ++ b) = prodN a * prodN b
  | [], b => by simp [prodN]
  | d :: a, b => by simp [prodN, prodN_append a b, Nat.mul_assoc]
theorem prodN_pos : ∀ {d : List Nat}, (∀ x, x ∈ d → 1 ≤ x) → 1 ≤ prodN d
  | [], _ => Nat.le_refl _
  | x :: d, h => by
    have h1 := h x List.mem_cons_self
    have h2 := prodN_pos (d := d) fun y hy => h y (List.mem_cons_of_mem _ hy)
    exact Nat.mul_pos h1 h2
/-- A shape's numbers. -/
abbrev goodN (d : List Nat) : Prop := d.length ≤ 4 ∧ (∀ x, x ∈ d → 1 ≤ x) ∧ prodN d ≤ 4096
theorem mem_le_prodN : ∀ {d : List Nat}, (∀ x, x ∈ d → 1 ≤ x) → ∀ x, x ∈ d → x ≤ prodN d
  | y :: d, h, x, hx => by
    have hp := prodN_pos (d := d) fun y hy => h y (List.mem_cons_of_mem _ hy)
    have hy := h y List.mem_cons_self
    rcases List.mem_cons.1 hx with rfl | hx
    · exact Nat.le_mul_of_pos_right _ hp
    · exact Nat.le_trans (mem_le_prodN (fun y hy => h y (List.mem_cons_of_mem _ hy)) x hx) (Nat.le_mul_of_pos_left _ hy)
theorem goodN.le {d : List Nat} (h : goodN d) : ∀ x, x ∈ d → x ≤ 4096 := fun x hx => Nat.le_trans (mem_le_prodN h.2.1 x hx) h.2.2
theorem prodN_take_le {d : List Nat} (h : ∀ x, x ∈ d → 1 ≤ x) (k : Nat) : prodN (d.take k) ≤ prodN d := by
  have e : prodN d = prodN (d.take k) * prodN (d.drop k) := by rw [← prodN_append, List.take_append_drop]
  have := prodN_pos (d := d.drop k) fun x hx => h x (List.mem_of_mem_drop hx)
  rw [e]
  exact Nat.le_mul_of_pos_right _ this
theorem prodN_drop_le {d : List Nat} (h : ∀ x, x ∈ d → 1 ≤ x) (k : Nat) : prodN (d.drop k) ≤ prodN d := by
  have e : prodN d = prodN (d.take k) * prodN (d.drop k) := by rw [← prodN_append, List.take_append_drop]
  have := prodN_pos (d := d.take k) fun x hx => h x (List.mem_of_mem_take hx)
  rw [e]
  exact Nat.le_mul_of_pos_left _ this
theorem prodN_take_succ (d : List Nat) (k : Nat) (h : k < d.length) : prodN (d.take (k + 1)) = prodN (d.take k) * d[k] := by
  rw [List.take_succ_eq_append_getElem h, prodN_append]
  simp [prodN]
theorem prodN_drop_succ (d : List Nat) (k : Nat) (h : k < d.length) : prodN (d.drop k) = d[k] * prodN (d.drop (k + 1)) := by
  rw [List.drop_eq_getElem_cons h]
  rfl
/-- How far it is from one to the next along each. -/
def stridesN : List Nat → List Nat
  | [] => []
  | _ :: ds => prodN ds :: stridesN ds
theorem stridesN_len : ∀ d, (stridesN d).length = d.length
  | [] => rfl
  | _ :: ds => by simp [stridesN, stridesN_len ds]
theorem stridesN_get : ∀ (d : List Nat) (k : Nat), k < d.length → (stridesN d)[k]? = some (prodN (d.drop (k + 1)))
  | [], k, h => by simp at h
  | _ :: ds, 0, h => by simp [stridesN]
  | _ :: ds, k + 1, h => by
    simp only [stridesN, List.getElem?_cons_succ, List.drop_succ_cons]
    exact stridesN_get ds k (by simpa using h)
/-- The number of a place, and back. -/
def evalN : List Nat → List Nat → Nat
  | _ :: ds, p :: ps => p * prodN ds + evalN ds ps
  | _, _ => 0
def placeN : List Nat → Nat → List Nat
  | [], _ => []
  | _ :: ds, at_ => at_ / prodN ds :: placeN ds (at_ % prodN ds)
theorem placeN_len : ∀ d a, (placeN d a).length = d.length
  | [], _ => rfl
  | _ :: ds, a => by simp [placeN, placeN_len ds]
theorem eval_place : ∀ (d : List Nat) (a : Nat), (∀ x, x ∈ d → 1 ≤ x) → a < prodN d → evalN d (placeN d a) = a
  | [], a, _, h => by simp [prodN] at h; simp [evalN, h]
  | x :: ds, a, h, ha => by
    have hp := prodN_pos (d := ds) fun y hy => h y (List.mem_cons_of_mem _ hy)
    rw [placeN, evalN, eval_place ds _ (fun y hy => h y (List.mem_cons_of_mem _ hy)) (Nat.mod_lt _ hp), Nat.mul_comm]
    exact Nat.div_add_mod a (prodN ds)
/-- Each number of a place is below its side. -/
def Inside : List Nat → List Nat → Prop
  | d :: ds, p :: ps => p < d ∧ Inside ds ps
  | [], [] => True
  | _, _ => False
theorem inside_place : ∀ (d : List Nat) (a : Nat), (∀ x, x ∈ d → 1 ≤ x) → a < prodN d → Inside d (placeN d a)
  | [], _, _, _ => trivial
  | x :: ds, a, h, ha => by
    have hp := prodN_pos (d := ds) fun y hy => h y (List.mem_cons_of_mem _ hy)
    refine ⟨Nat.div_lt_of_lt_mul (by rw [Nat.mul_comm]; exact ha), inside_place ds _ (fun y hy => h y (List.mem_cons_of_mem _ hy)) (Nat.mod_lt _ hp)⟩
theorem inside_len : ∀ {d p : List Nat}, Inside d p → p.length = d.length
  | [], [], _ => rfl
  | _ :: ds, _ :: ps, h => by simp [inside_len h.2]
  | [], _ :: _, h => h.elim
  | _ :: _, [], h => h.elim
theorem inside_get : ∀ {d p : List Nat}, Inside d p → ∀ (k : Nat) (x y : Nat), d[k]? = some x → p[k]? = some y → y < x
  | _ :: _, _ :: _, h, 0, x, y, hx, hy => by
    simp at hx hy
    subst hx hy
    exact h.1
  | _ :: ds, _ :: ps, h, k + 1, x, y, hx, hy => inside_get h.2 k x y (by simpa using hx) (by simpa using hy)
  | [], [], _, k, x, y, hx, _ => by simp at hx
  | [], _ :: _, h, _, _, _, _, _ => h.elim
  | _ :: _, [], h, _, _, _, _, _ => h.elim
theorem inside_of : ∀ {d p : List Nat}, p.length = d.length → (∀ (k : Nat) (x y : Nat), d[k]? = some x → p[k]? = some y → y < x) → Inside d p
  | [], [], _, _ => trivial
  | d :: ds, p :: ps, hl, h => ⟨h 0 d p rfl rfl, inside_of (by simpa using hl) fun k x y hx hy => h (k + 1) x y (by simpa using hx) (by simpa using hy)⟩
  | [], _ :: _, hl, _ => by simp at hl
  | _ :: _, [], hl, _ => by simp at hl
theorem eval_lt : ∀ {d p : List Nat}, Inside d p → evalN d p < prodN d
  | [], [], _ => by simp [evalN, prodN]
  | d :: ds, p :: ps, h => by
    have h1 := eval_lt h.2
    have h2 : (p + 1) * prodN ds ≤ d * prodN ds := Nat.mul_le_mul_right _ h.1
    rw [Nat.add_mul] at h2
    simp only [evalN, prodN]
    omega
  | [], _ :: _, h => h.elim
  | _ :: _, [], h => h.elim
/-- Place by place: what a walk from the first side on reckons. -/
def hornN : Nat → List Nat → List Nat → Nat
  | acc, d :: ds, p :: ps => hornN (acc * d + p) ds ps
  | acc, _, _ => acc
theorem horn_eval : ∀ (acc : Nat) (d p : List Nat), p.length = d.length → hornN acc d p = acc * prodN d + evalN d p
  | acc, [], [], _ => by simp [hornN, prodN, evalN]
  | acc, d :: ds, p :: ps, h => by
    rw [hornN, horn_eval _ ds ps (by simpa using h), prodN, evalN, Nat.add_mul, Nat.mul_assoc]
    omega
  | acc, [], _ :: _, h => by simp at h
  | acc, _ :: _, [], h => by simp at h
/-- The same, of the first k sides. -/
def hornK (d p : List Nat) : Nat → Nat
  | 0 => 0
  | k + 1 => hornK d p k * d.getD k 0 + p.getD k 0
theorem hornK_eq (d p : List Nat) (h : p.length = d.length) : ∀ k, k ≤ d.length → hornN (hornK d p k) (d.drop k) (p.drop k) = hornN 0 d p
  | 0, _ => by simp [hornK]
  | k + 1, hk => by
    rw [← hornK_eq d p h k (by omega), List.drop_eq_getElem_cons (show k < d.length by omega), List.drop_eq_getElem_cons (show k < p.length by omega), hornN, hornK]
    simp [List.getD_eq_getElem?_getD, List.getElem?_eq_getElem (show k < d.length by omega), List.getElem?_eq_getElem (show k < p.length by omega)]
theorem hornK_full (d p : List Nat) (h : p.length = d.length) : hornK d p d.length = evalN d p := by
  have := hornK_eq d p h d.length (Nat.le_refl _)
  rw [List.drop_length, hornN] at this
  · rw [this, horn_eval 0 d p h]
    simp
  · intro _ _ _ _ h1 _
    cases h1
theorem hornK_le {d p : List Nat} (h : Inside d p) (hg : ∀ x, x ∈ d → 1 ≤ x) : ∀ k, k ≤ d.length → hornK d p k + 1 ≤ prodN (d.take k)
  | 0, _ => by simp [hornK, prodN]
  | k + 1, hk => by
    have ih := hornK_le h hg k (by omega)
    have hl := inside_len h
    have hin := inside_get h k d[k] p[k] (List.getElem?_eq_getElem (by omega)) (List.getElem?_eq_getElem (by omega))
    rw [hornK, prodN_take_succ d k (by omega)]
    simp only [List.getD_eq_getElem?_getD, List.getElem?_eq_getElem (show k < d.length by omega), List.getElem?_eq_getElem (show k < p.length by omega), Option.getD_some]
    have := Nat.mul_le_mul_right d[k] ih
    rw [Nat.add_mul] at this
    omega
/-- A place's k-th number, by the sides behind it. -/
theorem placeN_get : ∀ (d : List Nat) (a k : Nat), (∀ x, x ∈ d → 1 ≤ x) → a < prodN d → (hk : k < d.length) → (placeN d a)[k]? = some (a / prodN (d.drop (k + 1)) % d[k])
  | x :: ds, a, 0, h, ha, hk => by
    simp only [placeN, List.getElem?_cons_zero, List.drop_succ_cons, List.drop_zero, List.getElem_cons_zero]
    rw [Nat.mod_eq_of_lt (Nat.div_lt_of_lt_mul (by rw [Nat.mul_comm]; exact ha))]
  | x :: ds, a, k + 1, h, ha, hk => by
    have hg : ∀ y, y ∈ ds → 1 ≤ y := fun y hy => h y (List.mem_cons_of_mem _ hy)
    have hp := prodN_pos hg
    have hk' : k < ds.length := by simpa using hk
    simp only [placeN, List.getElem?_cons_succ, List.drop_succ_cons, List.getElem_cons_succ]
    rw [placeN_get ds (a % prodN ds) k hg (Nat.mod_lt _ hp) hk']
    congr 1
    have e : prodN ds = prodN (ds.take k) * (ds[k] * prodN (ds.drop (k + 1))) := by rw [← prodN_drop_succ ds k hk', ← prodN_append, List.take_append_drop]
    generalize hP : prodN (ds.drop (k + 1)) = P at *
    have hP1 : 1 ≤ P := by rw [← hP]; exact prodN_pos fun y hy => hg y (List.mem_of_mem_drop hy)
    have hK1 : 1 ≤ ds[k] := hg _ (List.getElem_mem hk')
    generalize ds[k] = K at *
    generalize prodN (ds.take k) = T at *
    rw [e, show T * (K * P) = P * (K * T) by rw [Nat.mul_comm T, Nat.mul_comm K P, Nat.mul_assoc], Nat.mod_mul_right_div_self, Nat.mod_mul_right_mod]
/-- What is left of a number behind the sides from k on. -/
theorem div_drop (d : List Nat) (a k : Nat) (hk : k < d.length) : a / prodN (d.drop (k + 1)) / d[k] = a / prodN (d.drop k) := by
  rw [Nat.div_div_eq_div_mul, prodN_drop_succ d k hk, Nat.mul_comm]
end Go.Proofs.Ytimbidiogcfpeaa.Wd
namespace Go.Proofs.Ytimbidiogcfpeaa.Wd
open Go.RowKit
set_option linter.unusedVariables false
set_option linter.unusedSimpArgs false
/-- The sum of products, of the first k. -/
def dotK (p s : List Nat) : Nat → Nat
  | 0 => 0
  | k + 1 => dotK p s k + p.getD k 0 * s.getD k 0
theorem dotK_cons (p0 s0 : Nat) (p s : List Nat) : ∀ k, dotK (p0 :: p) (s0 :: s) (k + 1) = p0 * s0 + dotK p s k
  | 0 => by simp [dotK]
  | k + 1 => by
    rw [dotK, dotK_cons p0 s0 p s k, dotK]
    simp only [List.getD_cons_succ]
    omega
theorem dotK_strides : ∀ (d p : List Nat), p.length = d.length → dotK p (stridesN d) d.length = evalN d p
  | [], [], _ => rfl
  | d :: ds, p :: ps, h => by
    rw [stridesN, List.length_cons, dotK_cons, dotK_strides ds ps (by simpa using h), evalN]
  | [], _ :: _, h => by simp at h
  | _ :: _, [], h => by simp at h
/-- The i-th side from the last on (from 1), 1 where there is none. -/
def sideN (l : List Nat) (i : Nat) : Nat := if i ≤ l.length then l.getD (l.length - i) 1 else 1
theorem sideN_pos {l : List Nat} (h : ∀ x, x ∈ l → 1 ≤ x) (i : Nat) : 1 ≤ sideN l i := by
  unfold sideN
  split
  · rw [List.getD_eq_getElem?_getD]
    cases hc : l[l.length - i]? with
    | none => exact Nat.le_refl _
    | some x => exact h x (List.mem_of_getElem? hc)
  · exact Nat.le_refl _
theorem sideN_get (l : List Nat) (j : Nat) (h : j < l.length) : l[j]? = some (sideN l (l.length - j)) := by
  unfold sideN
  rw [if_pos (by omega), show l.length - (l.length - j) = j by omega, List.getD_eq_getElem?_getD, List.getElem?_eq_getElem h]
  rfl
theorem ext_side {a b : List Nat} (hl : a.length = b.length) (h : ∀ i, 1 ≤ i → i ≤ a.length → sideN a i = sideN b i) : a = b := by
  refine List.ext_getElem? fun j => ?_
  by_cases hj : j < a.length
  · rw [sideN_get a j hj, sideN_get b j (by omega), h (a.length - j) (by omega) (by omega), hl]
  · rw [List.getElem?_eq_none (by omega), List.getElem?_eq_none (by omega)]
/-- The list of n sides. -/
def ofSides (n : Nat) (f : Nat → Nat) : List Nat := (List.range n).map fun j => f (n - j)
theorem ofSides_len (n : Nat) (f : Nat → Nat) : (ofSides n f).length = n := by simp [ofSides]
theorem ofSides_side (n : Nat) (f : Nat → Nat) (i : Nat) (h1 : 1 ≤ i) (h : i ≤ n) : sideN (ofSides n f) i = f i := by
  unfold sideN
  rw [ofSides_len, if_pos h, List.getD_eq_getElem?_getD, ofSides, List.getElem?_map, List.getElem?_range (by omega)]
  simp only [Option.map_some, Option.getD_some]
  rw [show n - (n - i) = i by omega]
theorem sideN_far (l : List Nat) (i : Nat) (h : l.length < i) : sideN l i = 1 := by
  unfold sideN
  rw [if_neg (by omega)]
def joinN (a b : List Nat) : List Nat := ofSides (max a.length b.length) fun i => max (sideN a i) (sideN b i)
abbrev fitN (x y : Nat) : Prop := x = y ∨ x = 1 ∨ y = 1
def fitsN (a b : List Nat) : Prop := ∀ i, 1 ≤ i → i ≤ max a.length b.length → fitN (sideN a i) (sideN b i)
theorem joinN_len (a b : List Nat) : (joinN a b).length = max a.length b.length := ofSides_len _ _
theorem joinN_side (a b : List Nat) (i : Nat) (h : 1 ≤ i) : sideN (joinN a b) i = max (sideN a i) (sideN b i) := by
  by_cases hi : i ≤ max a.length b.length
  · exact ofSides_side _ _ i h hi
  · rw [sideN_far _ i (by rw [joinN_len]; omega), sideN_far a i (by omega), sideN_far b i (by omega)]
    rfl
theorem joinN_comm (a b : List Nat) : joinN a b = joinN b a :=
  ext_side (by rw [joinN_len, joinN_len, Nat.max_comm]) fun i h1 h2 => by rw [joinN_side _ _ _ h1, joinN_side _ _ _ h1, Nat.max_comm]
theorem fitN_comm {x y : Nat} : fitN x y ↔ fitN y x := by unfold fitN; omega
theorem fitsN_comm (a b : List Nat) : fitsN a b ↔ fitsN b a := by
  unfold fitsN
  rw [Nat.max_comm b.length]
  exact ⟨fun h i h1 h2 => fitN_comm.1 (h i h1 h2), fun h i h1 h2 => fitN_comm.1 (h i h1 h2)⟩
theorem fitsN_again {a b : List Nat} (ha : ∀ x, x ∈ a → 1 ≤ x) (hb : ∀ x, x ∈ b → 1 ≤ x) (h : fitsN a b) : fitsN (joinN a b) a := by
  intro i h1 h2
  rw [joinN_side _ _ _ h1]
  rw [joinN_len] at h2
  have := h i h1 (by omega)
  have p1 := sideN_pos ha i
  have p2 := sideN_pos hb i
  unfold fitN at *
  omega
theorem joinN_again (a b : List Nat) : joinN (joinN a b) a = joinN a b :=
  ext_side (by rw [joinN_len, joinN_len]; omega) fun i h1 h2 => by
    rw [joinN_side _ _ _ h1, joinN_side _ _ _ h1]
    omega
theorem sideN_nil (i : Nat) (h : 1 ≤ i) : sideN [] i = 1 := sideN_far _ _ (by rw [List.length_nil]; omega)
theorem fitsN_nil (a : List Nat) : fitsN a [] := fun i h1 h2 => .inr (.inr (sideN_nil i h1))
theorem joinN_nil {a : List Nat} (ha : ∀ x, x ∈ a → 1 ≤ x) : joinN a [] = a :=
  ext_side (by rw [joinN_len]; simp) fun i h1 h2 => by
    rw [joinN_side _ _ _ h1, sideN_nil i h1]
    have := sideN_pos ha i
    omega
theorem joinN_pos {a b : List Nat} (ha : ∀ x, x ∈ a → 1 ≤ x) : ∀ x, x ∈ joinN a b → 1 ≤ x := by
  intro x hx
  obtain ⟨j, hj, rfl⟩ := List.mem_map.1 hx
  have := sideN_pos ha (max a.length b.length - j)
  show 1 ≤ max _ _
  omega
/-- A shape spread to another's length: ones ahead. -/
def padN (n : Nat) (l : List Nat) : List Nat := List.replicate (n - l.length) 1 ++ l
theorem padN_len (n : Nat) (l : List Nat) (h : l.length ≤ n) : (padN n l).length = n := by simp [padN]; omega
theorem padN_side (n : Nat) (l : List Nat) (h : l.length ≤ n) (i : Nat) (h1 : 1 ≤ i) : sideN (padN n l) i = sideN l i := by
  by_cases hl : i ≤ l.length
  · unfold sideN
    rw [padN_len n l h, if_pos hl, if_pos (by omega), padN, List.getD_eq_getElem?_getD, List.getElem?_append_right (by simp; omega), List.getD_eq_getElem?_getD]
    congr 2
    simp
    omega
  · rw [sideN_far l i (by omega)]
    unfold sideN
    rw [padN_len n l h]
    split
    · rw [padN, List.getD_eq_getElem?_getD, List.getElem?_append_left (by simp; omega)]
      rw [List.getElem?_replicate]
      split <;> rfl
    · rfl
theorem prodN_ones (m : Nat) : prodN (List.replicate m 1) = 1 := by
  induction m with
  | zero => rfl
  | succ m ih => rw [List.replicate_succ, prodN, ih]
theorem prodN_pad (n : Nat) (l : List Nat) : prodN (padN n l) = prodN l := by rw [padN, prodN_append, prodN_ones, Nat.one_mul]
/-- What is spread where: of each side that is 1 its only number. -/
def pickN : List Nat → List Nat → List Nat
  | d :: ds, p :: ps => (if d = 1 then 0 else p) :: pickN ds ps
  | _, _ => []
theorem pickN_len : ∀ d p : List Nat, p.length = d.length → (pickN d p).length = d.length
  | [], [], _ => rfl
  | d :: ds, p :: ps, h => by simp [pickN, pickN_len ds ps (by simpa using h)]
  | [], _ :: _, h => by simp at h
  | _ :: _, [], h => by simp at h
theorem pickN_get : ∀ (d p : List Nat) (k : Nat) (x y : Nat), d[k]? = some x → p[k]? = some y → (pickN d p)[k]? = some (if x = 1 then 0 else y)
  | d :: ds, p :: ps, 0, x, y, hx, hy => by
    simp at hx hy
    subst hx hy
    rfl
  | d :: ds, p :: ps, k + 1, x, y, hx, hy => by
    simp only [pickN, List.getElem?_cons_succ]
    exact pickN_get ds ps k x y (by simpa using hx) (by simpa using hy)
  | [], _, k, x, y, hx, _ => by simp at hx
  | _ :: _, [], k, x, y, _, hy => by simp at hy
/-- The place of the number that is spread to the place a of big. -/
def fromN (d big : List Nat) (a : Nat) : Nat := evalN d (pickN d ((placeN big a).drop (big.length - d.length)))
/-- The same, side by side. -/
def frN : List Nat → List Nat → Nat → Nat
  | d :: ds, b :: bs, a => (if d = 1 then 0 else a / prodN bs) * prodN ds + frN ds bs (a % prodN bs)
  | _, _, _ => 0
theorem frN_eq : ∀ (d b : List Nat) (a : Nat), d.length = b.length → evalN d (pickN d (placeN b a)) = frN d b a
  | [], [], _, _ => rfl
  | d :: ds, b :: bs, a, h => by rw [placeN, pickN, evalN, frN_eq ds bs _ (by simpa using h), frN]
  | [], _ :: _, _, h => by simp at h
  | _ :: _, [], _, h => by simp at h
theorem eval_ones : ∀ (m : Nat) (d p : List Nat), p.length = m + d.length → evalN (List.replicate m 1 ++ d) (pickN (List.replicate m 1 ++ d) p) = evalN d (pickN d (p.drop m))
  | 0, d, p, h => by simp
  | m + 1, d, [], h => by simp at h; omega
  | m + 1, d, p :: ps, h => by
    rw [List.replicate_succ, List.cons_append, pickN, evalN, if_pos rfl, Nat.zero_mul, Nat.zero_add, eval_ones m d ps (by simp at h; omega), List.drop_succ_cons]
theorem fromN_fr (d big : List Nat) (a : Nat) (h : d.length ≤ big.length) : fromN d big a = frN (padN big.length d) big a := by
  rw [← frN_eq _ _ _ (padN_len _ _ h), padN, eval_ones _ d _ (by rw [placeN_len]; omega)]
  rfl
/-- Each side of d is 1 or big's. -/
def Spread : List Nat → List Nat → Prop
  | d :: ds, b :: bs => (d = 1 ∨ d = b) ∧ Spread ds bs
  | [], [] => True
  | _, _ => False
theorem spread_of : ∀ {d b : List Nat}, d.length = b.length → (∀ (k : Nat) (x y : Nat), d[k]? = some x → b[k]? = some y → x = 1 ∨ x = y) → Spread d b
  | [], [], _, _ => trivial
  | d :: ds, b :: bs, hl, h => ⟨h 0 d b rfl rfl, spread_of (by simpa using hl) fun k x y hx hy => h (k + 1) x y (by simpa using hx) (by simpa using hy)⟩
  | [], _ :: _, hl, _ => by simp at hl
  | _ :: _, [], hl, _ => by simp at hl
theorem join_big {d big : List Nat} (hd : ∀ x, x ∈ d → 1 ≤ x) (hb : ∀ x, x ∈ big → 1 ≤ x) (hf : fitsN d big) (hj : joinN d big = big) : d.length ≤ big.length ∧ Spread (padN big.length d) big := by
  have hl : d.length ≤ big.length := by
    have := congrArg List.length hj
    rw [joinN_len] at this
    omega
  refine ⟨hl, spread_of (padN_len _ _ hl) fun k x y hx hy => ?_⟩
  have hk : k < big.length := (List.getElem?_eq_some_iff.1 hy).1
  rw [sideN_get _ k (by rw [padN_len _ _ hl]; exact hk), padN_len _ _ hl, padN_side _ _ hl _ (by omega)] at hx
  rw [sideN_get _ k hk] at hy
  cases hx
  cases hy
  have h1 := hf (big.length - k) (by omega) (by omega)
  have h2 := congrArg (fun l => sideN l (big.length - k)) hj
  simp only [joinN_side _ _ _ (show 1 ≤ big.length - k by omega)] at h2
  have p1 := sideN_pos hd (big.length - k)
  have p2 := sideN_pos hb (big.length - k)
  unfold fitN at h1
  omega
theorem spread_len : ∀ {d b : List Nat}, Spread d b → d.length = b.length
  | [], [], _ => rfl
  | _ :: ds, _ :: bs, h => by simp [spread_len h.2]
  | [], _ :: _, h => h.elim
  | _ :: _, [], h => h.elim
theorem frN_lt : ∀ {d b : List Nat}, Spread d b → (∀ x, x ∈ b → 1 ≤ x) → ∀ a, a < prodN b → frN d b a < prodN d
  | [], [], _, _, a, _ => by simp [frN, prodN]
  | d :: ds, b :: bs, h, hb, a, ha => by
    have hp := prodN_pos (d := bs) fun y hy => hb y (List.mem_cons_of_mem _ hy)
    have ih := frN_lt h.2 (fun y hy => hb y (List.mem_cons_of_mem _ hy)) (a % prodN bs) (Nat.mod_lt _ hp)
    have hq : a / prodN bs < b := Nat.div_lt_of_lt_mul (by rw [Nat.mul_comm]; exact ha)
    have hk : (if d = 1 then 0 else a / prodN bs) < d := by
      rcases h.1 with e | e
      · rw [if_pos e]; omega
      · split <;> omega
    rw [frN, prodN]
    have := Nat.mul_le_mul_right (prodN ds) (show (if d = 1 then 0 else a / prodN bs) + 1 ≤ d from hk)
    rw [Nat.add_mul] at this
    omega
  | [], _ :: _, h, _, _, _ => h.elim
  | _ :: _, [], h, _, _, _ => h.elim
/-- How many of the first N numbers go to n. -/
def cnt (f : Nat → Nat) : Nat → Nat → Nat
  | 0, _ => 0
  | N + 1, n => cnt f N n + if f N = n then 1 else 0
theorem cnt_congr {f g : Nat → Nat} (n : Nat) : ∀ N, (∀ i, i < N → f i = g i) → cnt f N n = cnt g N n
  | 0, _ => rfl
  | N + 1, h => by rw [cnt, cnt, cnt_congr n N fun i hi => h i (by omega), h N (by omega)]
theorem cnt_add (f : Nat → Nat) (n a : Nat) : ∀ r, cnt f (a + r) n = cnt f a n + cnt (fun i => f (a + i)) r n
  | 0 => rfl
  | r + 1 => by rw [← Nat.add_assoc, cnt, cnt_add f n a r, cnt, Nat.add_assoc]
theorem cnt_block (f g h : Nat → Nat) (P S q m s : Nat) (hs : s < S) (hh : ∀ i, i < P → h i < S) (hf : ∀ i, i < P → f i = g q * S + h i) : cnt f P (m * S + s) = if g q = m then cnt h P s else 0 := by
  have key : ∀ N, N ≤ P → cnt f N (m * S + s) = if g q = m then cnt h N s else 0 := by
    intro N
    induction N with
    | zero => intro _; simp [cnt]
    | succ N ih =>
      intro hN
      have h1 := hh N (by omega)
      rw [cnt, ih (by omega), hf N (by omega), cnt]
      by_cases hq : g q = m
      · rw [if_pos hq, if_pos hq, hq]
        congr 1
        by_cases hc : h N = s
        · rw [if_pos hc, if_pos (by rw [hc])]
        · rw [if_neg hc, if_neg (by omega)]
      · rw [if_neg hq, if_neg hq, if_neg]
        intro e
        have e1 := congrArg (fun x => x / S) e
        simp only [Nat.mul_comm _ S, Nat.mul_add_div (show S > 0 by omega), Nat.div_eq_of_lt h1, Nat.div_eq_of_lt hs, Nat.add_zero] at e1
        exact hq e1
  exact key P (Nat.le_refl _)
theorem cnt_prod (f g h : Nat → Nat) (P S m s : Nat) (hs : s < S) (hh : ∀ i, i < P → h i < S) : ∀ B, (∀ q, q < B → ∀ i, i < P → f (q * P + i) = g q * S + h i) → cnt f (B * P) (m * S + s) = cnt g B m * cnt h P s
  | 0, _ => by simp [cnt]
  | B + 1, hf => by
    rw [Nat.add_mul, Nat.one_mul, cnt_add, cnt_prod f g h P S m s hs hh B (fun q hq => hf q (by omega)), cnt_block _ g h P S B m s hs hh (fun i hi => hf B (by omega) i hi), cnt, Nat.add_mul]
    congr 1
    split <;> simp
theorem cnt_const (B m : Nat) : cnt (fun _ => 0) B m = if m = 0 then B else 0 := by
  induction B with
  | zero => simp [cnt]
  | succ B ih =>
    rw [cnt, ih]
    by_cases h : m = 0
    · subst h; simp
    · rw [if_neg h, if_neg (by omega), if_neg h]
theorem cnt_id (B m : Nat) : cnt (fun i => i) B m = if m < B then 1 else 0 := by
  induction B with
  | zero => simp [cnt]
  | succ B ih =>
    rw [cnt, ih]
    by_cases h : m < B
    · rw [if_pos h, if_neg (by omega), if_pos (by omega)]
    · by_cases h' : B = m
      · rw [if_neg h, if_pos h', if_pos (by omega)]
      · rw [if_neg h, if_neg h', if_neg (by omega)]
/-- Each number of the smaller one is spread as often as the other ones. -/
theorem cnt_spread : ∀ {d b : List Nat}, Spread d b → (∀ x, x ∈ b → 1 ≤ x) → (∀ x, x ∈ d → 1 ≤ x) → ∀ n, n < prodN d → cnt (frN d b) (prodN b) n * prodN d = prodN b
  | [], [], _, _, _, n, hn => by
    simp only [prodN] at hn
    obtain rfl : n = 0 := by omega
    simp [cnt, frN, prodN]
  | d :: ds, b :: bs, h, hb, hd, n, hn => by
    have hb' : ∀ y, y ∈ bs → 1 ≤ y := fun y hy => hb y (List.mem_cons_of_mem _ hy)
    have hd' : ∀ y, y ∈ ds → 1 ≤ y := fun y hy => hd y (List.mem_cons_of_mem _ hy)
    have hp := prodN_pos hb'
    have hS := prodN_pos hd'
    have hd1 := hd d List.mem_cons_self
    have hs := Nat.mod_lt n hS
    have ih := cnt_spread h.2 hb' hd' (n % prodN ds) hs
    have hm : n / prodN ds < d := Nat.div_lt_of_lt_mul (by rw [Nat.mul_comm]; exact hn)
    have key := cnt_prod (frN (d :: ds) (b :: bs)) (fun q => if d = 1 then 0 else q) (frN ds bs) (prodN bs) (prodN ds) (n / prodN ds) (n % prodN ds) hs (fun i hi => frN_lt h.2 hb' i hi) b (fun q hq i hi => by
      rw [frN, Nat.mul_comm q, Nat.mul_add_div hp, Nat.div_eq_of_lt hi, Nat.add_zero, Nat.mul_add_mod, Nat.mod_eq_of_lt hi])
    rw [show n / prodN ds * prodN ds + n % prodN ds = n by rw [Nat.mul_comm]; exact Nat.div_add_mod n _] at key
    have hc : cnt (fun q => if d = 1 then 0 else q) b (n / prodN ds) * d = b := by
      by_cases e : d = 1
      · have : (fun q => if d = 1 then 0 else q) = fun _ => 0 := by funext q; rw [if_pos e]
        rw [this, cnt_const, if_pos (Nat.lt_one_iff.1 (by rw [← e]; exact hm)), e, Nat.mul_one]
      · have : (fun q => if d = 1 then 0 else q) = fun q => q := by funext q; rw [if_neg e]
        rw [this, cnt_id]
        rcases h.1 with e' | e'
        · exact absurd e' e
        · rw [if_pos (by omega), e', Nat.one_mul]
    rw [prodN, prodN, key]
    have e : ∀ u v : Nat, u * v * (d * prodN ds) = (u * d) * (v * prodN ds) := fun u v => by rw [Nat.mul_assoc, Nat.mul_assoc, Nat.mul_left_comm v d]
    rw [e, hc, ih]
  | [], _ :: _, h, _, _, _, _ => h.elim
  | _ :: _, [], h, _, _, _, _ => h.elim
/-- The same, of shapes of unlike length. -/
theorem cnt_from {d big : List Nat} (hd : ∀ x, x ∈ d → 1 ≤ x) (hb : ∀ x, x ∈ big → 1 ≤ x) (hf : fitsN d big) (hj : joinN d big = big) (n : Nat) (hn : n < prodN d) : cnt (fromN d big) (prodN big) n * prodN d = prodN big := by
  obtain ⟨hl, hs⟩ := join_big hd hb hf hj
  have := cnt_spread hs hb (by
    intro x hx
    rcases List.mem_append.1 hx with h | h
    · rw [(List.mem_replicate.1 h).2]; exact Nat.le_refl _
    · exact hd x h) n (by rw [prodN_pad]; exact hn)
  rw [prodN_pad] at this
  rw [cnt_congr n (prodN big) fun i _ => fromN_fr d big i hl]
  exact this
theorem fromN_lt {d big : List Nat} (hd : ∀ x, x ∈ d → 1 ≤ x) (hb : ∀ x, x ∈ big → 1 ≤ x) (hf : fitsN d big) (hj : joinN d big = big) (a : Nat) (ha : a < prodN big) : fromN d big a < prodN d := by
  obtain ⟨hl, hs⟩ := join_big hd hb hf hj
  rw [fromN_fr d big a hl, ← prodN_pad big.length d]
  exact frN_lt hs hb a ha
/-- A side of one ahead changes nothing. -/
theorem place_one (d : List Nat) (a : Nat) (h : a < prodN d) : placeN (1 :: d) a = 0 :: placeN d a := by
  rw [placeN, Nat.div_eq_of_lt h, Nat.mod_eq_of_lt h]
theorem pick_same : ∀ {d p : List Nat}, Inside d p → pickN d p = p
  | [], [], _ => rfl
  | d :: ds, p :: ps, h => by
    rw [pickN, pick_same h.2]
    congr 1
    have := h.1
    split <;> omega
  | [], _ :: _, h => h.elim
  | _ :: _, [], h => h.elim
theorem from_one (d : List Nat) (a : Nat) (hd : ∀ x, x ∈ d → 1 ≤ x) (h : a < prodN d) : fromN d (1 :: d) a = a := by
  unfold fromN
  rw [place_one d a h, List.length_cons, show d.length + 1 - d.length = 0 + 1 by omega, List.drop_succ_cons, List.drop_zero, pick_same (inside_place d a hd h), eval_place d a hd h]
theorem join_one {d : List Nat} (hd : ∀ x, x ∈ d → 1 ≤ x) : fitsN d (1 :: d) ∧ joinN d (1 :: d) = 1 :: d := by
  have e : ∀ i, 1 ≤ i → sideN (1 :: d) i = sideN d i := by
    have := padN_side (d.length + 1) d (by omega)
    rw [padN, show d.length + 1 - d.length = 1 by omega] at this
    exact this
  constructor
  · intro i h1 _
    left
    exact (e i h1).symm
  · refine ext_side (by rw [joinN_len]; simp) fun i h1 _ => ?_
    rw [joinN_side _ _ _ h1, e i h1, Nat.max_self]
end Go.Proofs.Ytimbidiogcfpeaa.Wd
namespace Go.Proofs.Ytimbidiogcfpeaa.Wd
open Go.RowKit
set_option linter.unusedVariables false
set_option linter.unusedSimpArgs false
def ntl (l : List Int) : List Nat := l.map Int.toNat
def itl (l : List Nat) : List Int := l.map fun (x : Nat) => (x : Int)
theorem ntl_len (l : List Int) : (ntl l).length = l.length := by simp [ntl]
theorem itl_len (l : List Nat) : (itl l).length = l.length := by simp [itl]
theorem ntl_itl (l : List Nat) : ntl (itl l) = l := by
  unfold ntl itl
  rw [List.map_map]
  exact (List.map_congr_left fun x _ => by simp).trans (List.map_id _)
theorem itl_ntl {l : List Int} (h : ∀ x, x ∈ ntl l → 1 ≤ x) : itl (ntl l) = l := by
  unfold ntl itl at *
  rw [List.map_map]
  refine (List.map_congr_left fun x hx => ?_).trans (List.map_id _)
  have := h x.toNat (List.mem_map.2 ⟨x, hx, rfl⟩)
  show ((x.toNat : Nat) : Int) = x
  omega
theorem itl_inj {a b : List Nat} (h : itl a = itl b) : a = b := by rw [← ntl_itl a, h, ntl_itl]
theorem getD_lt {α : Type} (l : List α) (k : Nat) (d : α) (h : k < l.length) : l.getD k d = l[k] := by
  rw [List.getD_eq_getElem?_getD, List.getElem?_eq_getElem h]
  rfl
theorem itl_getD (l : List Nat) (k : Nat) : (itl l).getD k 0 = ((l.getD k 0 : Nat) : Int) := by
  rw [List.getD_eq_getElem?_getD, List.getD_eq_getElem?_getD, itl, List.getElem?_map]
  cases l[k]? <;> rfl
theorem ntl_getD (l : List Int) (k : Nat) (h : k < l.length) : (ntl l).getD k 0 = (l.getD k 0).toNat := by
  rw [List.getD_eq_getElem?_getD, List.getD_eq_getElem?_getD, ntl, List.getElem?_map, List.getElem?_eq_getElem h]
  rfl
def sizeN (d : List Nat) : Nat := if goodN d then prodN d else 0
theorem sizeN_good {d : List Nat} (h : goodN d) : sizeN d = prodN d := if_pos h
theorem sizeN_bad {d : List Nat} (h : ¬ goodN d) : sizeN d = 0 := if_neg h
theorem goodN.pos {d : List Nat} (h : goodN d) : 1 ≤ prodN d := prodN_pos h.2.1
theorem sizeN_le (d : List Nat) : sizeN d ≤ 4096 := by
  unfold sizeN
  split
  · rename_i h; exact h.2.2
  · omega
theorem sizeN_iff (d : List Nat) : (0 < sizeN d) ↔ goodN d := by
  unfold sizeN
  split
  · rename_i h; have := h.pos; exact ⟨fun _ => h, fun _ => by omega⟩
  · rename_i h; exact ⟨fun h' => by omega, fun h' => absurd h' h⟩
/-- The product of the first k, and that they are not below 1. -/
def pK (l : List Int) (k : Nat) : Int := ((prodN ((ntl l).take k) : Nat) : Int)
def okK (l : List Int) (k : Nat) : Prop := ∀ i, i < k → 1 ≤ l.getD i 0
theorem pK_zero (l : List Int) : pK l 0 = 1 := rfl
theorem okK_zero (l : List Int) : okK l 0 := fun i h => absurd h (Nat.not_lt_zero _)
theorem pK_succ (l : List Int) (k : Nat) (hk : k < l.length) (h : 1 ≤ l.getD k 0) : pK l (k + 1) = pK l k * l.getD k 0 := by
  unfold pK
  rw [prodN_take_succ _ k (by rw [ntl_len]; exact hk), Int.natCast_mul]
  congr 1
  rw [← getD_lt (ntl l) k 0 (by rw [ntl_len]; exact hk), ntl_getD l k hk]
  omega
theorem okK_succ {l : List Int} {k : Nat} (h : okK l k) (hk : 1 ≤ l.getD k 0) : okK l (k + 1) := fun i hi => by
  rcases Nat.lt_succ_iff_lt_or_eq.1 hi with h' | rfl
  · exact h i h'
  · exact hk
theorem ntl_mem {l : List Int} {k : Nat} (hk : k < l.length) : (l.getD k 0).toNat ∈ ntl l := by
  rw [getD_lt l k 0 hk]
  exact List.mem_map.2 ⟨_, List.getElem_mem hk, rfl⟩
theorem bad_low {l : List Int} {k : Nat} (hk : k < l.length) (h : l.getD k 0 < 1) : ¬ goodN (ntl l) := fun hg => by
  have := hg.2.1 _ (ntl_mem hk)
  omega
theorem good_pK {l : List Int} (hg : goodN (ntl l)) (k : Nat) : 1 ≤ pK l k ∧ pK l k ≤ 4096 := by
  have h1 := prodN_take_le hg.2.1 k
  have h2 := prodN_pos (d := (ntl l).take k) fun x hx => hg.2.1 x (List.mem_of_mem_take hx)
  have h3 := hg.2.2
  unfold pK
  omega
theorem good_at {l : List Int} (hg : goodN (ntl l)) (k : Nat) (hk : k < l.length) : 1 ≤ l.getD k 0 ∧ l.getD k 0 ≤ 4096 := by
  have h1 := hg.2.1 _ (ntl_mem hk)
  have h2 := hg.le _ (ntl_mem hk)
  omega
theorem bad_great {l : List Int} {k : Nat} (hk : k < l.length) (h1 : 1 ≤ l.getD k 0) (h : 4096 < pK l k * l.getD k 0) : ¬ goodN (ntl l) := fun hg => by
  have := good_pK hg (k + 1)
  rw [pK_succ l k hk h1] at this
  omega
theorem good_end {l : List Int} (hl : l.length ≤ 4) (hok : okK l l.length) (h : pK l l.length ≤ 4096) : goodN (ntl l) ∧ pK l l.length = ((prodN (ntl l) : Nat) : Int) := by
  have e : (ntl l).take l.length = ntl l := List.take_of_length_le (by rw [ntl_len]; exact Nat.le_refl _)
  unfold pK at *
  rw [e] at h ⊢
  refine ⟨⟨by rw [ntl_len]; exact hl, fun x hx => ?_, by omega⟩, rfl⟩
  obtain ⟨y, hy, rfl⟩ := List.mem_map.1 hx
  obtain ⟨i, hi, rfl⟩ := List.mem_iff_getElem.1 hy
  have := hok i hi
  rw [getD_lt l i 0 hi] at this
  omega
theorem long_bad {l : List Int} (h : 4 < l.length) : ¬ goodN (ntl l) := fun hg => by
  have := hg.1
  rw [ntl_len] at this
  omega
/-- The quotient that a bound is held against. -/
theorem quo_le (x y : Int) (hx : 1 ≤ x) (hx2 : x ≤ 4096) (h : y ≤ 4096 / x) (hy : 1 ≤ y) : x * y ≤ 4096 ∧ 1 ≤ x * y := by
  have h1 : x * (4096 / x) ≤ 4096 := Int.mul_ediv_self_le (by omega)
  have h2 : x * y ≤ x * (4096 / x) := Int.mul_le_mul_of_nonneg_left h (by omega)
  have h3 : 1 * 1 ≤ x * y := Int.mul_le_mul hx hy (by omega) (by omega)
  omega
theorem quo_gt (x y : Int) (hx : 1 ≤ x) (hx2 : x ≤ 4096) (h : 4096 / x < y) : 4096 < x * y := by
  have h1 : 4096 < (4096 / x + 1) * x := Int.lt_mul_of_ediv_lt (by omega) (by omega)
  have h2 : x * (4096 / x + 1) ≤ x * y := Int.mul_le_mul_of_nonneg_left (by omega) (by omega)
  rw [Int.mul_comm] at h1
  omega
theorem mul_rng (x y : Int) (hx : 1 ≤ x) (hx2 : x ≤ 4096) (hy : 1 ≤ y) (hy2 : y ≤ 4096) : 1 ≤ x * y ∧ x * y ≤ 16777216 := by
  have h3 : 1 * 1 ≤ x * y := Int.mul_le_mul hx hy (by omega) (by omega)
  have h4 : x * y ≤ 4096 * 4096 := Int.mul_le_mul hx2 hy2 (by omega) (by omega)
  omega
/-- A row in the making, from its end on. -/
def rowB (L : List Int) (k : Nat) : List Int := List.replicate (L.length - k) 0 ++ L.drop (L.length - k)
theorem rowB_len (L : List Int) (k : Nat) : (rowB L k).length = L.length := by
  unfold rowB
  rw [List.length_append, List.length_replicate, List.length_drop]
  omega
theorem rowB_zero (L : List Int) : rowB L 0 = List.replicate L.length 0 := by simp [rowB]
theorem rowB_full (L : List Int) : rowB L L.length = L := by simp [rowB]
theorem rowB_set (L : List Int) (j k : Nat) (h : j + k + 1 = L.length) : (rowB L k).set j (L.getD j 0) = rowB L (k + 1) := by
  unfold rowB
  rw [show L.length - k = j + 1 by omega, show L.length - (k + 1) = j by omega, List.replicate_succ', List.append_assoc, List.set_append_right _ _ (by simp), List.length_replicate, Nat.sub_self, List.drop_eq_getElem_cons (show j < L.length by omega), getD_lt L j 0 (by omega)]
  rfl
/-- The product of the last k. -/
def sK (d : List Nat) (k : Nat) : Int := ((prodN (d.drop (d.length - k)) : Nat) : Int)
theorem sK_zero (d : List Nat) : sK d 0 = 1 := by simp [sK, prodN]
theorem sK_succ (d : List Nat) (j k : Nat) (h : j + k + 1 = d.length) : sK d (k + 1) = sK d k * ((d.getD j 0 : Nat) : Int) := by
  unfold sK
  rw [show d.length - k = j + 1 by omega, show d.length - (k + 1) = j by omega, prodN_drop_succ d j (by omega), Int.natCast_mul, Int.mul_comm, getD_lt d j 0 (by omega)]
theorem sK_rng {d : List Nat} (h : goodN d) (k : Nat) : 1 ≤ sK d k ∧ sK d k ≤ 4096 := by
  have h1 := prodN_drop_le h.2.1 (d.length - k)
  have h2 := prodN_pos (d := d.drop (d.length - k)) fun x hx => h.2.1 x (List.mem_of_mem_drop hx)
  have h3 := h.2.2
  unfold sK
  omega
theorem goodN.at {d : List Nat} (h : goodN d) (j : Nat) (hj : j < d.length) : 1 ≤ d.getD j 0 ∧ d.getD j 0 ≤ 4096 := by
  rw [getD_lt d j 0 hj]
  exact ⟨h.2.1 _ (List.getElem_mem hj), h.le _ (List.getElem_mem hj)⟩
def stridesI (d : List Int) : List Int := if goodN (ntl d) then itl (stridesN (ntl d)) else []
theorem strides_at (d : List Nat) (j k : Nat) (h : j + k + 1 = d.length) : (itl (stridesN d)).getD j 0 = sK d k := by
  rw [itl_getD, List.getD_eq_getElem?_getD, stridesN_get d j (by omega)]
  unfold sK
  rw [show d.length - k = j + 1 by omega]
  rfl
/-- What is left of a number behind the last k sides. -/
def aK (d : List Nat) (a k : Nat) : Int := ((a / prodN (d.drop (d.length - k)) : Nat) : Int)
theorem aK_zero (d : List Nat) (a : Nat) : aK d a 0 = (a : Int) := by simp [aK, prodN]
theorem aK_succ (d : List Nat) (a j k : Nat) (h : j + k + 1 = d.length) : aK d a (k + 1) = aK d a k / ((d.getD j 0 : Nat) : Int) := by
  unfold aK
  rw [show d.length - k = j + 1 by omega, show d.length - (k + 1) = j by omega, ← div_drop d a j (by omega), getD_lt d j 0 (by omega), Int.natCast_ediv]
theorem aK_rng (d : List Nat) (a k : Nat) (h : a < 4096) : 0 ≤ aK d a k ∧ aK d a k < 4096 := by
  have := Nat.div_le_self a (prodN (d.drop (d.length - k)))
  unfold aK
  generalize a / prodN (d.drop (d.length - k)) = q at *
  omega
def placeI (d : List Int) (a : Int) : List Int := if 0 ≤ a ∧ a < ((sizeN (ntl d) : Nat) : Int) then itl (placeN (ntl d) a.toNat) else []
theorem place_at {d : List Nat} (hg : goodN d) (a j k : Nat) (ha : a < prodN d) (h : j + k + 1 = d.length) : (itl (placeN d a)).getD j 0 = aK d a k % ((d.getD j 0 : Nat) : Int) := by
  rw [itl_getD, List.getD_eq_getElem?_getD, placeN_get d a j hg.2.1 ha (by omega)]
  unfold aK
  rw [show d.length - k = j + 1 by omega, getD_lt d j 0 (by omega)]
  simp
/-- Is it a place? -/
def inB : List Int → List Int → Bool
  | d :: ds, p :: ps => decide (0 ≤ p ∧ p < d) && inB ds ps
  | [], [] => true
  | _, _ => false
theorem inB_len : ∀ {d p : List Int}, inB d p = true → p.length = d.length
  | [], [], _ => rfl
  | _ :: ds, _ :: ps, h => by
    simp only [inB, Bool.and_eq_true] at h
    simp [inB_len h.2]
  | [], _ :: _, h => by simp [inB] at h
  | _ :: _, [], h => by simp [inB] at h
theorem inB_get : ∀ {d p : List Int}, inB d p = true → ∀ k, k < d.length → 0 ≤ p.getD k 0 ∧ p.getD k 0 < d.getD k 0
  | d :: ds, p :: ps, h, 0, _ => by
    simp only [inB, Bool.and_eq_true, decide_eq_true_eq] at h
    exact h.1
  | d :: ds, p :: ps, h, k + 1, hk => by
    simp only [inB, Bool.and_eq_true] at h
    simpa using inB_get h.2 k (by simpa using hk)
  | [], _, _, k, hk => by simp at hk
  | _ :: _, [], h, _, _ => by simp [inB] at h
theorem inB_of : ∀ {d p : List Int}, p.length = d.length → (∀ k, k < d.length → 0 ≤ p.getD k 0 ∧ p.getD k 0 < d.getD k 0) → inB d p = true
  | [], [], _, _ => rfl
  | d :: ds, p :: ps, hl, h => by
    simp only [inB, Bool.and_eq_true, decide_eq_true_eq]
    exact ⟨h 0 (by simp), inB_of (by simpa using hl) fun k hk => by simpa using h (k + 1) (by simpa using hk)⟩
  | [], _ :: _, hl, _ => by simp at hl
  | _ :: _, [], hl, _ => by simp at hl
theorem inB_inside : ∀ {d p : List Int}, inB d p = true → Inside (ntl d) (ntl p)
  | [], [], _ => trivial
  | d :: ds, p :: ps, h => by
    simp only [inB, Bool.and_eq_true, decide_eq_true_eq] at h
    exact ⟨by have := h.1; show p.toNat < d.toNat; omega, inB_inside h.2⟩
  | [], _ :: _, h => by simp [inB] at h
  | _ :: _, [], h => by simp [inB] at h
theorem inside_inB : ∀ {d p : List Nat}, Inside d p → inB (itl d) (itl p) = true
  | [], [], _ => rfl
  | d :: ds, p :: ps, h => by
    have h1 := h.1
    have h2 := inside_inB h.2
    unfold itl at *
    simp only [List.map_cons, inB, h2, Bool.and_true, decide_eq_true_eq]
    omega
  | [], _ :: _, h => h.elim
  | _ :: _, [], h => h.elim
def atB (d p : List Int) : Bool := decide (goodN (ntl d)) && inB d p
def atI (d p : List Int) : Int := if atB d p = true then ((evalN (ntl d) (ntl p) : Nat) : Int) else 0
/-- What a walk from the first side on has reckoned. -/
def hK (d p : List Int) (k : Nat) : Int := ((hornK (ntl d) (ntl p) k : Nat) : Int)
theorem hK_succ (d p : List Int) (k : Nat) (hd : k < d.length) (hp : k < p.length) (h1 : 0 ≤ d.getD k 0) (h2 : 0 ≤ p.getD k 0) : hK d p (k + 1) = hK d p k * d.getD k 0 + p.getD k 0 := by
  unfold hK
  rw [hornK, ntl_getD d k hd, ntl_getD p k hp, Int.natCast_add, Int.natCast_mul]
  congr 1
  · congr 1; omega
  · omega
/-- So far it is a place: then what was reckoned is below the product of the sides. -/
theorem hK_lt {d p : List Int} (hl : p.length = d.length) (k : Nat) (hk : k ≤ d.length) (h : ∀ i, i < k → 0 ≤ p.getD i 0 ∧ p.getD i 0 < d.getD i 0) : 0 ≤ hK d p k ∧ hK d p k < pK d k := by
  induction k with
  | zero => simp [hK, hornK, pK, prodN]
  | succ k ih =>
    have ih := ih (by omega) fun i hi => h i (by omega)
    have hk' := h k (by omega)
    rw [hK_succ d p k (by omega) (by omega) (by omega) hk'.1, pK_succ d k (by omega) (by omega)]
    have h0 : 0 ≤ hK d p k * d.getD k 0 := Int.mul_nonneg ih.1 (by omega)
    have h1 : (hK d p k + 1) * d.getD k 0 ≤ pK d k * d.getD k 0 := Int.mul_le_mul_of_nonneg_right (by omega) (by omega)
    rw [Int.add_mul, Int.one_mul] at h1
    omega
theorem hK_full {d p : List Int} (hl : p.length = d.length) : hK d p d.length = ((evalN (ntl d) (ntl p) : Nat) : Int) := by
  unfold hK
  rw [← ntl_len d, hornK_full _ _ (by rw [ntl_len, ntl_len]; exact hl)]
/-- Do two fit, by looking. -/
def fitsB (a b : List Nat) : Bool := (List.range (max a.length b.length + 1)).all fun i => decide (i = 0) || decide (fitN (sideN a i) (sideN b i))
theorem fitsB_iff (a b : List Nat) : fitsB a b = true ↔ fitsN a b := by
  unfold fitsB fitsN
  rw [List.all_eq_true]
  constructor
  · intro h i h1 h2
    have := h i (List.mem_range.2 (by omega))
    rw [Bool.or_eq_true, decide_eq_true_eq, decide_eq_true_eq] at this
    rcases this with h' | h'
    · omega
    · exact h'
  · intro h i hi
    have hi := List.mem_range.1 hi
    rw [Bool.or_eq_true, decide_eq_true_eq, decide_eq_true_eq]
    by_cases h0 : i = 0
    · exact .inl h0
    · exact .inr (h i (by omega) (by omega))
/-- What two spread to, and the error. -/
def joinL (a b : List Int) : List Int := if goodN (ntl a) ∧ goodN (ntl b) ∧ fitsB (ntl a) (ntl b) = true ∧ goodN (joinN (ntl a) (ntl b)) then itl (joinN (ntl a) (ntl b)) else []
def joinE (a b : List Int) : Int := if goodN (ntl a) ∧ goodN (ntl b) then if fitsB (ntl a) (ntl b) = true then if goodN (joinN (ntl a) (ntl b)) then 0 else 2 else 4 else 1
theorem join_none {a b : List Int} (h : ¬ (goodN (ntl a) ∧ goodN (ntl b))) : joinL a b = [] ∧ joinE a b = 1 := ⟨if_neg fun h' => h ⟨h'.1, h'.2.1⟩, if_neg h⟩
theorem join_unlike {a b : List Nat} (ha : goodN a) (hb : goodN b) (h : ¬ fitsN a b) : joinL (itl a) (itl b) = [] ∧ joinE (itl a) (itl b) = 4 := by
  unfold joinL joinE
  rw [ntl_itl, ntl_itl]
  exact ⟨if_neg fun h' => h ((fitsB_iff a b).1 h'.2.2.1), by rw [if_pos ⟨ha, hb⟩, if_neg fun h' => h ((fitsB_iff a b).1 h')]⟩
theorem join_great {a b : List Nat} (ha : goodN a) (hb : goodN b) (hf : fitsN a b) (h : ¬ goodN (joinN a b)) : joinL (itl a) (itl b) = [] ∧ joinE (itl a) (itl b) = 2 := by
  unfold joinL joinE
  rw [ntl_itl, ntl_itl]
  exact ⟨if_neg fun h' => h h'.2.2.2, by rw [if_pos ⟨ha, hb⟩, if_pos ((fitsB_iff a b).2 hf), if_neg h]⟩
theorem join_fine {a b : List Nat} (ha : goodN a) (hb : goodN b) (hf : fitsN a b) (h : goodN (joinN a b)) : joinL (itl a) (itl b) = itl (joinN a b) ∧ joinE (itl a) (itl b) = 0 := by
  unfold joinL joinE
  rw [ntl_itl, ntl_itl]
  exact ⟨if_pos ⟨ha, hb, (fitsB_iff a b).2 hf, h⟩, by rw [if_pos ⟨ha, hb⟩, if_pos ((fitsB_iff a b).2 hf), if_pos h]⟩
theorem side_at (d : List Nat) (k : Nat) (h1 : 1 ≤ k) (h : k ≤ d.length) : (itl d).getD (d.length - k) 0 = ((sideN d k : Nat) : Int) := by
  rw [itl_getD]
  unfold sideN
  rw [if_pos h, getD_lt d _ 0 (by omega), getD_lt d _ 1 (by omega)]
theorem side_rng {d : List Nat} (h : goodN d) (k : Nat) : 1 ≤ sideN d k ∧ sideN d k ≤ 4096 := by
  refine ⟨sideN_pos h.2.1 k, ?_⟩
  unfold sideN
  split
  · rw [List.getD_eq_getElem?_getD]
    cases hc : d[d.length - k]? with
    | none => show 1 ≤ 4096; omega
    | some x => exact h.le x (List.mem_of_getElem? hc)
  · omega
theorem join_at (a b : List Nat) (j k : Nat) (h : j + k + 1 = max a.length b.length) : (itl (joinN a b)).getD j 0 = ((max (sideN a (k + 1)) (sideN b (k + 1)) : Nat) : Int) := by
  have := side_at (joinN a b) (k + 1) (by omega) (by rw [joinN_len]; omega)
  rw [joinN_len, show max a.length b.length - (k + 1) = j by omega, joinN_side _ _ _ (by omega)] at this
  exact this
/-- The side that two sides spread to, and whether they do. -/
def jnd (x y : Int) : Int := if x = 1 then y else x
def jok (x y : Int) : Bool := decide (x = 1 ∨ y = 1 ∨ x = y)
theorem jok_fit (x y : Nat) : jok (x : Int) (y : Int) = decide (fitN x y) := by
  unfold jok fitN
  exact decide_eq_decide.2 (by omega)
theorem jnd_max (x y : Nat) (hx : 1 ≤ x) (hy : 1 ≤ y) (h : fitN x y) : jnd (x : Int) (y : Int) = ((max x y : Nat) : Int) := by
  unfold jnd fitN at *
  split <;> omega
end Go.Proofs.Ytimbidiogcfpeaa.Wd
namespace Go.Proofs.Ytimbidiogcfpeaa.Wd
open Go.RowKit
set_option linter.unusedVariables false
set_option linter.unusedSimpArgs false
theorem joinE_zero {a b : List Int} (h : joinE a b = 0) : goodN (ntl a) ∧ goodN (ntl b) ∧ fitsN (ntl a) (ntl b) ∧ goodN (joinN (ntl a) (ntl b)) := by
  unfold joinE at h
  split at h
  · rename_i h1
    split at h
    · rename_i h2
      split at h
      · rename_i h3; exact ⟨h1.1, h1.2, (fitsB_iff _ _).1 h2, h3⟩
      · omega
    · omega
  · omega
theorem joinE_rng (a b : List Int) : 0 ≤ joinE a b ∧ joinE a b ≤ 4 := by
  unfold joinE
  split
  · split
    · split <;> omega
    · omega
  · omega
theorem joinL_len (a b : List Int) : (joinL a b).length ≤ 4 := by
  unfold joinL
  split
  · rename_i h; rw [itl_len]; exact h.2.2.2.1
  · simp
theorem joinL_rng (a b : List Int) : ∀ y, y ∈ joinL a b → 0 ≤ y ∧ y ≤ 4096 := by
  unfold joinL
  split
  · rename_i h
    intro y hy
    obtain ⟨x, hx, rfl⟩ := List.mem_map.1 hy
    have := h.2.2.2.le x hx
    omega
  · intro y hy; simp at hy
theorem spread_side {d big : List Nat} (hd : ∀ x, x ∈ d → 1 ≤ x) (hf : fitsN d big) (hj : joinN d big = big) (i : Nat) (h1 : 1 ≤ i) : sideN d i = 1 ∨ sideN d i = sideN big i := by
  have h2 := congrArg (fun l => sideN l i) hj
  simp only [joinN_side _ _ _ h1] at h2
  by_cases hi : i ≤ max d.length big.length
  · have h3 := hf i h1 hi
    have := sideN_pos hd i
    unfold fitN at h3
    omega
  · left; exact sideN_far d i (by omega)
theorem join_le {d big : List Nat} (hj : joinN d big = big) : d.length ≤ big.length := by
  have := congrArg List.length hj
  rw [joinN_len] at this
  omega
theorem getD_side (d : List Nat) (j k : Nat) (h : j + k + 1 = d.length) : d.getD j 0 = sideN d (k + 1) := by
  have := side_at d (k + 1) (by omega) (by omega)
  rw [show d.length - (k + 1) = j by omega, itl_getD] at this
  omega
/-- The place that is spread to the place a of big. -/
def qN (d big : List Nat) (a : Nat) : List Nat := pickN d ((placeN big a).drop (big.length - d.length))
theorem qN_len (d big : List Nat) (a : Nat) (h : d.length ≤ big.length) : (qN d big a).length = d.length := pickN_len _ _ (by rw [List.length_drop, placeN_len]; omega)
theorem qN_at {d big : List Nat} (hb : goodN big) (h : d.length ≤ big.length) (a j k : Nat) (ha : a < prodN big) (hj : j + k + 1 = d.length) : ((qN d big a).getD j 0 : Nat) = if sideN d (k + 1) = 1 then 0 else a / prodN (big.drop (big.length - k)) % sideN big (k + 1) := by
  have e1 : d[j]? = some (sideN d (k + 1)) := by
    rw [← getD_side d j k hj, List.getElem?_eq_getElem (by omega), getD_lt d j 0 (by omega)]
  have e2 : ((placeN big a).drop (big.length - d.length))[j]? = some (a / prodN (big.drop (big.length - k)) % sideN big (k + 1)) := by
    rw [List.getElem?_drop, placeN_get big a _ hb.2.1 ha (by omega), ← getD_lt big _ 0 (by omega), getD_side big (big.length - d.length + j) k (by omega), show big.length - d.length + j + 1 = big.length - k by omega]
  rw [List.getD_eq_getElem?_getD, qN, pickN_get d _ j _ _ e1 e2]
  rfl
theorem qN_mod {d big : List Nat} (hd : ∀ x, x ∈ d → 1 ≤ x) (hb : goodN big) (hf : fitsN d big) (hjn : joinN d big = big) (a j k : Nat) (ha : a < prodN big) (hj : j + k + 1 = d.length) : (((qN d big a).getD j 0 : Nat) : Int) = aK big a k % ((sideN big (k + 1) : Nat) : Int) % ((sideN d (k + 1) : Nat) : Int) := by
  rw [qN_at hb (join_le hjn) a j k ha hj]
  unfold aK
  rw [← Int.natCast_emod, ← Int.natCast_emod]
  congr 1
  rcases spread_side hd hf hjn (k + 1) (by omega) with h | h
  · rw [if_pos h, h, Nat.mod_one]
  · by_cases h1 : sideN d (k + 1) = 1
    · rw [if_pos h1, h1, Nat.mod_one]
    · rw [if_neg h1, h, Nat.mod_mod]
/-- What a walk from the last side on has reckoned. -/
def fK (d q : List Nat) (k : Nat) : Int := ((evalN (d.drop (d.length - k)) (q.drop (d.length - k)) : Nat) : Int)
theorem fK_zero (d q : List Nat) : fK d q 0 = 0 := by
  unfold fK
  rw [Nat.sub_zero, List.drop_length]
  cases (q.drop d.length) <;> rfl
theorem fK_succ (d q : List Nat) (hq : q.length = d.length) (j k : Nat) (h : j + k + 1 = d.length) : fK d q (k + 1) = fK d q k + ((q.getD j 0 : Nat) : Int) * sK d k := by
  unfold fK sK
  rw [show d.length - (k + 1) = j by omega, show d.length - k = j + 1 by omega, List.drop_eq_getElem_cons (show j < d.length by omega), List.drop_eq_getElem_cons (show j < q.length by omega), evalN, getD_lt q j 0 (by omega), Int.natCast_add, Int.natCast_mul, Int.add_comm]
theorem fK_full (d big : List Nat) (a : Nat) : fK d (qN d big a) d.length = ((fromN d big a : Nat) : Int) := by
  unfold fK
  rw [Nat.sub_self, List.drop_zero, List.drop_zero]
  rfl
/-- The same, of a walk from the first side on. -/
theorem hornK_from (d big : List Nat) (a : Nat) (h : d.length ≤ big.length) : hornK d (qN d big a) d.length = fromN d big a := hornK_full _ _ (qN_len d big a h)
theorem qN_inside {d big : List Nat} (hd : goodN d) (hb : goodN big) (hf : fitsN d big) (hjn : joinN d big = big) (a : Nat) (ha : a < prodN big) : Inside d (qN d big a) := by
  refine inside_of (qN_len d big a (join_le hjn)) fun j x y hx hy => ?_
  have hj : j < d.length := (List.getElem?_eq_some_iff.1 hx).1
  obtain ⟨k, hk⟩ : ∃ k, j + k + 1 = d.length := ⟨d.length - 1 - j, by omega⟩
  have h1 := qN_mod hd.2.1 hb hf hjn a j k ha hk
  have h2 := getD_side d j k hk
  rw [List.getD_eq_getElem?_getD, hy] at h1
  rw [List.getD_eq_getElem?_getD, hx] at h2
  have h3 : x = sideN d (k + 1) := h2
  have h4 : ((y : Nat) : Int) = _ := h1
  have h5 := Int.emod_lt_of_pos (aK big a k % ((sideN big (k + 1) : Nat) : Int)) (show 0 < ((sideN d (k + 1) : Nat) : Int) by have := sideN_pos hd.2.1 (k + 1); omega)
  omega
def gK (d q : List Nat) (k : Nat) : Int := ((hornK d q k : Nat) : Int)
theorem gK_succ (d q : List Nat) (k : Nat) : gK d q (k + 1) = gK d q k * ((d.getD k 0 : Nat) : Int) + ((q.getD k 0 : Nat) : Int) := by
  unfold gK
  rw [hornK, Int.natCast_add, Int.natCast_mul]
theorem gK_rng {d q : List Nat} (hd : goodN d) (h : Inside d q) (k : Nat) (hk : k ≤ d.length) : 0 ≤ gK d q k ∧ gK d q k < 4096 := by
  have h1 := hornK_le h hd.2.1 k hk
  have h2 := prodN_take_le hd.2.1 k
  have h3 := hd.2.2
  unfold gK
  omega
/-- A number of the spread place, by big's place. -/
theorem qN_pick {d big : List Nat} (h : d.length ≤ big.length) (a i : Nat) (hi : i < d.length) : (((qN d big a).getD i 0 : Nat) : Int) = if ((d.getD i 0 : Nat) : Int) = 1 then 0 else (itl (placeN big a)).getD (big.length - d.length + i) 0 := by
  have hl := placeN_len big a
  have e1 : d[i]? = some (d.getD i 0) := by rw [List.getElem?_eq_getElem hi, getD_lt d i 0 hi]
  have e2 : ((placeN big a).drop (big.length - d.length))[i]? = some ((placeN big a).getD (big.length - d.length + i) 0) := by
    rw [List.getElem?_drop, List.getElem?_eq_getElem (by omega), getD_lt _ _ 0 (by omega)]
  rw [itl_getD, List.getD_eq_getElem?_getD, qN, pickN_get d _ i _ _ e1 e2]
  simp only [Option.getD_some]
  by_cases h1 : d.getD i 0 = 1
  · rw [if_pos h1, if_pos (by rw [h1]; rfl)]; rfl
  · rw [if_neg h1, if_neg (by omega)]
def fromB (d big : List Int) (a : Int) : Bool := decide (joinE d big = 0 ∧ joinL d big = big ∧ 0 ≤ a ∧ a < ((sizeN (ntl big) : Nat) : Int))
def fromI (d big : List Int) (a : Int) : Int := if fromB d big a = true then ((fromN (ntl d) (ntl big) a.toNat : Nat) : Int) else 0
theorem from_no {d big : List Int} {a : Int} (h : ¬ (joinE d big = 0 ∧ joinL d big = big ∧ 0 ≤ a ∧ a < ((sizeN (ntl big) : Nat) : Int))) : fromB d big a = false ∧ fromI d big a = 0 := by
  have h1 : fromB d big a = false := decide_eq_false h
  refine ⟨h1, ?_⟩
  unfold fromI
  rw [h1]
  rfl
/-- A place that is spread somewhere: all that is known of it. -/
theorem from_yes {d big : List Int} {a : Int} (h : joinE d big = 0 ∧ joinL d big = big ∧ 0 ≤ a ∧ a < ((sizeN (ntl big) : Nat) : Int)) : ∃ (x y : List Nat) (m : Nat), d = itl x ∧ big = itl y ∧ a = (m : Int) ∧ goodN x ∧ goodN y ∧ fitsN x y ∧ joinN x y = y ∧ m < prodN y ∧ fromB d big a = true ∧ fromI d big a = ((fromN x y m : Nat) : Int) := by
  have h0 := joinE_zero h.1
  obtain ⟨m, rfl⟩ := Int.eq_ofNat_of_zero_le h.2.2.1
  have hB : fromB d big (m : Int) = true := decide_eq_true h
  have hj : joinN (ntl d) (ntl big) = ntl big := by
    have := h.2.1
    unfold joinL at this
    rw [if_pos ⟨h0.1, h0.2.1, (fitsB_iff _ _).2 h0.2.2.1, h0.2.2.2⟩] at this
    have := congrArg ntl this
    rw [ntl_itl] at this
    exact this
  refine ⟨ntl d, ntl big, m, (itl_ntl h0.1.2.1).symm, (itl_ntl h0.2.1.2.1).symm, rfl, h0.1, h0.2.1, h0.2.2.1, hj, ?_, hB, ?_⟩
  · have := h.2.2.2
    rw [sizeN_good h0.2.1] at this
    exact Int.ofNat_lt.1 this
  · unfold fromI
    rw [if_pos hB]
    rfl
theorem mod_rng (x y : Int) (hy : 1 ≤ y) : 0 ≤ x % y ∧ x % y < y := ⟨Int.emod_nonneg _ (by omega), Int.emod_lt_of_pos _ (by omega)⟩
theorem mul_small (x y : Int) (hx : 0 ≤ x) (hx2 : x ≤ 4096) (hy : 0 ≤ y) (hy2 : y ≤ 4096) : 0 ≤ x * y ∧ x * y ≤ 16777216 := by
  have h1 : 0 ≤ x * y := Int.mul_nonneg hx hy
  have h2 : x * y ≤ 4096 * 4096 := Int.mul_le_mul hx2 hy2 hy (by omega)
  omega
end Go.Proofs.Ytimbidiogcfpeaa.Wd
