/- Shapes, as lists of numbers: sizes, places, what two spread to, what is spread where, how often. Nothing of the program is named here. -/
import Derived.RowKit
namespace Go.Proofs.Ytbndiadgnglkhaa.Wd
open Go.RowKit
set_option linter.unusedVariables false
set_option linter.unusedSimpArgs false
def prodN : List Nat → Nat
  | [] => 1
  | d :: ds => d * prodN ds
theorem prodN_append : ∀ a b : List Nat, prodN (a ++ b) = prodN a * prodN b
  | [], b => by simp [prodN]
  | d :: a, b => by simp [prodN, prodN_append a b, Nat.mul_assoc]
theorem prodN_pos : ∀ {d : List Nat}, (∀ x, x ∈ d → 1 ≤ x) → 1 ≤ prodN d
  | [], _ => Nat.le_refl _
  | x :: d, h => by
    have h1 := h x List.mem_cons_self
    have h2 := prodN_pos (d := d) fun y hy => h y (List.mem_cons_of_mem _ hy)
    exact Nat.mul_pos h1 h2
/-- A shape's numbers. -/
abbrev goodN (d : List Nat) : Prop := d.length ≤ 4 ∧ (∀ x, x ∈ d → 1 ≤ x) ∧ prodN d ≤ 4096
theorem mem_le_prodN : ∀ {d : List Nat}, (∀ x, x ∈ d → 1 ≤ x) → ∀ x, x ∈ d → x ≤ prodN d
  | y :: d, h, x, hx => by
    have hp := prodN_pos (d := d) fun y hy => h y (List.mem_cons_of_mem _ hy)
    have hy := h y List.mem_cons_self
    rcases List.mem_cons.1 hx with rfl | hx
    · exact Nat.le_mul_of_pos_right _ hp
    · exact Nat.le_trans (mem_le_prodN (fun y hy => h y (List.mem_cons_of_mem _ hy)) x hx) (Nat.le_mul_of_pos_left _ hy)
theorem goodN.le {d : List Nat} (h : goodN d) : ∀ x, x ∈ d → x ≤ 4096 := fun x hx => Nat.le_trans (mem_le_prodN h.2.1 x hx) h.2.2
theorem prodN_take_le {d : List Nat} (h : ∀ x, x ∈ d → 1 ≤ x) (k : Nat) : prodN (d.take k) ≤ prodN d := by
  have e : prodN d = prodN (d.take k) * prodN (d.drop k) := by rw [← prodN_append, List.take_append_drop]
  have := prodN_pos (d := d.drop k) fun x hx => h x (List.mem_of_mem_drop hx)
  rw [e]
  exact Nat.le_mul_of_pos_right _ this
theorem prodN_drop_le {d : List Nat} (h : ∀ x, x ∈ d → 1 ≤ x) (k : Nat) : prodN (d.drop k) ≤ prodN d := by
  have e : prodN d = prodN (d.take k) * prodN (d.drop k) := by rw [← prodN_append, List.take_append_drop]
  have := prodN_pos (d := d.take k) fun x hx => h x (List.mem_of_mem_take hx)
  rw [e]
  exact Nat.le_mul_of_pos_left _ this
theorem prodN_take_succ (d : List Nat) (k : Nat) (h : k < d.length) : prodN (d.take (k + 1)) = prodN (d.take k) * d[k] := by
  rw [List.take_succ_eq_append_getElem h, prodN_append]
  simp [prodN]
theorem prodN_drop_succ (d : List Nat) (k : Nat) (h : k < d.length) : prodN (d.drop k) = d[k] * prodN (d.drop (k + 1)) := by
  rw [List.drop_eq_getElem_cons h]
  rfl
/-- How far it is from one to the next along each. -/
def stridesN : List Nat → List Nat
  | [] => []
  | _ :: ds => prodN ds :: stridesN ds
theorem stridesN_len : ∀ d, (stridesN d).length = d.length
  | [] => rfl
  | _ :: ds => by simp [stridesN, stridesN_len ds]
theorem stridesN_get : ∀ (d : List Nat) (k : Nat), k < d.length → (stridesN d)[k]? = some (prodN (d.drop (k + 1)))
  | [], k, h => by simp at h
  | _ :: ds, 0, h => by simp [stridesN]
  | _ :: ds, k + 1, h => by
    simp only [stridesN, List.getElem?_cons_succ, List.drop_succ_cons]
    exact stridesN_get ds k (by simpa using h)
/-- The number of a place, and back. -/
def evalN : List Nat → List Nat → Nat
  | _ :: ds, p :: ps => p * prodN ds + evalN ds ps
  | _, _ => 0
def placeN : List Nat → Nat → List Nat
  | [], _ => []
  | _ :: ds, at_ => at_ / prodN ds :: placeN ds (at_ % prodN ds)
theorem placeN_len : ∀ d a, (placeN d a).length = d.length
  | [], _ => rfl
  | _ :: ds, a => by simp [placeN, placeN_len ds]
theorem eval_place : ∀ (d : List Nat) (a : Nat), (∀ x, x ∈ d → 1 ≤ x) → a < prodN d → evalN d (placeN d a) = a
  | [], a, _, h => by simp [prodN] at h; simp [evalN, h]
  | x :: ds, a, h, ha => by
    have hp := prodN_pos (d := ds) fun y hy => h y (List.mem_cons_of_mem _ hy)
    rw [placeN, evalN, eval_place ds _ (fun y hy => h y (List.mem_cons_of_mem _ hy)) (Nat.mod_lt _ hp), Nat.mul_comm]
    exact Nat.div_add_mod a (prodN ds)
/-- Each number of a place is below its side. -/
def Inside : List Nat → List Nat → Prop
  | d :: ds, p :: ps => p < d ∧ Inside ds ps
  | [], [] => True
  | _, _ => False
theorem inside_place : ∀ (d : List Nat) (a : Nat), (∀ x, x ∈ d → 1 ≤ x) → a < prodN d → Inside d (placeN d a)
  | [], _, _, _ => trivial
  | x :: ds, a, h, ha => by
    have hp := prodN_pos (d := ds) fun y hy => h y (List.mem_cons_of_mem _ hy)
    refine ⟨Nat.div_lt_of_lt_mul (by rw [Nat.mul_comm]; exact ha), inside_place ds _ (fun y hy => h y (List.mem_cons_of_mem _ hy)) (Nat.mod_lt _ hp)⟩
theorem inside_len : ∀ {d p : List Nat}, Inside d p → p.length = d.length
  | [], [], _ => rfl
  | _ :: ds, _ :: ps, h => by simp [inside_len h.2]
  | [], _ :: _, h => h.elim
  | _ :: _, [], h => h.elim
theorem inside_get : ∀ {d p : List Nat}, Inside d p → ∀ (k : Nat) (x y : Nat), d[k]? = some x → p[k]? = some y → y < x
  | _ :: _, _ :: _, h, 0, x, y, hx, hy => by
    simp at hx hy
    subst hx hy
    exact h.1
  | _ :: ds, _ :: ps, h, k + 1, x, y, hx, hy => inside_get h.2 k x y (by simpa using hx) (by simpa using hy)
  | [], [], _, k, x, y, hx, _ => by simp at hx
  | [], _ :: _, h, _, _, _, _, _ => h.elim
  | _ :: _, [], h, _, _, _, _, _ => h.elim
theorem inside_of : ∀ {d p : List Nat}, p.length = d.length → (∀ (k : Nat) (x y : Nat), d[k]? = some x → p[k]? = some y → y < x) → Inside d p
  | [], [], _, _ => trivial
  | d :: ds, p :: ps, hl, h => ⟨h 0 d p rfl rfl, inside_of (by simpa using hl) fun k x y hx hy => h (k + 1) x y (by simpa using hx) (by simpa using hy)⟩
  | [], _ :: _, hl, _ => by simp at hl
  | _ :: _, [], hl, _ => by simp at hl
theorem eval_lt : ∀ {d p : List Nat}, Inside d p → evalN d p < prodN d
  | [], [], _ => by simp [evalN, prodN]
  | d :: ds, p :: ps, h => by
    have h1 := eval_lt h.2
    have h2 : (p + 1) * prodN ds ≤ d * prodN ds := Nat.mul_le_mul_right _ h.1
    rw [Nat.add_mul] at h2
    simp only [evalN, prodN]
    omega
  | [], _ :: _, h => h.elim
  | _ :: _, [], h => h.elim
/-- Place by place: what a walk from the first side on reckons. -/
def hornN : Nat → List Nat → List Nat → Nat
  | acc, d :: ds, p :: ps => hornN (acc * d + p) ds ps
  | acc, _, _ => acc
theorem horn_eval : ∀ (acc : Nat) (d p : List Nat), p.length = d.length → hornN acc d p = acc * prodN d + evalN d p
  | acc, [], [], _ => by simp [hornN, prodN, evalN]
  | acc, d :: ds, p :: ps, h => by
    rw [hornN, horn_eval _ ds ps (by simpa using h), prodN, evalN, Nat.add_mul, Nat.mul_assoc]
    omega
  | acc, [], _ :: _, h => by simp at h
  | acc, _ :: _, [], h => by simp at h
/-- The same, of the first k sides. -/
def hornK (d p : List Nat) : Nat → Nat
  | 0 => 0
  | k + 1 => hornK d p k * d.getD k 0 + p.getD k 0
theorem hornK_eq (d p : List Nat) (h : p.length = d.length) : ∀ k, k ≤ d.length → hornN (hornK d p k) (d.drop k) (p.drop k) = hornN 0 d p
  | 0, _ => by simp [hornK]
  | k + 1, hk => by
    rw [← hornK_eq d p h k (by omega), List.drop_eq_getElem_cons (show k < d.length by omega), List.drop_eq_getElem_cons (show k < p.length by omega), hornN, hornK]
    simp [List.getD_eq_getElem?_getD, List.getElem?_eq_getElem (show k < d.length by omega), List.getElem?_eq_getElem (show k < p.length by omega)]
theorem hornK_full (d p : List Nat) (h : p.length = d.length) : hornK d p d.length = evalN d p := by
  have := hornK_eq d p h d.length (Nat.le_refl _)
  rw [List.drop_length, hornN] at this
  · rw [this, horn_eval 0 d p h]
    simp
  · intro _ _ _ _ h1 _
    cases h1
theorem hornK_le {d p : List Nat} (h : Inside d p) (hg : ∀ x, x ∈ d → 1 ≤ x) : ∀ k, k ≤ d.length → hornK d p k + 1 ≤ prodN (d.take k)
  | 0, _ => by simp [hornK, prodN]
  | k + 1, hk => by
    have ih := hornK_le h hg k (by omega)
    have hl := inside_len h
    have hin := inside_get h k d[k] p[k] (List.getElem?_eq_getElem (by omega)) (List.getElem?_eq_getElem (by omega))
    rw [hornK, prodN_take_succ d k (by omega)]
    simp only [List.getD_eq_getElem?_getD, List.getElem?_eq_getElem (show k < d.length by omega), List.getElem?_eq_getElem (show k < p.length by omega), Option.getD_some]
    have := Nat.mul_le_mul_right d[k] ih
    rw [Nat.add_mul] at this
    omega
/-- A place's k-th number, by the sides behind it. -/
theorem placeN_get : ∀ (d : List Nat) (a k : Nat), (∀ x, x ∈ d → 1 ≤ x) → a < prodN d → (hk : k < d.length) → (placeN d a)[k]? = some (a / prodN (d.drop (k + 1)) % d[k])
  | x :: ds, a, 0, h, ha, hk => by
    simp only [placeN, List.getElem?_cons_zero, List.drop_succ_cons, List.drop_zero, List.getElem_cons_zero]
    rw [Nat.mod_eq_of_lt (Nat.div_lt_of_lt_mul (by rw [Nat.mul_comm]; exact ha))]
  | x :: ds, a, k + 1, h, ha, hk => by
    have hg : ∀ y, y ∈ ds → 1 ≤ y := fun y hy => h y (List.mem_cons_of_mem _ hy)
    have hp := prodN_pos hg
    have hk' : k < ds.length := by simpa using hk
    simp only [placeN, List.getElem?_cons_succ, List.drop_succ_cons, List.getElem_cons_succ]
    rw [placeN_get ds (a % prodN ds) k hg (Nat.mod_lt _ hp) hk']
    congr 1
    have e : prodN ds = prodN (ds.take k) * (ds[k] * prodN (ds.drop (k + 1))) := by rw [← prodN_drop_succ ds k hk', ← prodN_append, List.take_append_drop]
    generalize hP : prodN (ds.drop (k + 1)) = P at *
    have hP1 : 1 ≤ P := by rw [← hP]; exact prodN_pos fun y hy => hg y (List.mem_of_mem_drop hy)
    have hK1 : 1 ≤ ds[k] := hg _ (List.getElem_mem hk')
    generalize ds[k] = K at *
    generalize prodN (ds.take k) = T at *
    rw [e, show T * (K * P) = P * (K * T) by rw [Nat.mul_comm T, Nat.mul_comm K P, Nat.mul_assoc], Nat.mod_mul_right_div_self, Nat.mod_mul_right_mod]
/-- What is left of a number behind the sides from k on. -/
theorem div_drop (d : List Nat) (a k : Nat) (hk : k < d.length) : a / prodN (d.drop (k + 1)) / d[k] = a / prodN (d.drop k) := by
  rw [Nat.div_div_eq_div_mul, prodN_drop_succ d k hk, Nat.mul_comm]
end Go.Proofs.Ytbndiadgnglkhaa.Wd
