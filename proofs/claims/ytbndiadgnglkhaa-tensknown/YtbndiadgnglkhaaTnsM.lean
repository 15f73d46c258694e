/- Tensors, as lists of numbers: sides in another order, and back. Nothing of the program is named here. -/
import Derived.Test.YtbndiadgnglkhaaShpK
namespace Go.Proofs.Ytbndiadgnglkhaa.Wd
open Go.RowKit
set_option linter.unusedVariables false
set_option linter.unusedSimpArgs false
theorem place_eval : ∀ {d p : List Nat}, Inside d p → placeN d (evalN d p) = p
  | [], [], _ => rfl
  | d :: ds, p :: ps, h => by
    have h1 := eval_lt h.2
    have hp : 0 < prodN ds := by omega
    rw [placeN, evalN, Nat.mul_comm p, Nat.mul_add_div hp, Nat.div_eq_of_lt h1, Nat.add_zero, Nat.mul_add_mod, Nat.mod_eq_of_lt h1, place_eval h.2]
  | [], _ :: _, h => h.elim
  | _ :: _, [], h => h.elim
/-- An order names each of n places once. -/
def orderN (n : Nat) (o : List Nat) : Prop := o.length = n ∧ (∀ x, x ∈ o → x < n) ∧ ∀ j, j < n → ∃ k, k < n ∧ o.getD k 0 = j
/-- The sides in that order. -/
def dimsT (d o : List Nat) : List Nat := o.map fun j => d.getD j 0
theorem dimsT_len (d o : List Nat) : (dimsT d o).length = o.length := by simp [dimsT]
theorem dimsT_get (d o : List Nat) (k : Nat) (h : k < o.length) : (dimsT d o).getD k 0 = d.getD (o.getD k 0) 0 := by
  rw [getD_lt _ k 0 (by rw [dimsT_len]; exact h), getD_lt o k 0 h]
  simp [dimsT]
/-- The numbers at those places: q's o_k-th is p's k-th. -/
def put1 (q : List Nat) (j x : Nat) : List Nat := q.set j x
def unpK (o p : List Nat) (n : Nat) : Nat → List Nat
  | 0 => List.replicate n 0
  | k + 1 => (unpK o p n k).set (o.getD k 0) (p.getD k 0)
theorem unpK_len (o p : List Nat) (n : Nat) : ∀ k, (unpK o p n k).length = n
  | 0 => by simp [unpK]
  | k + 1 => by rw [unpK, List.length_set, unpK_len o p n k]
theorem getD_set (l : List Nat) (j i x : Nat) (h : i < l.length) : (l.set j x).getD i 0 = if j = i then x else l.getD i 0 := by
  rw [List.getD_eq_getElem?_getD, List.getElem?_set, List.getD_eq_getElem?_getD]
  by_cases e : j = i
  · subst e
    rw [if_pos rfl, if_pos rfl, if_pos h]
    rfl
  · rw [if_neg e, if_neg e]
theorem order_inj {n : Nat} {o : List Nat} (h : orderN n o) : ∀ i k, i < n → k < n → o.getD i 0 = o.getD k 0 → i = k := by
  -- as many names as places: none is named twice
  have key : ∀ (m : Nat) (f : Nat → Nat), (∀ j, j < m → ∃ k, k < m ∧ f k = j) → (∀ k, k < m → f k < m) → ∀ i k, i < m → k < m → f i = f k → i = k := by
    intro m
    induction m with
    | zero => intro f _ _ i k hi; omega
    | succ m ih =>
      intro f hs hb i k hi hk e
      -- the place that is named m is changed with the last one
      obtain ⟨t, ht, ft⟩ := hs m (by omega)
      let g : Nat → Nat := fun x => if x = t then f m else f x
      have hg1 : ∀ x, x < m → g x < m ∨ (g x = m ∧ False) ∨ g x = m := by
        intro x hx
        by_cases hxt : x = t
        · have : g x = f m := if_pos hxt
          have := hb m (by omega)
          omega
        · have : g x = f x := if_neg hxt
          have := hb x (by omega)
          omega
      by_cases hu : ∃ x, x < m + 1 ∧ x ≠ t ∧ f x = m
      · -- m is named twice: then one below m is not named at all
        exfalso
        obtain ⟨x, hx, hxt, fx⟩ := hu
        -- strike x: g' over the others still reaches all
        let s : Nat → Nat := fun y => if y < x then f y else f (y + 1)
        have : ∀ j, j < m → ∃ k, k < m ∧ s k = j := by
          intro j hj
          obtain ⟨k, hk, fk⟩ := hs j (by omega)
          have hkx : k ≠ x := by
            intro e
            subst e
            omega
          by_cases hlt : k < x
          · exact ⟨k, by omega, by show (if k < x then f k else f (k + 1)) = j; rw [if_pos hlt]; exact fk⟩
          · exact ⟨k - 1, by omega, by show (if k - 1 < x then f (k - 1) else f (k - 1 + 1)) = j; rw [if_neg (by omega), show k - 1 + 1 = k by omega]; exact fk⟩
        -- t is left among them and is named m: so m numbers are reached by m - 1 places
        have pig : ∀ (m : Nat) (s : Nat → Nat), (∀ j, j < m → ∃ k, k < m ∧ s k = j) → ∀ y, y < m → s y < m := by
          intro m
          induction m with
          | zero => intro s _ y hy; omega
          | succ m ih =>
            intro s hs y hy
            rcases Nat.lt_or_ge (s y) (m + 1) with h | h
            · exact h
            · exfalso
              obtain ⟨t, ht, st⟩ := hs m (by omega)
              have hty : t ≠ y := by intro e; subst e; omega
              -- strike t: the others reach all below m; y is among them
              have h2 := ih (fun z => if z < t then s z else s (z + 1)) (by
                intro j hj
                obtain ⟨k, hk, sk⟩ := hs j (by omega)
                have hkt : k ≠ t := by intro e; subst e; omega
                by_cases hlt : k < t
                · exact ⟨k, by omega, by show (if k < t then s k else s (k + 1)) = j; rw [if_pos hlt]; exact sk⟩
                · exact ⟨k - 1, by omega, by show (if k - 1 < t then s (k - 1) else s (k - 1 + 1)) = j; rw [if_neg (by omega), show k - 1 + 1 = k by omega]; exact sk⟩)
              by_cases hlt : y < t
              · have := h2 y (by omega)
                rw [if_pos hlt] at this
                omega
              · have := h2 (y - 1) (by omega)
                rw [if_neg (by omega), show y - 1 + 1 = y by omega] at this
                omega
        have h3 := pig m s this
        by_cases hlt : t < x
        · have := h3 t (by omega)
          have e2 : s t = f t := if_pos hlt
          omega
        · have := h3 (t - 1) (by omega)
          have e2 : s (t - 1) = f (t - 1 + 1) := if_neg (by omega)
          rw [show t - 1 + 1 = t by omega] at e2
          omega
      · have hne : ∀ x, x < m + 1 → x ≠ t → f x < m := fun x hx hxt => by
          have h1 := hb x hx
          have h2 : f x ≠ m := fun e => hu ⟨x, hx, hxt, e⟩
          omega
        have hgs : ∀ j, j < m → ∃ k, k < m ∧ g k = j := by
          intro j hj
          obtain ⟨k, hk, fk⟩ := hs j (by omega)
          have hkt : k ≠ t := by intro e; subst e; omega
          by_cases hkm : k = m
          · subst hkm
            exact ⟨t, by omega, by show (if t = t then f k else f t) = j; rw [if_pos rfl]; exact fk⟩
          · exact ⟨k, by omega, by show (if k = t then f m else f k) = j; rw [if_neg hkt]; exact fk⟩
        have hgb : ∀ k, k < m → g k < m := by
          intro k hk
          show (if k = t then f m else f k) < m
          by_cases hkt : k = t
          · rw [if_pos hkt]
            subst hkt
            exact hne m (by omega) (by omega)
          · rw [if_neg hkt]
            exact hne k (by omega) hkt
        have hin := ih g hgs hgb
        -- back to f
        have val : ∀ x, x < m + 1 → x ≠ t → ∃ y, y < m ∧ g y = f x ∧ (y = if x = m then t else x) := by
          intro x hx hxt
          by_cases hxm : x = m
          · subst hxm
            exact ⟨t, by omega, by show (if t = t then f x else f t) = f x; rw [if_pos rfl], by rw [if_pos rfl]⟩
          · exact ⟨x, by omega, by show (if x = t then f m else f x) = f x; rw [if_neg hxt], by rw [if_neg hxm]⟩
        by_cases hit : i = t
        · by_cases hkt : k = t
          · rw [hit, hkt]
          · have := hne k hk hkt
            rw [hit, ft] at e
            omega
        · by_cases hkt : k = t
          · have := hne i hi hit
            rw [hkt, ft] at e
            omega
          · obtain ⟨y, hy, gy, ey⟩ := val i hi hit
            obtain ⟨z, hz, gz, ez⟩ := val k hk hkt
            have := hin y z hy hz (by rw [gy, gz]; exact e)
            subst this
            rw [ey] at ez
            by_cases h1 : i = m
            · by_cases h2 : k = m
              · omega
              · rw [if_pos h1, if_neg h2] at ez; omega
            · by_cases h2 : k = m
              · rw [if_neg h1, if_pos h2] at ez; omega
              · rw [if_neg h1, if_neg h2] at ez; exact ez
  intro i k hi hk e
  exact key n (fun x => o.getD x 0) h.2.2 (fun x hx => by
    show o.getD x 0 < n
    rw [getD_lt o x 0 (by rw [h.1]; exact hx)]
    exact h.2.1 _ (List.getElem_mem _)) i k hi hk e
end Go.Proofs.Ytbndiadgnglkhaa.Wd
