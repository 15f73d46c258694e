/- Shapes as lists of Go's ints: what the loops over them reckon. Nothing of the program is named here. -/
import Derived.Test.YtbndiadgnglkhaaShpJ
namespace Go.Proofs.Ytbndiadgnglkhaa.Wd
open Go.RowKit
set_option linter.unusedVariables false
set_option linter.unusedSimpArgs false
def ntl (l : List Int) : List Nat := l.map Int.toNat
def itl (l : List Nat) : List Int := l.map fun (x : Nat) => (x : Int)
theorem ntl_len (l : List Int) : (ntl l).length = l.length := by simp [ntl]
theorem itl_len (l : List Nat) : (itl l).length = l.length := by simp [itl]
theorem ntl_itl (l : List Nat) : ntl (itl l) = l := by
  unfold ntl itl
  rw [List.map_map]
  exact (List.map_congr_left fun x _ => by simp).trans (List.map_id _)
theorem itl_ntl {l : List Int} (h : ∀ x, x ∈ ntl l → 1 ≤ x) : itl (ntl l) = l := by
  unfold ntl itl at *
  rw [List.map_map]
  refine (List.map_congr_left fun x hx => ?_).trans (List.map_id _)
  have := h x.toNat (List.mem_map.2 ⟨x, hx, rfl⟩)
  show ((x.toNat : Nat) : Int) = x
  omega
theorem itl_inj {a b : List Nat} (h : itl a = itl b) : a = b := by rw [← ntl_itl a, h, ntl_itl]
theorem getD_lt {α : Type} (l : List α) (k : Nat) (d : α) (h : k < l.length) : l.getD k d = l[k] := by
  rw [List.getD_eq_getElem?_getD, List.getElem?_eq_getElem h]
  rfl
theorem itl_getD (l : List Nat) (k : Nat) : (itl l).getD k 0 = ((l.getD k 0 : Nat) : Int) := by
  rw [List.getD_eq_getElem?_getD, List.getD_eq_getElem?_getD, itl, List.getElem?_map]
  cases l[k]? <;> rfl
theorem ntl_getD (l : List Int) (k : Nat) (h : k < l.length) : (ntl l).getD k 0 = (l.getD k 0).toNat := by
  rw [List.getD_eq_getElem?_getD, List.getD_eq_getElem?_getD, ntl, List.getElem?_map, List.getElem?_eq_getElem h]
  rfl
def sizeN (d : List Nat) : Nat := if goodN d then prodN d else 0
theorem sizeN_good {d : List Nat} (h : goodN d) : sizeN d = prodN d := if_pos h
theorem sizeN_bad {d : List Nat} (h : ¬ goodN d) : sizeN d = 0 := if_neg h
theorem goodN.pos {d : List Nat} (h : goodN d) : 1 ≤ prodN d := prodN_pos h.2.1
theorem sizeN_le (d : List Nat) : sizeN d ≤ 4096 := by
  unfold sizeN
  split
  · rename_i h; exact h.2.2
  · omega
theorem sizeN_iff (d : List Nat) : (0 < sizeN d) ↔ goodN d := by
  unfold sizeN
  split
  · rename_i h; have := h.pos; exact ⟨fun _ => h, fun _ => by omega⟩
  · rename_i h; exact ⟨fun h' => by omega, fun h' => absurd h' h⟩
/-- The product of the first k, and that they are not below 1. -/
def pK (l : List Int) (k : Nat) : Int := ((prodN ((ntl l).take k) : Nat) : Int)
def okK (l : List Int) (k : Nat) : Prop := ∀ i, i < k → 1 ≤ l.getD i 0
theorem pK_zero (l : List Int) : pK l 0 = 1 := rfl
theorem okK_zero (l : List Int) : okK l 0 := fun i h => absurd h (Nat.not_lt_zero _)
theorem pK_succ (l : List Int) (k : Nat) (hk : k < l.length) (h : 1 ≤ l.getD k 0) : pK l (k + 1) = pK l k * l.getD k 0 := by
  unfold pK
  rw [prodN_take_succ _ k (by rw [ntl_len]; exact hk), Int.natCast_mul]
  congr 1
  rw [← getD_lt (ntl l) k 0 (by rw [ntl_len]; exact hk), ntl_getD l k hk]
  omega
theorem okK_succ {l : List Int} {k : Nat} (h : okK l k) (hk : 1 ≤ l.getD k 0) : okK l (k + 1) := fun i hi => by
  rcases Nat.lt_succ_iff_lt_or_eq.1 hi with h' | rfl
  · exact h i h'
  · exact hk
theorem ntl_mem {l : List Int} {k : Nat} (hk : k < l.length) : (l.getD k 0).toNat ∈ ntl l := by
  rw [getD_lt l k 0 hk]
  exact List.mem_map.2 ⟨_, List.getElem_mem hk, rfl⟩
theorem bad_low {l : List Int} {k : Nat} (hk : k < l.length) (h : l.getD k 0 < 1) : ¬ goodN (ntl l) := fun hg => by
  have := hg.2.1 _ (ntl_mem hk)
  omega
theorem good_pK {l : List Int} (hg : goodN (ntl l)) (k : Nat) : 1 ≤ pK l k ∧ pK l k ≤ 4096 := by
  have h1 := prodN_take_le hg.2.1 k
  have h2 := prodN_pos (d := (ntl l).take k) fun x hx => hg.2.1 x (List.mem_of_mem_take hx)
  have h3 := hg.2.2
  unfold pK
  omega
theorem good_at {l : List Int} (hg : goodN (ntl l)) (k : Nat) (hk : k < l.length) : 1 ≤ l.getD k 0 ∧ l.getD k 0 ≤ 4096 := by
  have h1 := hg.2.1 _ (ntl_mem hk)
  have h2 := hg.le _ (ntl_mem hk)
  omega
theorem bad_great {l : List Int} {k : Nat} (hk : k < l.length) (h1 : 1 ≤ l.getD k 0) (h : 4096 < pK l k * l.getD k 0) : ¬ goodN (ntl l) := fun hg => by
  have := good_pK hg (k + 1)
  rw [pK_succ l k hk h1] at this
  omega
theorem good_end {l : List Int} (hl : l.length ≤ 4) (hok : okK l l.length) (h : pK l l.length ≤ 4096) : goodN (ntl l) ∧ pK l l.length = ((prodN (ntl l) : Nat) : Int) := by
  have e : (ntl l).take l.length = ntl l := List.take_of_length_le (by rw [ntl_len]; exact Nat.le_refl _)
  unfold pK at *
  rw [e] at h ⊢
  refine ⟨⟨by rw [ntl_len]; exact hl, fun x hx => ?_, by omega⟩, rfl⟩
  obtain ⟨y, hy, rfl⟩ := List.mem_map.1 hx
  obtain ⟨i, hi, rfl⟩ := List.mem_iff_getElem.1 hy
  have := hok i hi
  rw [getD_lt l i 0 hi] at this
  omega
theorem long_bad {l : List Int} (h : 4 < l.length) : ¬ goodN (ntl l) := fun hg => by
  have := hg.1
  rw [ntl_len] at this
  omega
/-- The quotient that a bound is held against. -/
theorem quo_le (x y : Int) (hx : 1 ≤ x) (hx2 : x ≤ 4096) (h : y ≤ 4096 / x) (hy : 1 ≤ y) : x * y ≤ 4096 ∧ 1 ≤ x * y := by
  have h1 : x * (4096 / x) ≤ 4096 := Int.mul_ediv_self_le (by omega)
  have h2 : x * y ≤ x * (4096 / x) := Int.mul_le_mul_of_nonneg_left h (by omega)
  have h3 : 1 * 1 ≤ x * y := Int.mul_le_mul hx hy (by omega) (by omega)
  omega
theorem quo_gt (x y : Int) (hx : 1 ≤ x) (hx2 : x ≤ 4096) (h : 4096 / x < y) : 4096 < x * y := by
  have h1 : 4096 < (4096 / x + 1) * x := Int.lt_mul_of_ediv_lt (by omega) (by omega)
  have h2 : x * (4096 / x + 1) ≤ x * y := Int.mul_le_mul_of_nonneg_left (by omega) (by omega)
  rw [Int.mul_comm] at h1
  omega
theorem mul_rng (x y : Int) (hx : 1 ≤ x) (hx2 : x ≤ 4096) (hy : 1 ≤ y) (hy2 : y ≤ 4096) : 1 ≤ x * y ∧ x * y ≤ 16777216 := by
  have h3 : 1 * 1 ≤ x * y := Int.mul_le_mul hx hy (by omega) (by omega)
  have h4 : x * y ≤ 4096 * 4096 := Int.mul_le_mul hx2 hy2 (by omega) (by omega)
  omega
/-- A row in the making, from its end on. -/
def rowB (L : List Int) (k : Nat) : List Int := List.replicate (L.length - k) 0 ++ L.drop (L.length - k)
theorem rowB_len (L : List Int) (k : Nat) : (rowB L k).length = L.length := by
  unfold rowB
  rw [List.length_append, List.length_replicate, List.length_drop]
  omega
theorem rowB_zero (L : List Int) : rowB L 0 = List.replicate L.length 0 := by simp [rowB]
theorem rowB_full (L : List Int) : rowB L L.length = L := by simp [rowB]
theorem rowB_set (L : List Int) (j k : Nat) (h : j + k + 1 = L.length) : (rowB L k).set j (L.getD j 0) = rowB L (k + 1) := by
  unfold rowB
  rw [show L.length - k = j + 1 by omega, show L.length - (k + 1) = j by omega, List.replicate_succ', List.append_assoc, List.set_append_right _ _ (by simp), List.length_replicate, Nat.sub_self, List.drop_eq_getElem_cons (show j < L.length by omega), getD_lt L j 0 (by omega)]
  rfl
/-- The product of the last k. -/
def sK (d : List Nat) (k : Nat) : Int := ((prodN (d.drop (d.length - k)) : Nat) : Int)
theorem sK_zero (d : List Nat) : sK d 0 = 1 := by simp [sK, prodN]
theorem sK_succ (d : List Nat) (j k : Nat) (h : j + k + 1 = d.length) : sK d (k + 1) = sK d k * ((d.getD j 0 : Nat) : Int) := by
  unfold sK
  rw [show d.length - k = j + 1 by omega, show d.length - (k + 1) = j by omega, prodN_drop_succ d j (by omega), Int.natCast_mul, Int.mul_comm, getD_lt d j 0 (by omega)]
theorem sK_rng {d : List Nat} (h : goodN d) (k : Nat) : 1 ≤ sK d k ∧ sK d k ≤ 4096 := by
  have h1 := prodN_drop_le h.2.1 (d.length - k)
  have h2 := prodN_pos (d := d.drop (d.length - k)) fun x hx => h.2.1 x (List.mem_of_mem_drop hx)
  have h3 := h.2.2
  unfold sK
  omega
theorem goodN.at {d : List Nat} (h : goodN d) (j : Nat) (hj : j < d.length) : 1 ≤ d.getD j 0 ∧ d.getD j 0 ≤ 4096 := by
  rw [getD_lt d j 0 hj]
  exact ⟨h.2.1 _ (List.getElem_mem hj), h.le _ (List.getElem_mem hj)⟩
def stridesI (d : List Int) : List Int := if goodN (ntl d) then itl (stridesN (ntl d)) else []
theorem strides_at (d : List Nat) (j k : Nat) (h : j + k + 1 = d.length) : (itl (stridesN d)).getD j 0 = sK d k := by
  rw [itl_getD, List.getD_eq_getElem?_getD, stridesN_get d j (by omega)]
  unfold sK
  rw [show d.length - k = j + 1 by omega]
  rfl
/-- What is left of a number behind the last k sides. -/
def aK (d : List Nat) (a k : Nat) : Int := ((a / prodN (d.drop (d.length - k)) : Nat) : Int)
theorem aK_zero (d : List Nat) (a : Nat) : aK d a 0 = (a : Int) := by simp [aK, prodN]
theorem aK_succ (d : List Nat) (a j k : Nat) (h : j + k + 1 = d.length) : aK d a (k + 1) = aK d a k / ((d.getD j 0 : Nat) : Int) := by
  unfold aK
  rw [show d.length - k = j + 1 by omega, show d.length - (k + 1) = j by omega, ← div_drop d a j (by omega), getD_lt d j 0 (by omega), Int.natCast_ediv]
theorem aK_rng (d : List Nat) (a k : Nat) (h : a < 4096) : 0 ≤ aK d a k ∧ aK d a k < 4096 := by
  have := Nat.div_le_self a (prodN (d.drop (d.length - k)))
  unfold aK
  generalize a / prodN (d.drop (d.length - k)) = q at *
  omega
def placeI (d : List Int) (a : Int) : List Int := if 0 ≤ a ∧ a < ((sizeN (ntl d) : Nat) : Int) then itl (placeN (ntl d) a.toNat) else []
theorem place_at {d : List Nat} (hg : goodN d) (a j k : Nat) (ha : a < prodN d) (h : j + k + 1 = d.length) : (itl (placeN d a)).getD j 0 = aK d a k % ((d.getD j 0 : Nat) : Int) := by
  rw [itl_getD, List.getD_eq_getElem?_getD, placeN_get d a j hg.2.1 ha (by omega)]
  unfold aK
  rw [show d.length - k = j + 1 by omega, getD_lt d j 0 (by omega)]
  simp
/-- Is it a place? -/
def inB : List Int → List Int → Bool
  | d :: ds, p :: ps => decide (0 ≤ p ∧ p < d) && inB ds ps
  | [], [] => true
  | _, _ => false
theorem inB_len : ∀ {d p : List Int}, inB d p = true → p.length = d.length
  | [], [], _ => rfl
  | _ :: ds, _ :: ps, h => by
    simp only [inB, Bool.and_eq_true] at h
    simp [inB_len h.2]
  | [], _ :: _, h => by simp [inB] at h
  | _ :: _, [], h => by simp [inB] at h
theorem inB_get : ∀ {d p : List Int}, inB d p = true → ∀ k, k < d.length → 0 ≤ p.getD k 0 ∧ p.getD k 0 < d.getD k 0
  | d :: ds, p :: ps, h, 0, _ => by
    simp only [inB, Bool.and_eq_true, decide_eq_true_eq] at h
    exact h.1
  | d :: ds, p :: ps, h, k + 1, hk => by
    simp only [inB, Bool.and_eq_true] at h
    simpa using inB_get h.2 k (by simpa using hk)
  | [], _, _, k, hk => by simp at hk
  | _ :: _, [], h, _, _ => by simp [inB] at h
theorem inB_of : ∀ {d p : List Int}, p.length = d.length → (∀ k, k < d.length → 0 ≤ p.getD k 0 ∧ p.getD k 0 < d.getD k 0) → inB d p = true
  | [], [], _, _ => rfl
  | d :: ds, p :: ps, hl, h => by
    simp only [inB, Bool.and_eq_true, decide_eq_true_eq]
    exact ⟨h 0 (by simp), inB_of (by simpa using hl) fun k hk => by simpa using h (k + 1) (by simpa using hk)⟩
  | [], _ :: _, hl, _ => by simp at hl
  | _ :: _, [], hl, _ => by simp at hl
theorem inB_inside : ∀ {d p : List Int}, inB d p = true → Inside (ntl d) (ntl p)
  | [], [], _ => trivial
  | d :: ds, p :: ps, h => by
    simp only [inB, Bool.and_eq_true, decide_eq_true_eq] at h
    exact ⟨by have := h.1; show p.toNat < d.toNat; omega, inB_inside h.2⟩
  | [], _ :: _, h => by simp [inB] at h
  | _ :: _, [], h => by simp [inB] at h
theorem inside_inB : ∀ {d p : List Nat}, Inside d p → inB (itl d) (itl p) = true
  | [], [], _ => rfl
  | d :: ds, p :: ps, h => by
    have h1 := h.1
    have h2 := inside_inB h.2
    unfold itl at *
    simp only [List.map_cons, inB, h2, Bool.and_true, decide_eq_true_eq]
    omega
  | [], _ :: _, h => h.elim
  | _ :: _, [], h => h.elim
def atB (d p : List Int) : Bool := decide (goodN (ntl d)) && inB d p
def atI (d p : List Int) : Int := if atB d p = true then ((evalN (ntl d) (ntl p) : Nat) : Int) else 0
/-- What a walk from the first side on has reckoned. -/
def hK (d p : List Int) (k : Nat) : Int := ((hornK (ntl d) (ntl p) k : Nat) : Int)
theorem hK_succ (d p : List Int) (k : Nat) (hd : k < d.length) (hp : k < p.length) (h1 : 0 ≤ d.getD k 0) (h2 : 0 ≤ p.getD k 0) : hK d p (k + 1) = hK d p k * d.getD k 0 + p.getD k 0 := by
  unfold hK
  rw [hornK, ntl_getD d k hd, ntl_getD p k hp, Int.natCast_add, Int.natCast_mul]
  congr 1
  · congr 1; omega
  · omega
/-- So far it is a place: then what was reckoned is below the product of the sides. -/
theorem hK_lt {d p : List Int} (hl : p.length = d.length) (k : Nat) (hk : k ≤ d.length) (h : ∀ i, i < k → 0 ≤ p.getD i 0 ∧ p.getD i 0 < d.getD i 0) : 0 ≤ hK d p k ∧ hK d p k < pK d k := by
  induction k with
  | zero => simp [hK, hornK, pK, prodN]
  | succ k ih =>
    have ih := ih (by omega) fun i hi => h i (by omega)
    have hk' := h k (by omega)
    rw [hK_succ d p k (by omega) (by omega) (by omega) hk'.1, pK_succ d k (by omega) (by omega)]
    have h0 : 0 ≤ hK d p k * d.getD k 0 := Int.mul_nonneg ih.1 (by omega)
    have h1 : (hK d p k + 1) * d.getD k 0 ≤ pK d k * d.getD k 0 := Int.mul_le_mul_of_nonneg_right (by omega) (by omega)
    rw [Int.add_mul, Int.one_mul] at h1
    omega
theorem hK_full {d p : List Int} (hl : p.length = d.length) : hK d p d.length = ((evalN (ntl d) (ntl p) : Nat) : Int) := by
  unfold hK
  rw [← ntl_len d, hornK_full _ _ (by rw [ntl_len, ntl_len]; exact hl)]
/-- Do two fit, by looking. -/
def fitsB (a b : List Nat) : Bool := (List.range (max a.length b.length + 1)).all fun i => decide (i = 0) || decide (fitN (sideN a i) (sideN b i))
theorem fitsB_iff (a b : List Nat) : fitsB a b = true ↔ fitsN a b := by
  unfold fitsB fitsN
  rw [List.all_eq_true]
  constructor
  · intro h i h1 h2
    have := h i (List.mem_range.2 (by omega))
    rw [Bool.or_eq_true, decide_eq_true_eq, decide_eq_true_eq] at this
    rcases this with h' | h'
    · omega
    · exact h'
  · intro h i hi
    have hi := List.mem_range.1 hi
    rw [Bool.or_eq_true, decide_eq_true_eq, decide_eq_true_eq]
    by_cases h0 : i = 0
    · exact .inl h0
    · exact .inr (h i (by omega) (by omega))
/-- What two spread to, and the error. -/
def joinL (a b : List Int) : List Int := if goodN (ntl a) ∧ goodN (ntl b) ∧ fitsB (ntl a) (ntl b) = true ∧ goodN (joinN (ntl a) (ntl b)) then itl (joinN (ntl a) (ntl b)) else []
def joinE (a b : List Int) : Int := if goodN (ntl a) ∧ goodN (ntl b) then if fitsB (ntl a) (ntl b) = true then if goodN (joinN (ntl a) (ntl b)) then 0 else 2 else 4 else 1
theorem join_none {a b : List Int} (h : ¬ (goodN (ntl a) ∧ goodN (ntl b))) : joinL a b = [] ∧ joinE a b = 1 := ⟨if_neg fun h' => h ⟨h'.1, h'.2.1⟩, if_neg h⟩
theorem join_unlike {a b : List Nat} (ha : goodN a) (hb : goodN b) (h : ¬ fitsN a b) : joinL (itl a) (itl b) = [] ∧ joinE (itl a) (itl b) = 4 := by
  unfold joinL joinE
  rw [ntl_itl, ntl_itl]
  exact ⟨if_neg fun h' => h ((fitsB_iff a b).1 h'.2.2.1), by rw [if_pos ⟨ha, hb⟩, if_neg fun h' => h ((fitsB_iff a b).1 h')]⟩
theorem join_great {a b : List Nat} (ha : goodN a) (hb : goodN b) (hf : fitsN a b) (h : ¬ goodN (joinN a b)) : joinL (itl a) (itl b) = [] ∧ joinE (itl a) (itl b) = 2 := by
  unfold joinL joinE
  rw [ntl_itl, ntl_itl]
  exact ⟨if_neg fun h' => h h'.2.2.2, by rw [if_pos ⟨ha, hb⟩, if_pos ((fitsB_iff a b).2 hf), if_neg h]⟩
theorem join_fine {a b : List Nat} (ha : goodN a) (hb : goodN b) (hf : fitsN a b) (h : goodN (joinN a b)) : joinL (itl a) (itl b) = itl (joinN a b) ∧ joinE (itl a) (itl b) = 0 := by
  unfold joinL joinE
  rw [ntl_itl, ntl_itl]
  exact ⟨if_pos ⟨ha, hb, (fitsB_iff a b).2 hf, h⟩, by rw [if_pos ⟨ha, hb⟩, if_pos ((fitsB_iff a b).2 hf), if_pos h]⟩
theorem side_at (d : List Nat) (k : Nat) (h1 : 1 ≤ k) (h : k ≤ d.length) : (itl d).getD (d.length - k) 0 = ((sideN d k : Nat) : Int) := by
  rw [itl_getD]
  unfold sideN
  rw [if_pos h, getD_lt d _ 0 (by omega), getD_lt d _ 1 (by omega)]
theorem side_rng {d : List Nat} (h : goodN d) (k : Nat) : 1 ≤ sideN d k ∧ sideN d k ≤ 4096 := by
  refine ⟨sideN_pos h.2.1 k, ?_⟩
  unfold sideN
  split
  · rw [List.getD_eq_getElem?_getD]
    cases hc : d[d.length - k]? with
    | none => show 1 ≤ 4096; omega
    | some x => exact h.le x (List.mem_of_getElem? hc)
  · omega
theorem join_at (a b : List Nat) (j k : Nat) (h : j + k + 1 = max a.length b.length) : (itl (joinN a b)).getD j 0 = ((max (sideN a (k + 1)) (sideN b (k + 1)) : Nat) : Int) := by
  have := side_at (joinN a b) (k + 1) (by omega) (by rw [joinN_len]; omega)
  rw [joinN_len, show max a.length b.length - (k + 1) = j by omega, joinN_side _ _ _ (by omega)] at this
  exact this
/-- The side that two sides spread to, and whether they do. -/
def jnd (x y : Int) : Int := if x = 1 then y else x
def jok (x y : Int) : Bool := decide (x = 1 ∨ y = 1 ∨ x = y)
theorem jok_fit (x y : Nat) : jok (x : Int) (y : Int) = decide (fitN x y) := by
  unfold jok fitN
  exact decide_eq_decide.2 (by omega)
theorem jnd_max (x y : Nat) (hx : 1 ≤ x) (hy : 1 ≤ y) (h : fitN x y) : jnd (x : Int) (y : Int) = ((max x y : Nat) : Int) := by
  unfold jnd fitN at *
  split <;> omega
end Go.Proofs.Ytbndiadgnglkhaa.Wd
