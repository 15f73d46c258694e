/- Shapes as Go's ints: what is spread where. Nothing of the program is named here. -/
import Derived.Test.YtbndiadgnglkhaaShpI
namespace Go.Proofs.Ytbndiadgnglkhaa.Wd
open Go.RowKit
set_option linter.unusedVariables false
set_option linter.unusedSimpArgs false
theorem joinE_zero {a b : List Int} (h : joinE a b = 0) : goodN (ntl a) ∧ goodN (ntl b) ∧ fitsN (ntl a) (ntl b) ∧ goodN (joinN (ntl a) (ntl b)) := by
  unfold joinE at h
  split at h
  · rename_i h1
    split at h
    · rename_i h2
      split at h
      · rename_i h3; exact ⟨h1.1, h1.2, (fitsB_iff _ _).1 h2, h3⟩
      · omega
    · omega
  · omega
theorem joinE_rng (a b : List Int) : 0 ≤ joinE a b ∧ joinE a b ≤ 4 := by
  unfold joinE
  split
  · split
    · split <;> omega
    · omega
  · omega
theorem joinL_len (a b : List Int) : (joinL a b).length ≤ 4 := by
  unfold joinL
  split
  · rename_i h; rw [itl_len]; exact h.2.2.2.1
  · simp
theorem joinL_rng (a b : List Int) : ∀ y, y ∈ joinL a b → 0 ≤ y ∧ y ≤ 4096 := by
  unfold joinL
  split
  · rename_i h
    intro y hy
    obtain ⟨x, hx, rfl⟩ := List.mem_map.1 hy
    have := h.2.2.2.le x hx
    omega
  · intro y hy; simp at hy
theorem spread_side {d big : List Nat} (hd : ∀ x, x ∈ d → 1 ≤ x) (hf : fitsN d big) (hj : joinN d big = big) (i : Nat) (h1 : 1 ≤ i) : sideN d i = 1 ∨ sideN d i = sideN big i := by
  have h2 := congrArg (fun l => sideN l i) hj
  simp only [joinN_side _ _ _ h1] at h2
  by_cases hi : i ≤ max d.length big.length
  · have h3 := hf i h1 hi
    have := sideN_pos hd i
    unfold fitN at h3
    omega
  · left; exact sideN_far d i (by omega)
theorem join_le {d big : List Nat} (hj : joinN d big = big) : d.length ≤ big.length := by
  have := congrArg List.length hj
  rw [joinN_len] at this
  omega
theorem getD_side (d : List Nat) (j k : Nat) (h : j + k + 1 = d.length) : d.getD j 0 = sideN d (k + 1) := by
  have := side_at d (k + 1) (by omega) (by omega)
  rw [show d.length - (k + 1) = j by omega, itl_getD] at this
  omega
/-- The place that is spread to the place a of big. -/
def qN (d big : List Nat) (a : Nat) : List Nat := pickN d ((placeN big a).drop (big.length - d.length))
theorem qN_len (d big : List Nat) (a : Nat) (h : d.length ≤ big.length) : (qN d big a).length = d.length := pickN_len _ _ (by rw [List.length_drop, placeN_len]; omega)
theorem qN_at {d big : List Nat} (hb : goodN big) (h : d.length ≤ big.length) (a j k : Nat) (ha : a < prodN big) (hj : j + k + 1 = d.length) : ((qN d big a).getD j 0 : Nat) = if sideN d (k + 1) = 1 then 0 else a / prodN (big.drop (big.length - k)) % sideN big (k + 1) := by
  have e1 : d[j]? = some (sideN d (k + 1)) := by
    rw [← getD_side d j k hj, List.getElem?_eq_getElem (by omega), getD_lt d j 0 (by omega)]
  have e2 : ((placeN big a).drop (big.length - d.length))[j]? = some (a / prodN (big.drop (big.length - k)) % sideN big (k + 1)) := by
    rw [List.getElem?_drop, placeN_get big a _ hb.2.1 ha (by omega), ← getD_lt big _ 0 (by omega), getD_side big (big.length - d.length + j) k (by omega), show big.length - d.length + j + 1 = big.length - k by omega]
  rw [List.getD_eq_getElem?_getD, qN, pickN_get d _ j _ _ e1 e2]
  rfl
theorem qN_mod {d big : List Nat} (hd : ∀ x, x ∈ d → 1 ≤ x) (hb : goodN big) (hf : fitsN d big) (hjn : joinN d big = big) (a j k : Nat) (ha : a < prodN big) (hj : j + k + 1 = d.length) : (((qN d big a).getD j 0 : Nat) : Int) = aK big a k % ((sideN big (k + 1) : Nat) : Int) % ((sideN d (k + 1) : Nat) : Int) := by
  rw [qN_at hb (join_le hjn) a j k ha hj]
  unfold aK
  rw [← Int.natCast_emod, ← Int.natCast_emod]
  congr 1
  rcases spread_side hd hf hjn (k + 1) (by omega) with h | h
  · rw [if_pos h, h, Nat.mod_one]
  · by_cases h1 : sideN d (k + 1) = 1
    · rw [if_pos h1, h1, Nat.mod_one]
    · rw [if_neg h1, h, Nat.mod_mod]
/-- What a walk from the last side on has reckoned. -/
def fK (d q : List Nat) (k : Nat) : Int := ((evalN (d.drop (d.length - k)) (q.drop (d.length - k)) : Nat) : Int)
theorem fK_zero (d q : List Nat) : fK d q 0 = 0 := by
  unfold fK
  rw [Nat.sub_zero, List.drop_length]
  cases (q.drop d.length) <;> rfl
theorem fK_succ (d q : List Nat) (hq : q.length = d.length) (j k : Nat) (h : j + k + 1 = d.length) : fK d q (k + 1) = fK d q k + ((q.getD j 0 : Nat) : Int) * sK d k := by
  unfold fK sK
  rw [show d.length - (k + 1) = j by omega, show d.length - k = j + 1 by omega, List.drop_eq_getElem_cons (show j < d.length by omega), List.drop_eq_getElem_cons (show j < q.length by omega), evalN, getD_lt q j 0 (by omega), Int.natCast_add, Int.natCast_mul, Int.add_comm]
theorem fK_full (d big : List Nat) (a : Nat) : fK d (qN d big a) d.length = ((fromN d big a : Nat) : Int) := by
  unfold fK
  rw [Nat.sub_self, List.drop_zero, List.drop_zero]
  rfl
/-- The same, of a walk from the first side on. -/
theorem hornK_from (d big : List Nat) (a : Nat) (h : d.length ≤ big.length) : hornK d (qN d big a) d.length = fromN d big a := hornK_full _ _ (qN_len d big a h)
theorem qN_inside {d big : List Nat} (hd : goodN d) (hb : goodN big) (hf : fitsN d big) (hjn : joinN d big = big) (a : Nat) (ha : a < prodN big) : Inside d (qN d big a) := by
  refine inside_of (qN_len d big a (join_le hjn)) fun j x y hx hy => ?_
  have hj : j < d.length := (List.getElem?_eq_some_iff.1 hx).1
  obtain ⟨k, hk⟩ : ∃ k, j + k + 1 = d.length := ⟨d.length - 1 - j, by omega⟩
  have h1 := qN_mod hd.2.1 hb hf hjn a j k ha hk
  have h2 := getD_side d j k hk
  rw [List.getD_eq_getElem?_getD, hy] at h1
  rw [List.getD_eq_getElem?_getD, hx] at h2
  have h3 : x = sideN d (k + 1) := h2
  have h4 : ((y : Nat) : Int) = _ := h1
  have h5 := Int.emod_lt_of_pos (aK big a k % ((sideN big (k + 1) : Nat) : Int)) (show 0 < ((sideN d (k + 1) : Nat) : Int) by have := sideN_pos hd.2.1 (k + 1); omega)
  omega
def gK (d q : List Nat) (k : Nat) : Int := ((hornK d q k : Nat) : Int)
theorem gK_succ (d q : List Nat) (k : Nat) : gK d q (k + 1) = gK d q k * ((d.getD k 0 : Nat) : Int) + ((q.getD k 0 : Nat) : Int) := by
  unfold gK
  rw [hornK, Int.natCast_add, Int.natCast_mul]
theorem gK_rng {d q : List Nat} (hd : goodN d) (h : Inside d q) (k : Nat) (hk : k ≤ d.length) : 0 ≤ gK d q k ∧ gK d q k < 4096 := by
  have h1 := hornK_le h hd.2.1 k hk
  have h2 := prodN_take_le hd.2.1 k
  have h3 := hd.2.2
  unfold gK
  omega
/-- A number of the spread place, by big's place. -/
theorem qN_pick {d big : List Nat} (h : d.length ≤ big.length) (a i : Nat) (hi : i < d.length) : (((qN d big a).getD i 0 : Nat) : Int) = if ((d.getD i 0 : Nat) : Int) = 1 then 0 else (itl (placeN big a)).getD (big.length - d.length + i) 0 := by
  have hl := placeN_len big a
  have e1 : d[i]? = some (d.getD i 0) := by rw [List.getElem?_eq_getElem hi, getD_lt d i 0 hi]
  have e2 : ((placeN big a).drop (big.length - d.length))[i]? = some ((placeN big a).getD (big.length - d.length + i) 0) := by
    rw [List.getElem?_drop, List.getElem?_eq_getElem (by omega), getD_lt _ _ 0 (by omega)]
  rw [itl_getD, List.getD_eq_getElem?_getD, qN, pickN_get d _ i _ _ e1 e2]
  simp only [Option.getD_some]
  by_cases h1 : d.getD i 0 = 1
  · rw [if_pos h1, if_pos (by rw [h1]; rfl)]; rfl
  · rw [if_neg h1, if_neg (by omega)]
def fromB (d big : List Int) (a : Int) : Bool := decide (joinE d big = 0 ∧ joinL d big = big ∧ 0 ≤ a ∧ a < ((sizeN (ntl big) : Nat) : Int))
def fromI (d big : List Int) (a : Int) : Int := if fromB d big a = true then ((fromN (ntl d) (ntl big) a.toNat : Nat) : Int) else 0
theorem from_no {d big : List Int} {a : Int} (h : ¬ (joinE d big = 0 ∧ joinL d big = big ∧ 0 ≤ a ∧ a < ((sizeN (ntl big) : Nat) : Int))) : fromB d big a = false ∧ fromI d big a = 0 := by
  have h1 : fromB d big a = false := decide_eq_false h
  refine ⟨h1, ?_⟩
  unfold fromI
  rw [h1]
  rfl
/-- A place that is spread somewhere: all that is known of it. -/
theorem from_yes {d big : List Int} {a : Int} (h : joinE d big = 0 ∧ joinL d big = big ∧ 0 ≤ a ∧ a < ((sizeN (ntl big) : Nat) : Int)) : ∃ (x y : List Nat) (m : Nat), d = itl x ∧ big = itl y ∧ a = (m : Int) ∧ goodN x ∧ goodN y ∧ fitsN x y ∧ joinN x y = y ∧ m < prodN y ∧ fromB d big a = true ∧ fromI d big a = ((fromN x y m : Nat) : Int) := by
  have h0 := joinE_zero h.1
  obtain ⟨m, rfl⟩ := Int.eq_ofNat_of_zero_le h.2.2.1
  have hB : fromB d big (m : Int) = true := decide_eq_true h
  have hj : joinN (ntl d) (ntl big) = ntl big := by
    have := h.2.1
    unfold joinL at this
    rw [if_pos ⟨h0.1, h0.2.1, (fitsB_iff _ _).2 h0.2.2.1, h0.2.2.2⟩] at this
    have := congrArg ntl this
    rw [ntl_itl] at this
    exact this
  refine ⟨ntl d, ntl big, m, (itl_ntl h0.1.2.1).symm, (itl_ntl h0.2.1.2.1).symm, rfl, h0.1, h0.2.1, h0.2.2.1, hj, ?_, hB, ?_⟩
  · have := h.2.2.2
    rw [sizeN_good h0.2.1] at this
    exact Int.ofNat_lt.1 this
  · unfold fromI
    rw [if_pos hB]
    rfl
theorem mod_rng (x y : Int) (hy : 1 ≤ y) : 0 ≤ x % y ∧ x % y < y := ⟨Int.emod_nonneg _ (by omega), Int.emod_lt_of_pos _ (by omega)⟩
theorem mul_small (x y : Int) (hx : 0 ≤ x) (hx2 : x ≤ 4096) (hy : 0 ≤ y) (hy2 : y ≤ 4096) : 0 ≤ x * y ∧ x * y ≤ 16777216 := by
  have h1 : 0 ≤ x * y := Int.mul_nonneg hx hy
  have h2 : x * y ≤ 4096 * 4096 := Int.mul_le_mul hx2 hy2 hy (by omega)
  omega
end Go.Proofs.Ytbndiadgnglkhaa.Wd
