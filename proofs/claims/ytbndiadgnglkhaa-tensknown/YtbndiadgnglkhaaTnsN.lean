/- Tensors, as lists of numbers: sides in another order, and back; noughts; sums. Nothing of the program is named here. -/
import Derived.Test.YtbndiadgnglkhaaTnsM
namespace Go.Proofs.Ytbndiadgnglkhaa.Wd
open Go.RowKit
set_option linter.unusedVariables false
set_option linter.unusedSimpArgs false
/-- As many places, none named twice: each is named. -/
theorem inj_surj : ∀ (m : Nat) (f : Nat → Nat), (∀ k, k < m → f k < m) → (∀ i k, i < m → k < m → f i = f k → i = k) → ∀ j, j < m → ∃ k, k < m ∧ f k = j := by
  intro m
  induction m with
  | zero => intro f _ _ j hj; omega
  | succ m ih =>
    intro f hb hi j hj
    have hm : ∃ k, k < m + 1 ∧ f k = m := by
      rcases Nat.lt_or_ge (f m) m with hv | hv
      · -- else the first m would be named by the first m alone
        by_cases hex : ∃ k, k < m + 1 ∧ f k = m
        · exact hex
        · exfalso
          obtain ⟨k, hk, e⟩ := ih f (fun k hk => by
            have h1 := hb k (by omega)
            have h2 : f k ≠ m := fun e => hex ⟨k, by omega, e⟩
            omega) (fun i k hi' hk' e => hi i k (by omega) (by omega) e) (f m) hv
          have := hi k m (by omega) (by omega) e
          omega
      · exact ⟨m, by omega, by have := hb m (by omega); omega⟩
    obtain ⟨t, ht, ft⟩ := hm
    by_cases hjm : j = m
    · exact ⟨t, ht, by omega⟩
    · have hg := ih (fun k => if k = t then f m else f k) (fun k hk => by
        show (if k = t then f m else f k) < m
        by_cases hkt : k = t
        · rw [if_pos hkt]
          have h1 := hb m (by omega)
          have h2 : f m ≠ m := fun e => by
            have := hi m t (by omega) ht (by omega)
            omega
          omega
        · rw [if_neg hkt]
          have h1 := hb k (by omega)
          have h2 : f k ≠ m := fun e => hkt (hi k t (by omega) ht (by omega))
          omega) (fun i k hi' hk' e => by
        have e : (if i = t then f m else f i) = (if k = t then f m else f k) := e
        by_cases hit : i = t
        · by_cases hkt : k = t
          · omega
          · rw [if_pos hit, if_neg hkt] at e
            have := hi m k (by omega) (by omega) e
            omega
        · by_cases hkt : k = t
          · rw [if_neg hit, if_pos hkt] at e
            have := hi i m (by omega) (by omega) e
            omega
          · rw [if_neg hit, if_neg hkt] at e
            exact hi i k (by omega) (by omega) e) j (by omega)
      obtain ⟨k, hk, e⟩ := hg
      have e : (if k = t then f m else f k) = j := e
      by_cases hkt : k = t
      · rw [if_pos hkt] at e
        exact ⟨m, by omega, e⟩
      · rw [if_neg hkt] at e
        exact ⟨k, by omega, e⟩
theorem order_of {n : Nat} {o : List Nat} (hl : o.length = n) (hb : ∀ k, k < n → o.getD k 0 < n) (hi : ∀ i k, i < n → k < n → o.getD i 0 = o.getD k 0 → i = k) : orderN n o := by
  refine ⟨hl, fun x hx => ?_, inj_surj n (fun k => o.getD k 0) hb hi⟩
  obtain ⟨k, hk, rfl⟩ := List.mem_iff_getElem.1 hx
  have := hb k (by omega)
  rw [getD_lt o k 0 hk] at this
  exact this
theorem unpK_at {n : Nat} {o : List Nat} (h : orderN n o) (p : List Nat) : ∀ k, k ≤ n → ∀ i, i < k → (unpK o p n k).getD (o.getD i 0) 0 = p.getD i 0
  | 0, _, i, hi => by omega
  | k + 1, hk, i, hi => by
    have hlt : ∀ x, x < n → o.getD x 0 < n := fun x hx => by
      rw [getD_lt o x 0 (by rw [h.1]; exact hx)]
      exact h.2.1 _ (List.getElem_mem _)
    rw [unpK, getD_set _ _ _ _ (by rw [unpK_len]; exact hlt i (by omega))]
    by_cases e : o.getD k 0 = o.getD i 0
    · rw [if_pos e, order_inj h k i (by omega) (by omega) e]
    · rw [if_neg e]
      exact unpK_at h p k (by omega) i (by
        have : i ≠ k := fun e' => e (by rw [e'])
        omega)
def unp (o p : List Nat) (n : Nat) : List Nat := unpK o p n n
theorem unp_len (o p : List Nat) (n : Nat) : (unp o p n).length = n := unpK_len o p n n
theorem unp_at {n : Nat} {o : List Nat} (h : orderN n o) (p : List Nat) (i : Nat) (hi : i < n) : (unp o p n).getD (o.getD i 0) 0 = p.getD i 0 := unpK_at h p n (Nat.le_refl _) i hi
theorem inside_unp {d o p : List Nat} (h : orderN d.length o) (hp : Inside (dimsT d o) p) : Inside d (unp o p d.length) := by
  refine inside_of (unp_len _ _ _) fun j x y hx hy => ?_
  have hj : j < d.length := (List.getElem?_eq_some_iff.1 hx).1
  obtain ⟨k, hk, e⟩ := h.2.2 j hj
  have h1 := unp_at h p k hk
  rw [e, List.getD_eq_getElem?_getD, hy] at h1
  have h2 := dimsT_get d o k (by rw [h.1]; exact hk)
  rw [e, List.getD_eq_getElem?_getD (l := d), hx] at h2
  have hpl : p.length = o.length := by rw [inside_len hp, dimsT_len]
  have h3 := inside_get hp k ((dimsT d o).getD k 0) (p.getD k 0) (by rw [List.getElem?_eq_getElem (by rw [dimsT_len, h.1]; exact hk), getD_lt _ k 0 (by rw [dimsT_len, h.1]; exact hk)]) (by rw [List.getElem?_eq_getElem (by rw [hpl, h.1]; exact hk), getD_lt _ k 0 (by rw [hpl, h.1]; exact hk)])
  have h1 : y = p.getD k 0 := h1
  have h2 : (dimsT d o).getD k 0 = x := h2
  omega
/-- The product of m numbers, place by place. -/
def prodF (f : Nat → Nat) : Nat → Nat
  | 0 => 1
  | m + 1 => prodF f m * f m
theorem prodF_congr {f g : Nat → Nat} : ∀ m, (∀ k, k < m → f k = g k) → prodF f m = prodF g m
  | 0, _ => rfl
  | m + 1, h => by rw [prodF, prodF, prodF_congr m fun k hk => h k (by omega), h m (by omega)]
theorem prodF_one (f : Nat → Nat) (t x : Nat) : ∀ m, t < m → prodF f m * x = prodF (fun k => if k = t then x else f k) m * f t
  | 0, h => by omega
  | m + 1, h => by
    rw [prodF, prodF]
    by_cases e : t = m
    · subst e
      rw [if_pos rfl, prodF_congr (g := fun k => if k = t then x else f k) t fun k hk => by rw [if_neg (by omega)]]
      rw [Nat.mul_assoc, Nat.mul_assoc, Nat.mul_comm (f t)]
    · rw [if_neg (by omega), Nat.mul_assoc, Nat.mul_comm (f m), ← Nat.mul_assoc, prodF_one f t x m (by omega), Nat.mul_assoc, Nat.mul_assoc, Nat.mul_comm (f t)]
theorem prodF_turn (d : Nat → Nat) : ∀ (m : Nat) (f : Nat → Nat), (∀ k, k < m → f k < m) → (∀ i k, i < m → k < m → f i = f k → i = k) → prodF (fun k => d (f k)) m = prodF d m := by
  intro m
  induction m with
  | zero => intro f _ _; rfl
  | succ m ih =>
    intro f hb hi
    obtain ⟨t, ht, ft⟩ := inj_surj (m + 1) f hb hi m (by omega)
    have hmt : ∀ k, k < m + 1 → k ≠ t → f k < m := fun k hk hkt => by
      have h1 := hb k hk
      have h2 : f k ≠ m := fun e => hkt (hi k t hk ht (by omega))
      omega
    by_cases htm : t = m
    · subst htm
      rw [prodF, prodF, ft, ih f (fun k hk => hmt k (by omega) (by omega)) fun i k hi' hk' e => hi i k (by omega) (by omega) e]
    · have h1 := prodF_one (fun k => d (f k)) t (d (f m)) m (by omega)
      rw [prodF, prodF, h1]
      show prodF (fun k => if k = t then d (f m) else d (f k)) m * d (f t) = prodF d m * d m
      rw [ft]
      congr 1
      have h2 := ih (fun k => if k = t then f m else f k) (fun k hk => by
        show (if k = t then f m else f k) < m
        by_cases hkt : k = t
        · rw [if_pos hkt]; exact hmt m (by omega) (by omega)
        · rw [if_neg hkt]; exact hmt k (by omega) hkt) (fun i k hi' hk' e => by
        have e : (if i = t then f m else f i) = (if k = t then f m else f k) := e
        by_cases hit : i = t
        · by_cases hkt : k = t
          · omega
          · rw [if_pos hit, if_neg hkt] at e
            have := hi m k (by omega) (by omega) e
            omega
        · by_cases hkt : k = t
          · rw [if_neg hit, if_pos hkt] at e
            have := hi i m (by omega) (by omega) e
            omega
          · rw [if_neg hit, if_neg hkt] at e
            exact hi i k (by omega) (by omega) e)
      rw [← h2]
      exact prodF_congr m fun k hk => by
        by_cases hkt : k = t
        · rw [if_pos hkt, if_pos hkt]
        · rw [if_neg hkt, if_neg hkt]
theorem prodN_F : ∀ (m : Nat) (d : List Nat), d.length = m → prodN d = prodF (fun k => d.getD k 0) m := by
  intro m
  induction m with
  | zero =>
    intro d h
    have : d = [] := List.eq_nil_of_length_eq_zero h
    subst this
    rfl
  | succ m ih =>
    intro d h
    have e : d = d.take m ++ [d.getD m 0] := by
      have h1 := List.take_succ_eq_append_getElem (l := d) (i := m) (by omega)
      have h0 : d.take (m + 1) = d := List.take_of_length_le (by omega)
      rw [h0] at h1
      rw [getD_lt d m 0 (by omega)]
      exact h1
    have h2 : prodN d = prodN (d.take m) * d.getD m 0 := by
      have h3 := congrArg prodN e
      rw [prodN_append] at h3
      rw [h3]
      simp [prodN]
    rw [h2, prodF, ih (d.take m) (by simp; omega)]
    congr 1
    refine prodF_congr m fun k hk => ?_
    rw [List.getD_eq_getElem?_getD, List.getElem?_take_of_lt hk, List.getD_eq_getElem?_getD]
/-- The sides in another order come to as many numbers. -/
theorem prodN_turn {d o : List Nat} (h : orderN d.length o) : prodN (dimsT d o) = prodN d := by
  have hlt : ∀ x, x < d.length → o.getD x 0 < d.length := fun x hx => by
    rw [getD_lt o x 0 (by rw [h.1]; exact hx)]
    exact h.2.1 _ (List.getElem_mem _)
  rw [prodN_F d.length (dimsT d o) (by rw [dimsT_len, h.1]), prodN_F d.length d rfl, ← prodF_turn (fun k => d.getD k 0) d.length (fun k => o.getD k 0) hlt (order_inj h)]
  exact prodF_congr _ fun k hk => dimsT_get d o k (by rw [h.1]; exact hk)
theorem good_turn {d o : List Nat} (hd : goodN d) (h : orderN d.length o) : goodN (dimsT d o) := by
  refine ⟨by rw [dimsT_len, h.1]; exact hd.1, fun x hx => ?_, by rw [prodN_turn h]; exact hd.2.2⟩
  obtain ⟨j, hj, rfl⟩ := List.mem_map.1 hx
  have := h.2.1 j hj
  exact (hd.at j this).1
/-- Where the turned tensor's i-th number stood. -/
def turnI (d o : List Nat) (i : Nat) : Nat := evalN d (unp o (placeN (dimsT d o) i) d.length)
theorem turnI_lt {d o : List Nat} (hd : goodN d) (h : orderN d.length o) (i : Nat) (hi : i < prodN d) : turnI d o i < prodN d :=
  eval_lt (inside_unp h (inside_place _ i (good_turn hd h).2.1 (by rw [prodN_turn h]; exact hi)))
/-- The order back. -/
def backN (o : List Nat) (n : Nat) : List Nat := unp o (List.range n) n
theorem backN_at {n : Nat} {o : List Nat} (h : orderN n o) (i : Nat) (hi : i < n) : (backN o n).getD (o.getD i 0) 0 = i := by
  rw [backN, unp_at h _ i hi, List.getD_eq_getElem?_getD, List.getElem?_range hi]
  rfl
theorem backN_order {n : Nat} {o : List Nat} (h : orderN n o) : orderN n (backN o n) := by
  have hlt : ∀ x, x < n → o.getD x 0 < n := fun x hx => by
    rw [getD_lt o x 0 (by rw [h.1]; exact hx)]
    exact h.2.1 _ (List.getElem_mem _)
  refine ⟨unp_len _ _ _, fun x hx => ?_, fun j hj => ⟨o.getD j 0, hlt j hj, backN_at h j hj⟩⟩
  obtain ⟨k, hk, rfl⟩ := List.mem_iff_getElem.1 hx
  rw [backN, unp_len] at hk
  obtain ⟨t, ht, e⟩ := h.2.2 k hk
  have := backN_at h t ht
  rw [e, getD_lt _ _ _ (by rw [backN, unp_len]; exact hk)] at this
  rw [this]
  exact ht
theorem dims_back {d o : List Nat} (h : orderN d.length o) : dimsT (dimsT d o) (backN o d.length) = d := by
  refine List.ext_getElem (by rw [dimsT_len, backN, unp_len]) fun j h1 h2 => ?_
  obtain ⟨k, hk, e⟩ := h.2.2 j h2
  have hj := dimsT_get (dimsT d o) (backN o d.length) j (by rw [backN, unp_len]; exact h2)
  have hb := backN_at h k hk
  rw [e] at hb
  rw [hb, dimsT_get d o k (by rw [h.1]; exact hk), e, getD_lt _ _ _ h1, getD_lt _ _ _ h2] at hj
  exact hj
/-- Sides that change places and back: each number stands where it stood. -/
theorem turn_back {d o : List Nat} (hd : goodN d) (h : orderN d.length o) (i : Nat) (hi : i < prodN d) : turnI d o (turnI (dimsT d o) (backN o d.length) i) = i := by
  have hdl : (dimsT d o).length = d.length := by rw [dimsT_len, h.1]
  have hb : orderN (dimsT d o).length (backN o d.length) := by rw [hdl]; exact backN_order h
  have hp := inside_place d i hd.2.1 hi
  have hq : Inside (dimsT d o) (unp (backN o d.length) (placeN d i) (dimsT d o).length) := by
    have := inside_unp (d := dimsT d o) (p := placeN d i) hb (by rw [dims_back h]; exact hp)
    exact this
  unfold turnI
  rw [dims_back h, place_eval hq]
  have e : unp o (unp (backN o d.length) (placeN d i) (dimsT d o).length) d.length = placeN d i := by
    refine List.ext_getElem (by rw [unp_len, placeN_len]) fun j h1 h2 => ?_
    rw [unp_len] at h1
    obtain ⟨k, hk, e⟩ := h.2.2 j h1
    have u1 := unp_at h (unp (backN o d.length) (placeN d i) (dimsT d o).length) k hk
    obtain ⟨t, ht, e2⟩ := hb.2.2 k (by rw [hdl]; exact hk)
    have u2 := unp_at hb (placeN d i) t ht
    rw [e2] at u2
    have hbt := backN_at h k hk
    rw [e] at hbt
    have : j = t := order_inj hb j t (by rw [hdl]; exact h1) ht (by rw [hbt, e2])
    rw [u2, e, ← this, getD_lt _ _ _ (by rw [unp_len]; exact h1), getD_lt _ _ _ h2] at u1
    exact u1
  rw [e, eval_place d i hd.2.1 hi]
/-- A fold: each number is added where it is spread from, in order. -/
def foldK (add : Int → Int → Int) (f : Nat → Nat) (v : Nat → Int) (S : Nat) : Nat → List Int
  | 0 => List.replicate S 0
  | k + 1 => (foldK add f v S k).set (f k) (add ((foldK add f v S k).getD (f k) 0) (v k))
theorem foldK_len (add : Int → Int → Int) (f : Nat → Nat) (v : Nat → Int) (S : Nat) : ∀ k, (foldK add f v S k).length = S
  | 0 => by simp [foldK]
  | k + 1 => by rw [foldK, List.length_set, foldK_len add f v S k]
/-- A fold to its own shape. -/
theorem foldK_id (add : Int → Int → Int) (v : Nat → Int) (S : Nat) (h0 : ∀ k, k < S → add 0 (v k) = v k) : ∀ k, k ≤ S → foldK add (fun i => i) v S k = (List.range S).map fun i => if i < k then v i else 0
  | 0, _ => by
    refine List.ext_getElem (by simp [foldK]) fun i h1 h2 => ?_
    simp [foldK]
  | k + 1, hk => by
    rw [foldK, foldK_id add v S h0 k (by omega)]
    refine List.ext_getElem (by simp) fun i h1 h2 => ?_
    rw [List.getElem_set]
    simp only [List.getElem_map, List.getElem_range]
    by_cases e : k = i
    · subst e
      rw [if_pos rfl, if_pos (by omega), getD_lt _ _ _ (by simp; omega)]
      simp only [List.getElem_map, List.getElem_range]
      rw [if_neg (by omega), h0 k (by omega)]
    · rw [if_neg e]
      by_cases h : i < k
      · rw [if_pos h, if_pos (by omega)]
      · rw [if_neg h, if_neg (by omega)]
theorem from_same {d : List Nat} (hd : goodN d) (i : Nat) (hi : i < prodN d) : fromN d d i = i := by
  unfold fromN
  rw [Nat.sub_self, List.drop_zero, pick_same (inside_place d i hd.2.1 hi), eval_place d i hd.2.1 hi]
theorem join_same (d : List Nat) : fitsN d d ∧ joinN d d = d := by
  constructor
  · intro i _ _
    exact .inl rfl
  · refine ext_side (by rw [joinN_len, Nat.max_self]) fun i h1 _ => ?_
    rw [joinN_side _ _ _ h1, Nat.max_self]
/-- Nothing at all is spread everywhere. -/
theorem from_nil (big : List Nat) (i : Nat) : fromN [] big i = 0 := by
  unfold fromN
  cases (pickN [] ((placeN big i).drop (big.length - ([] : List Nat).length))) <;> rfl
end Go.Proofs.Ytbndiadgnglkhaa.Wd
