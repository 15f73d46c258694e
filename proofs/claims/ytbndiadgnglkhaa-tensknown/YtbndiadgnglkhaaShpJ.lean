/- Shapes: what two spread to, what is spread where, and how often. Nothing of the program is named here. -/
import Derived.Test.YtbndiadgnglkhaaShpM
namespace Go.Proofs.Ytbndiadgnglkhaa.Wd
open Go.RowKit
set_option linter.unusedVariables false
set_option linter.unusedSimpArgs false
/-- The sum of products, of the first k. -/
def dotK (p s : List Nat) : Nat → Nat
  | 0 => 0
  | k + 1 => dotK p s k + p.getD k 0 * s.getD k 0
theorem dotK_cons (p0 s0 : Nat) (p s : List Nat) : ∀ k, dotK (p0 :: p) (s0 :: s) (k + 1) = p0 * s0 + dotK p s k
  | 0 => by simp [dotK]
  | k + 1 => by
    rw [dotK, dotK_cons p0 s0 p s k, dotK]
    simp only [List.getD_cons_succ]
    omega
theorem dotK_strides : ∀ (d p : List Nat), p.length = d.length → dotK p (stridesN d) d.length = evalN d p
  | [], [], _ => rfl
  | d :: ds, p :: ps, h => by
    rw [stridesN, List.length_cons, dotK_cons, dotK_strides ds ps (by simpa using h), evalN]
  | [], _ :: _, h => by simp at h
  | _ :: _, [], h => by simp at h
/-- The i-th side from the last on (from 1), 1 where there is none. -/
def sideN (l : List Nat) (i : Nat) : Nat := if i ≤ l.length then l.getD (l.length - i) 1 else 1
theorem sideN_pos {l : List Nat} (h : ∀ x, x ∈ l → 1 ≤ x) (i : Nat) : 1 ≤ sideN l i := by
  unfold sideN
  split
  · rw [List.getD_eq_getElem?_getD]
    cases hc : l[l.length - i]? with
    | none => exact Nat.le_refl _
    | some x => exact h x (List.mem_of_getElem? hc)
  · exact Nat.le_refl _
theorem sideN_get (l : List Nat) (j : Nat) (h : j < l.length) : l[j]? = some (sideN l (l.length - j)) := by
  unfold sideN
  rw [if_pos (by omega), show l.length - (l.length - j) = j by omega, List.getD_eq_getElem?_getD, List.getElem?_eq_getElem h]
  rfl
theorem ext_side {a b : List Nat} (hl : a.length = b.length) (h : ∀ i, 1 ≤ i → i ≤ a.length → sideN a i = sideN b i) : a = b := by
  refine List.ext_getElem? fun j => ?_
  by_cases hj : j < a.length
  · rw [sideN_get a j hj, sideN_get b j (by omega), h (a.length - j) (by omega) (by omega), hl]
  · rw [List.getElem?_eq_none (by omega), List.getElem?_eq_none (by omega)]
/-- The list of n sides. -/
def ofSides (n : Nat) (f : Nat → Nat) : List Nat := (List.range n).map fun j => f (n - j)
theorem ofSides_len (n : Nat) (f : Nat → Nat) : (ofSides n f).length = n := by simp [ofSides]
theorem ofSides_side (n : Nat) (f : Nat → Nat) (i : Nat) (h1 : 1 ≤ i) (h : i ≤ n) : sideN (ofSides n f) i = f i := by
  unfold sideN
  rw [ofSides_len, if_pos h, List.getD_eq_getElem?_getD, ofSides, List.getElem?_map, List.getElem?_range (by omega)]
  simp only [Option.map_some, Option.getD_some]
  rw [show n - (n - i) = i by omega]
theorem sideN_far (l : List Nat) (i : Nat) (h : l.length < i) : sideN l i = 1 := by
  unfold sideN
  rw [if_neg (by omega)]
def joinN (a b : List Nat) : List Nat := ofSides (max a.length b.length) fun i => max (sideN a i) (sideN b i)
abbrev fitN (x y : Nat) : Prop := x = y ∨ x = 1 ∨ y = 1
def fitsN (a b : List Nat) : Prop := ∀ i, 1 ≤ i → i ≤ max a.length b.length → fitN (sideN a i) (sideN b i)
theorem joinN_len (a b : List Nat) : (joinN a b).length = max a.length b.length := ofSides_len _ _
theorem joinN_side (a b : List Nat) (i : Nat) (h : 1 ≤ i) : sideN (joinN a b) i = max (sideN a i) (sideN b i) := by
  by_cases hi : i ≤ max a.length b.length
  · exact ofSides_side _ _ i h hi
  · rw [sideN_far _ i (by rw [joinN_len]; omega), sideN_far a i (by omega), sideN_far b i (by omega)]
    rfl
theorem joinN_comm (a b : List Nat) : joinN a b = joinN b a :=
  ext_side (by rw [joinN_len, joinN_len, Nat.max_comm]) fun i h1 h2 => by rw [joinN_side _ _ _ h1, joinN_side _ _ _ h1, Nat.max_comm]
theorem fitN_comm {x y : Nat} : fitN x y ↔ fitN y x := by unfold fitN; omega
theorem fitsN_comm (a b : List Nat) : fitsN a b ↔ fitsN b a := by
  unfold fitsN
  rw [Nat.max_comm b.length]
  exact ⟨fun h i h1 h2 => fitN_comm.1 (h i h1 h2), fun h i h1 h2 => fitN_comm.1 (h i h1 h2)⟩
theorem fitsN_again {a b : List Nat} (ha : ∀ x, x ∈ a → 1 ≤ x) (hb : ∀ x, x ∈ b → 1 ≤ x) (h : fitsN a b) : fitsN (joinN a b) a := by
  intro i h1 h2
  rw [joinN_side _ _ _ h1]
  rw [joinN_len] at h2
  have := h i h1 (by omega)
  have p1 := sideN_pos ha i
  have p2 := sideN_pos hb i
  unfold fitN at *
  omega
theorem joinN_again (a b : List Nat) : joinN (joinN a b) a = joinN a b :=
  ext_side (by rw [joinN_len, joinN_len]; omega) fun i h1 h2 => by
    rw [joinN_side _ _ _ h1, joinN_side _ _ _ h1]
    omega
theorem sideN_nil (i : Nat) (h : 1 ≤ i) : sideN [] i = 1 := sideN_far _ _ (by rw [List.length_nil]; omega)
theorem fitsN_nil (a : List Nat) : fitsN a [] := fun i h1 h2 => .inr (.inr (sideN_nil i h1))
theorem joinN_nil {a : List Nat} (ha : ∀ x, x ∈ a → 1 ≤ x) : joinN a [] = a :=
  ext_side (by rw [joinN_len]; simp) fun i h1 h2 => by
    rw [joinN_side _ _ _ h1, sideN_nil i h1]
    have := sideN_pos ha i
    omega
theorem joinN_pos {a b : List Nat} (ha : ∀ x, x ∈ a → 1 ≤ x) : ∀ x, x ∈ joinN a b → 1 ≤ x := by
  intro x hx
  obtain ⟨j, hj, rfl⟩ := List.mem_map.1 hx
  have := sideN_pos ha (max a.length b.length - j)
  show 1 ≤ max _ _
  omega
/-- A shape spread to another's length: ones ahead. -/
def padN (n : Nat) (l : List Nat) : List Nat := List.replicate (n - l.length) 1 ++ l
theorem padN_len (n : Nat) (l : List Nat) (h : l.length ≤ n) : (padN n l).length = n := by simp [padN]; omega
theorem padN_side (n : Nat) (l : List Nat) (h : l.length ≤ n) (i : Nat) (h1 : 1 ≤ i) : sideN (padN n l) i = sideN l i := by
  by_cases hl : i ≤ l.length
  · unfold sideN
    rw [padN_len n l h, if_pos hl, if_pos (by omega), padN, List.getD_eq_getElem?_getD, List.getElem?_append_right (by simp; omega), List.getD_eq_getElem?_getD]
    congr 2
    simp
    omega
  · rw [sideN_far l i (by omega)]
    unfold sideN
    rw [padN_len n l h]
    split
    · rw [padN, List.getD_eq_getElem?_getD, List.getElem?_append_left (by simp; omega)]
      rw [List.getElem?_replicate]
      split <;> rfl
    · rfl
theorem prodN_ones (m : Nat) : prodN (List.replicate m 1) = 1 := by
  induction m with
  | zero => rfl
  | succ m ih => rw [List.replicate_succ, prodN, ih]
theorem prodN_pad (n : Nat) (l : List Nat) : prodN (padN n l) = prodN l := by rw [padN, prodN_append, prodN_ones, Nat.one_mul]
/-- What is spread where: of each side that is 1 its only number. -/
def pickN : List Nat → List Nat → List Nat
  | d :: ds, p :: ps => (if d = 1 then 0 else p) :: pickN ds ps
  | _, _ => []
theorem pickN_len : ∀ d p : List Nat, p.length = d.length → (pickN d p).length = d.length
  | [], [], _ => rfl
  | d :: ds, p :: ps, h => by simp [pickN, pickN_len ds ps (by simpa using h)]
  | [], _ :: _, h => by simp at h
  | _ :: _, [], h => by simp at h
theorem pickN_get : ∀ (d p : List Nat) (k : Nat) (x y : Nat), d[k]? = some x → p[k]? = some y → (pickN d p)[k]? = some (if x = 1 then 0 else y)
  | d :: ds, p :: ps, 0, x, y, hx, hy => by
    simp at hx hy
    subst hx hy
    rfl
  | d :: ds, p :: ps, k + 1, x, y, hx, hy => by
    simp only [pickN, List.getElem?_cons_succ]
    exact pickN_get ds ps k x y (by simpa using hx) (by simpa using hy)
  | [], _, k, x, y, hx, _ => by simp at hx
  | _ :: _, [], k, x, y, _, hy => by simp at hy
/-- The place of the number that is spread to the place a of big. -/
def fromN (d big : List Nat) (a : Nat) : Nat := evalN d (pickN d ((placeN big a).drop (big.length - d.length)))
/-- The same, side by side. -/
def frN : List Nat → List Nat → Nat → Nat
  | d :: ds, b :: bs, a => (if d = 1 then 0 else a / prodN bs) * prodN ds + frN ds bs (a % prodN bs)
  | _, _, _ => 0
theorem frN_eq : ∀ (d b : List Nat) (a : Nat), d.length = b.length → evalN d (pickN d (placeN b a)) = frN d b a
  | [], [], _, _ => rfl
  | d :: ds, b :: bs, a, h => by rw [placeN, pickN, evalN, frN_eq ds bs _ (by simpa using h), frN]
  | [], _ :: _, _, h => by simp at h
  | _ :: _, [], _, h => by simp at h
theorem eval_ones : ∀ (m : Nat) (d p : List Nat), p.length = m + d.length → evalN (List.replicate m 1 ++ d) (pickN (List.replicate m 1 ++ d) p) = evalN d (pickN d (p.drop m))
  | 0, d, p, h => by simp
  | m + 1, d, [], h => by simp at h; omega
  | m + 1, d, p :: ps, h => by
    rw [List.replicate_succ, List.cons_append, pickN, evalN, if_pos rfl, Nat.zero_mul, Nat.zero_add, eval_ones m d ps (by simp at h; omega), List.drop_succ_cons]
theorem fromN_fr (d big : List Nat) (a : Nat) (h : d.length ≤ big.length) : fromN d big a = frN (padN big.length d) big a := by
  rw [← frN_eq _ _ _ (padN_len _ _ h), padN, eval_ones _ d _ (by rw [placeN_len]; omega)]
  rfl
/-- Each side of d is 1 or big's. -/
def Spread : List Nat → List Nat → Prop
  | d :: ds, b :: bs => (d = 1 ∨ d = b) ∧ Spread ds bs
  | [], [] => True
  | _, _ => False
theorem spread_of : ∀ {d b : List Nat}, d.length = b.length → (∀ (k : Nat) (x y : Nat), d[k]? = some x → b[k]? = some y → x = 1 ∨ x = y) → Spread d b
  | [], [], _, _ => trivial
  | d :: ds, b :: bs, hl, h => ⟨h 0 d b rfl rfl, spread_of (by simpa using hl) fun k x y hx hy => h (k + 1) x y (by simpa using hx) (by simpa using hy)⟩
  | [], _ :: _, hl, _ => by simp at hl
  | _ :: _, [], hl, _ => by simp at hl
theorem join_big {d big : List Nat} (hd : ∀ x, x ∈ d → 1 ≤ x) (hb : ∀ x, x ∈ big → 1 ≤ x) (hf : fitsN d big) (hj : joinN d big = big) : d.length ≤ big.length ∧ Spread (padN big.length d) big := by
  have hl : d.length ≤ big.length := by
    have := congrArg List.length hj
    rw [joinN_len] at this
    omega
  refine ⟨hl, spread_of (padN_len _ _ hl) fun k x y hx hy => ?_⟩
  have hk : k < big.length := (List.getElem?_eq_some_iff.1 hy).1
  rw [sideN_get _ k (by rw [padN_len _ _ hl]; exact hk), padN_len _ _ hl, padN_side _ _ hl _ (by omega)] at hx
  rw [sideN_get _ k hk] at hy
  cases hx
  cases hy
  have h1 := hf (big.length - k) (by omega) (by omega)
  have h2 := congrArg (fun l => sideN l (big.length - k)) hj
  simp only [joinN_side _ _ _ (show 1 ≤ big.length - k by omega)] at h2
  have p1 := sideN_pos hd (big.length - k)
  have p2 := sideN_pos hb (big.length - k)
  unfold fitN at h1
  omega
theorem spread_len : ∀ {d b : List Nat}, Spread d b → d.length = b.length
  | [], [], _ => rfl
  | _ :: ds, _ :: bs, h => by simp [spread_len h.2]
  | [], _ :: _, h => h.elim
  | _ :: _, [], h => h.elim
theorem frN_lt : ∀ {d b : List Nat}, Spread d b → (∀ x, x ∈ b → 1 ≤ x) → ∀ a, a < prodN b → frN d b a < prodN d
  | [], [], _, _, a, _ => by simp [frN, prodN]
  | d :: ds, b :: bs, h, hb, a, ha => by
    have hp := prodN_pos (d := bs) fun y hy => hb y (List.mem_cons_of_mem _ hy)
    have ih := frN_lt h.2 (fun y hy => hb y (List.mem_cons_of_mem _ hy)) (a % prodN bs) (Nat.mod_lt _ hp)
    have hq : a / prodN bs < b := Nat.div_lt_of_lt_mul (by rw [Nat.mul_comm]; exact ha)
    have hk : (if d = 1 then 0 else a / prodN bs) < d := by
      rcases h.1 with e | e
      · rw [if_pos e]; omega
      · split <;> omega
    rw [frN, prodN]
    have := Nat.mul_le_mul_right (prodN ds) (show (if d = 1 then 0 else a / prodN bs) + 1 ≤ d from hk)
    rw [Nat.add_mul] at this
    omega
  | [], _ :: _, h, _, _, _ => h.elim
  | _ :: _, [], h, _, _, _ => h.elim
/-- How many of the first N numbers go to n. -/
def cnt (f : Nat → Nat) : Nat → Nat → Nat
  | 0, _ => 0
  | N + 1, n => cnt f N n + if f N = n then 1 else 0
theorem cnt_congr {f g : Nat → Nat} (n : Nat) : ∀ N, (∀ i, i < N → f i = g i) → cnt f N n = cnt g N n
  | 0, _ => rfl
  | N + 1, h => by rw [cnt, cnt, cnt_congr n N fun i hi => h i (by omega), h N (by omega)]
theorem cnt_add (f : Nat → Nat) (n a : Nat) : ∀ r, cnt f (a + r) n = cnt f a n + cnt (fun i => f (a + i)) r n
  | 0 => rfl
  | r + 1 => by rw [← Nat.add_assoc, cnt, cnt_add f n a r, cnt, Nat.add_assoc]
theorem cnt_block (f g h : Nat → Nat) (P S q m s : Nat) (hs : s < S) (hh : ∀ i, i < P → h i < S) (hf : ∀ i, i < P → f i = g q * S + h i) : cnt f P (m * S + s) = if g q = m then cnt h P s else 0 := by
  have key : ∀ N, N ≤ P → cnt f N (m * S + s) = if g q = m then cnt h N s else 0 := by
    intro N
    induction N with
    | zero => intro _; simp [cnt]
    | succ N ih =>
      intro hN
      have h1 := hh N (by omega)
      rw [cnt, ih (by omega), hf N (by omega), cnt]
      by_cases hq : g q = m
      · rw [if_pos hq, if_pos hq, hq]
        congr 1
        by_cases hc : h N = s
        · rw [if_pos hc, if_pos (by rw [hc])]
        · rw [if_neg hc, if_neg (by omega)]
      · rw [if_neg hq, if_neg hq, if_neg]
        intro e
        have e1 := congrArg (fun x => x / S) e
        simp only [Nat.mul_comm _ S, Nat.mul_add_div (show S > 0 by omega), Nat.div_eq_of_lt h1, Nat.div_eq_of_lt hs, Nat.add_zero] at e1
        exact hq e1
  exact key P (Nat.le_refl _)
theorem cnt_prod (f g h : Nat → Nat) (P S m s : Nat) (hs : s < S) (hh : ∀ i, i < P → h i < S) : ∀ B, (∀ q, q < B → ∀ i, i < P → f (q * P + i) = g q * S + h i) → cnt f (B * P) (m * S + s) = cnt g B m * cnt h P s
  | 0, _ => by simp [cnt]
  | B + 1, hf => by
    rw [Nat.add_mul, Nat.one_mul, cnt_add, cnt_prod f g h P S m s hs hh B (fun q hq => hf q (by omega)), cnt_block _ g h P S B m s hs hh (fun i hi => hf B (by omega) i hi), cnt, Nat.add_mul]
    congr 1
    split <;> simp
theorem cnt_const (B m : Nat) : cnt (fun _ => 0) B m = if m = 0 then B else 0 := by
  induction B with
  | zero => simp [cnt]
  | succ B ih =>
    rw [cnt, ih]
    by_cases h : m = 0
    · subst h; simp
    · rw [if_neg h, if_neg (by omega), if_neg h]
theorem cnt_id (B m : Nat) : cnt (fun i => i) B m = if m < B then 1 else 0 := by
  induction B with
  | zero => simp [cnt]
  | succ B ih =>
    rw [cnt, ih]
    by_cases h : m < B
    · rw [if_pos h, if_neg (by omega), if_pos (by omega)]
    · by_cases h' : B = m
      · rw [if_neg h, if_pos h', if_pos (by omega)]
      · rw [if_neg h, if_neg h', if_neg (by omega)]
/-- Each number of the smaller one is spread as often as the other ones. -/
theorem cnt_spread : ∀ {d b : List Nat}, Spread d b → (∀ x, x ∈ b → 1 ≤ x) → (∀ x, x ∈ d → 1 ≤ x) → ∀ n, n < prodN d → cnt (frN d b) (prodN b) n * prodN d = prodN b
  | [], [], _, _, _, n, hn => by
    simp only [prodN] at hn
    obtain rfl : n = 0 := by omega
    simp [cnt, frN, prodN]
  | d :: ds, b :: bs, h, hb, hd, n, hn => by
    have hb' : ∀ y, y ∈ bs → 1 ≤ y := fun y hy => hb y (List.mem_cons_of_mem _ hy)
    have hd' : ∀ y, y ∈ ds → 1 ≤ y := fun y hy => hd y (List.mem_cons_of_mem _ hy)
    have hp := prodN_pos hb'
    have hS := prodN_pos hd'
    have hd1 := hd d List.mem_cons_self
    have hs := Nat.mod_lt n hS
    have ih := cnt_spread h.2 hb' hd' (n % prodN ds) hs
    have hm : n / prodN ds < d := Nat.div_lt_of_lt_mul (by rw [Nat.mul_comm]; exact hn)
    have key := cnt_prod (frN (d :: ds) (b :: bs)) (fun q => if d = 1 then 0 else q) (frN ds bs) (prodN bs) (prodN ds) (n / prodN ds) (n % prodN ds) hs (fun i hi => frN_lt h.2 hb' i hi) b (fun q hq i hi => by
      rw [frN, Nat.mul_comm q, Nat.mul_add_div hp, Nat.div_eq_of_lt hi, Nat.add_zero, Nat.mul_add_mod, Nat.mod_eq_of_lt hi])
    rw [show n / prodN ds * prodN ds + n % prodN ds = n by rw [Nat.mul_comm]; exact Nat.div_add_mod n _] at key
    have hc : cnt (fun q => if d = 1 then 0 else q) b (n / prodN ds) * d = b := by
      by_cases e : d = 1
      · have : (fun q => if d = 1 then 0 else q) = fun _ => 0 := by funext q; rw [if_pos e]
        rw [this, cnt_const, if_pos (Nat.lt_one_iff.1 (by rw [← e]; exact hm)), e, Nat.mul_one]
      · have : (fun q => if d = 1 then 0 else q) = fun q => q := by funext q; rw [if_neg e]
        rw [this, cnt_id]
        rcases h.1 with e' | e'
        · exact absurd e' e
        · rw [if_pos (by omega), e', Nat.one_mul]
    rw [prodN, prodN, key]
    have e : ∀ u v : Nat, u * v * (d * prodN ds) = (u * d) * (v * prodN ds) := fun u v => by rw [Nat.mul_assoc, Nat.mul_assoc, Nat.mul_left_comm v d]
    rw [e, hc, ih]
  | [], _ :: _, h, _, _, _, _ => h.elim
  | _ :: _, [], h, _, _, _, _ => h.elim
/-- The same, of shapes of unlike length. -/
theorem cnt_from {d big : List Nat} (hd : ∀ x, x ∈ d → 1 ≤ x) (hb : ∀ x, x ∈ big → 1 ≤ x) (hf : fitsN d big) (hj : joinN d big = big) (n : Nat) (hn : n < prodN d) : cnt (fromN d big) (prodN big) n * prodN d = prodN big := by
  obtain ⟨hl, hs⟩ := join_big hd hb hf hj
  have := cnt_spread hs hb (by
    intro x hx
    rcases List.mem_append.1 hx with h | h
    · rw [(List.mem_replicate.1 h).2]; exact Nat.le_refl _
    · exact hd x h) n (by rw [prodN_pad]; exact hn)
  rw [prodN_pad] at this
  rw [cnt_congr n (prodN big) fun i _ => fromN_fr d big i hl]
  exact this
theorem fromN_lt {d big : List Nat} (hd : ∀ x, x ∈ d → 1 ≤ x) (hb : ∀ x, x ∈ big → 1 ≤ x) (hf : fitsN d big) (hj : joinN d big = big) (a : Nat) (ha : a < prodN big) : fromN d big a < prodN d := by
  obtain ⟨hl, hs⟩ := join_big hd hb hf hj
  rw [fromN_fr d big a hl, ← prodN_pad big.length d]
  exact frN_lt hs hb a ha
/-- A side of one ahead changes nothing. -/
theorem place_one (d : List Nat) (a : Nat) (h : a < prodN d) : placeN (1 :: d) a = 0 :: placeN d a := by
  rw [placeN, Nat.div_eq_of_lt h, Nat.mod_eq_of_lt h]
theorem pick_same : ∀ {d p : List Nat}, Inside d p → pickN d p = p
  | [], [], _ => rfl
  | d :: ds, p :: ps, h => by
    rw [pickN, pick_same h.2]
    congr 1
    have := h.1
    split <;> omega
  | [], _ :: _, h => h.elim
  | _ :: _, [], h => h.elim
theorem from_one (d : List Nat) (a : Nat) (hd : ∀ x, x ∈ d → 1 ≤ x) (h : a < prodN d) : fromN d (1 :: d) a = a := by
  unfold fromN
  rw [place_one d a h, List.length_cons, show d.length + 1 - d.length = 0 + 1 by omega, List.drop_succ_cons, List.drop_zero, pick_same (inside_place d a hd h), eval_place d a hd h]
theorem join_one {d : List Nat} (hd : ∀ x, x ∈ d → 1 ≤ x) : fitsN d (1 :: d) ∧ joinN d (1 :: d) = 1 :: d := by
  have e : ∀ i, 1 ≤ i → sideN (1 :: d) i = sideN d i := by
    have := padN_side (d.length + 1) d (by omega)
    rw [padN, show d.length + 1 - d.length = 1 by omega] at this
    exact this
  constructor
  · intro i h1 _
    left
    exact (e i h1).symm
  · refine ext_side (by rw [joinN_len]; simp) fun i h1 _ => ?_
    rw [joinN_side _ _ _ h1, e i h1, Nat.max_self]
end Go.Proofs.Ytbndiadgnglkhaa.Wd
