/- Windows, as lists of numbers: sums in any order, sums of sums as one sum, the greatest of so many and the first place where it stands. Nothing of the program is named here. -/
import Derived.Test.YtnicknnhboanoaaDoorMtM
namespace Go.Proofs.YtnicknnhboanoaaDoor.Wd
open Go.RowKit Fx
set_option linter.unusedVariables false
set_option linter.unusedSimpArgs false
theorem sumI_zero : ∀ n, sumI (fun _ => 0) n = 0
  | 0 => rfl
  | n + 1 => by rw [sumI, sumI_zero n]; rfl
theorem sumI_none {f : Nat → Int} (n : Nat) (h : ∀ k, k < n → f k = 0) : sumI f n = 0 := by rw [sumI_congr n h, sumI_zero]
theorem sumI_add (f g : Nat → Int) : ∀ n, sumI (fun k => f k + g k) n = sumI f n + sumI g n
  | 0 => rfl
  | n + 1 => by rw [sumI, sumI, sumI, sumI_add f g n]; omega
theorem sumI_split (f : Nat → Int) (n : Nat) : ∀ m, sumI f (n + m) = sumI f n + sumI (fun k => f (n + k)) m
  | 0 => by simp [sumI]
  | m + 1 => by rw [← Nat.add_assoc, sumI, sumI_split f n m, sumI]; omega
/-- Two sums, the one in the other, in either order. -/
theorem sumI_swap (f : Nat → Nat → Int) (n : Nat) : ∀ m, sumI (fun i => sumI (fun j => f i j) n) m = sumI (fun j => sumI (fun i => f i j) m) n
  | 0 => by simp only [sumI]; rw [sumI_zero]
  | m + 1 => by
    rw [sumI, sumI_swap f n m, ← sumI_add]
    rfl
/-- Of a sum where one place alone counts: what stands there. -/
theorem sumI_one (f : Nat → Int) (j : Nat) (n : Nat) (h : ∀ k, k < n → k ≠ j → f k = 0) : sumI f n = if j < n then f j else 0 := by
  rw [← sumI_pick (f j) j n]
  refine sumI_congr n fun k hk => ?_
  by_cases e : k = j
  · rw [if_pos e, e]
  · rw [if_neg e, h k hk e]
/-- A sum of sums of w each, as one. -/
def flatS (f : Nat → Nat → Int) (w m : Nat) : Int := sumI (fun q => f (q / w) (q % w)) m
theorem flat_zero (f : Nat → Nat → Int) (w : Nat) : flatS f w 0 = 0 := rfl
theorem flat_step (f : Nat → Nat → Int) {w x y : Nat} (hy : y < w) : flatS f w (x * w + (y + 1)) = flatS f w (x * w + y) + f x y := by
  show sumI _ (x * w + y + 1) = _
  rw [sumI, pair_div _ _ _ hy, pair_mod _ _ _ hy]
  rfl
theorem flat_row (f : Nat → Nat → Int) (w x : Nat) : flatS f w (x * w + w) = flatS f w ((x + 1) * w) := by rw [Nat.add_mul, Nat.one_mul]
theorem flat_sum (f : Nat → Nat → Int) (w : Nat) : ∀ c, flatS f w (c * w) = sumI (fun x => sumI (fun y => f x y) w) c
  | 0 => by rw [Nat.zero_mul]; rfl
  | c + 1 => by
    rw [sumI, ← flat_sum f w c, Nat.add_mul, Nat.one_mul]
    show sumI _ (c * w + w) = sumI _ (c * w) + _
    rw [sumI_split]
    congr 1
    refine sumI_congr w fun y hy => ?_
    rw [pair_div _ _ _ hy, pair_mod _ _ _ hy]
/-- Sums of sums of products of numbers are no more than the reference's numbers hold. -/
theorem flat_room {f : Nat → Nat → Int} {B : Int} (hB : 0 ≤ B) (w m : Nat) (h : ∀ q, q < m → -B ≤ f (q / w) (q % w) ∧ f (q / w) (q % w) ≤ B) : -(B * m) ≤ flatS f w m ∧ flatS f w m ≤ B * m := sumI_rng hB m h
/-- Where the greatest of v's m + 1 numbers from b on stands first. -/
def bestK (v : List Int) (b : Nat) : Nat → Nat
  | 0 => b
  | m + 1 => if v.getD (bestK v b m) 0 < v.getD (b + (m + 1)) 0 then b + (m + 1) else bestK v b m
theorem bestK_in (v : List Int) (b : Nat) : ∀ m, b ≤ bestK v b m ∧ bestK v b m ≤ b + m
  | 0 => ⟨Nat.le_refl _, Nat.le_refl _⟩
  | m + 1 => by
    have := bestK_in v b m
    rw [bestK]
    split <;> omega
theorem bestK_most (v : List Int) (b : Nat) : ∀ m k, b ≤ k → k ≤ b + m → v.getD k 0 ≤ v.getD (bestK v b m) 0
  | 0, k, h1, h2 => by
    obtain rfl : k = b := by omega
    exact Int.le_refl _
  | m + 1, k, h1, h2 => by
    rw [bestK]
    by_cases hk : k ≤ b + m
    · have := bestK_most v b m k h1 hk
      split
      · omega
      · exact this
    · obtain rfl : k = b + (m + 1) := by omega
      split
      · exact Int.le_refl _
      · omega
theorem bestK_first (v : List Int) (b : Nat) : ∀ m k, b ≤ k → k < bestK v b m → v.getD k 0 < v.getD (bestK v b m) 0
  | 0, k, h1, h2 => by rw [bestK] at h2; omega
  | m + 1, k, h1, h2 => by
    rw [bestK] at h2 ⊢
    split at h2
    · rename_i hc
      rw [if_pos hc]
      have := bestK_most v b m k h1 (by omega)
      omega
    · rename_i hc
      rw [if_neg hc]
      exact bestK_first v b m k h1 h2
/-- A Row's number: c rows of l, windows of c by w, at step. -/
def convN (c l w n step : Nat) (a k : List Int) (q : Nat) : Int := rnd (flatS (fun x y => a.getD (x * l + q % n * step + y) 0 * k.getD ((q / n * c + x) * w + y) 0) w (c * w))
def convV (c l w o n step : Nat) (a k : List Int) : List Int := (List.range (o * n)).map (convN c l w n step a k)
theorem convV_len (c l w o n step : Nat) (a k : List Int) : (convV c l w o n step a k).length = o * n := by simp [convV]
theorem convV_at (c l w o n step : Nat) (a k : List Int) (q : Nat) (h : q < o * n) : (convV c l w o n step a k).getD q 0 = convN c l w n step a k q := getD_map_range _ _ _ _ h
/-- ConvOne: one number, One, at a step of 1. -/
theorem conv_one {l : Nat} {a : List Int} (h : a.length = l) (ha : ∀ y, y ∈ a → InR y) : convV 1 l 1 1 l 1 a [4294967296] = a := by
  refine List.ext_getElem (by rw [convV_len, h, Nat.one_mul]) fun i h1 h2 => ?_
  rw [convV_len, Nat.one_mul] at h1
  have e1 : (convV 1 l 1 1 l 1 a [4294967296]).getD i 0 = (convV 1 l 1 1 l 1 a [4294967296])[i]'(by rw [convV_len, Nat.one_mul]; exact h1) := by simp [convV_len, h1]
  have e2 : a.getD i 0 = a[i] := by simp [h2]
  rw [← e1, ← e2, convV_at _ _ _ _ _ _ _ _ _ (by rw [Nat.one_mul]; exact h1)]
  unfold convN flatS
  simp only [Nat.mul_one, sumI, Nat.div_one, Nat.mod_one, Nat.zero_mul, Nat.zero_add, Nat.add_zero, Int.zero_add, Nat.div_eq_of_lt h1, Nat.mod_eq_of_lt h1]
  show rnd (a.getD i 0 * 4294967296) = _
  exact rnd_whole (getD_inR ha i)
/-- ConvWhole: a window as wide as the row. -/
theorem conv_whole (a k : List Int) (h : k.length = a.length) : convN 1 a.length a.length 1 1 a k 0 = dotI a k := by
  unfold convN flatS dotI dotS
  rw [h, Nat.min_self, Nat.one_mul]
  congr 1
  refine sumI_congr _ fun q hq => ?_
  rw [Nat.div_eq_of_lt hq, Nat.mod_eq_of_lt hq]
  simp
/-- ConvShifts: a number ahead of the row: what it gave, one later. -/
theorem conv_shift (f : Int) (a k : List Int) (l w n i : Nat) (hi : i + 1 < n + 1) : convN 1 (l + 1) w (n + 1) 1 (f :: a) k (i + 1) = convN 1 l w n 1 a k i := by
  unfold convN flatS
  congr 1
  refine sumI_congr _ fun q hq => ?_
  rw [Nat.one_mul] at hq
  rw [Nat.div_eq_of_lt hq, Nat.mod_eq_of_lt hq, Nat.mod_eq_of_lt hi, Nat.mod_eq_of_lt (show i < n by omega), Nat.div_eq_of_lt hi, Nat.div_eq_of_lt (show i < n by omega)]
  simp only [Nat.zero_mul, Nat.zero_add, Nat.mul_one]
  congr 1
  rw [show i + 1 + q = (i + q) + 1 by omega]
  rfl
/-- What a gradient gives for the rows: one product, where the window's place j comes to l. -/
def bkT (c n w step : Nat) (g k : List Int) (x l i j : Nat) : Int := if j * step ≤ l ∧ l - j * step < w then g.getD (i * n + j) 0 * k.getD ((i * c + x) * w + (l - j * step)) 0 else 0
def gradN (o c n w step long : Nat) (g k : List Int) (q : Nat) : Int := rnd (sumI (fun j => sumI (fun i => bkT c n w step g k (q / long) (q % long) i j) o) n)
def gradV (o c n w step long : Nat) (g k : List Int) : List Int := (List.range (c * long)).map (gradN o c n w step long g k)
theorem gradV_len (o c n w step long : Nat) (g k : List Int) : (gradV o c n w step long g k).length = c * long := by simp [gradV]
theorem gradV_at (o c n w step long : Nat) (g k : List Int) (q : Nat) (h : q < c * long) : (gradV o c n w step long g k).getD q 0 = gradN o c n w step long g k q := getD_map_range _ _ _ _ h
theorem back_swap (o c n w step long : Nat) (g k : List Int) (q : Nat) : gradN o c n w step long g k q = rnd (sumI (fun i => sumI (fun j => bkT c n w step g k (q / long) (q % long) i j) n) o) := by
  unfold gradN
  rw [sumI_swap]
/-- The same, over all numbers of the window. -/
theorem bk_window (c n w step : Nat) (g k : List Int) (x l i j : Nat) : bkT c n w step g k x l i j = sumI (fun y => if j * step + y = l then g.getD (i * n + j) 0 * k.getD ((i * c + x) * w + y) 0 else 0) w := by
  unfold bkT
  by_cases h1 : j * step ≤ l
  · rw [sumI_one _ (l - j * step) w fun y hy hne => by rw [if_neg (by omega)]]
    by_cases h2 : l - j * step < w
    · rw [if_pos ⟨h1, h2⟩, if_pos h2, if_pos (by omega)]
    · rw [if_neg (fun c => h2 c.2), if_neg h2]
  · rw [if_neg (fun c => h1 c.1), sumI_none w fun y hy => by rw [if_neg (by omega)]]
/-- What a gradient gives for the windows. -/
def kerN (c n l wide step : Nat) (g a : List Int) (q : Nat) : Int := rnd (sumI (fun j => g.getD (q / wide / c * n + j) 0 * a.getD (q / wide % c * l + j * step + q % wide) 0) n)
def kerV (o c n l wide step : Nat) (g a : List Int) : List Int := (List.range (o * c * wide)).map (kerN c n l wide step g a)
theorem kerV_len (o c n l wide step : Nat) (g a : List Int) : (kerV o c n l wide step g a).length = o * c * wide := by simp [kerV]
theorem kerV_at (o c n l wide step : Nat) (g a : List Int) (q : Nat) (h : q < o * c * wide) : (kerV o c n l wide step g a).getD q 0 = kerN c n l wide step g a q := getD_map_range _ _ _ _ h
/-- ConvOne: a gradient comes back through it as it is. -/
theorem back_one {l : Nat} {a : List Int} (h : a.length = l) (ha : ∀ y, y ∈ a → InR y) : gradV 1 1 l 1 1 l a [4294967296] = a := by
  refine List.ext_getElem (by rw [gradV_len, h, Nat.one_mul]) fun i h1 h2 => ?_
  rw [gradV_len, Nat.one_mul] at h1
  have e1 : (gradV 1 1 l 1 1 l a [4294967296]).getD i 0 = (gradV 1 1 l 1 1 l a [4294967296])[i]'(by rw [gradV_len, Nat.one_mul]; exact h1) := by simp [gradV_len, h1]
  have e2 : a.getD i 0 = a[i] := by simp [h2]
  rw [← e1, ← e2, gradV_at _ _ _ _ _ _ _ _ _ (by rw [Nat.one_mul]; exact h1)]
  unfold gradN
  rw [sumI_one _ i l fun j hj hne => ?_, if_pos h1]
  · simp only [sumI, Int.zero_add]
    unfold bkT
    rw [Nat.div_eq_of_lt h1, Nat.mod_eq_of_lt h1, if_pos ⟨by omega, by omega⟩]
    simp only [Nat.mul_one, Nat.sub_self, Nat.zero_mul, Nat.zero_add]
    show rnd (a.getD i 0 * 4294967296) = _
    exact rnd_whole (getD_inR ha i)
  · simp only [sumI, Int.zero_add]
    unfold bkT
    rw [Nat.mod_eq_of_lt h1, if_neg (by omega)]
/-- The greatest of each wide numbers: where they stand, and they. -/
def poolP (l n wide : Nat) (v : List Int) (q : Nat) : Nat := bestK v (q / n * l + q % n * wide) (wide - 1)
def poolA (c l n wide : Nat) (v : List Int) : List Int := (List.range (c * n)).map fun q => ((poolP l n wide v q : Nat) : Int)
def poolV (c l n wide : Nat) (v : List Int) : List Int := (List.range (c * n)).map fun q => v.getD (poolP l n wide v q) 0
theorem poolA_len (c l n wide : Nat) (v : List Int) : (poolA c l n wide v).length = c * n := by simp [poolA]
theorem poolV_len (c l n wide : Nat) (v : List Int) : (poolV c l n wide v).length = c * n := by simp [poolV]
theorem pool_lt {c l n wide q : Nat} (v : List Int) (hq : q < c * n) (hw : 1 ≤ wide) (hn : n * wide ≤ l) : q / n * l + q % n * wide + wide ≤ c * l ∧ poolP l n wide v q < c * l := by
  have hq' : q < n * c := by rw [Nat.mul_comm]; exact hq
  have hn0 := side_pos hq'
  have h1 : q / n < c := div_side hq'
  have h2 : q % n < n := Nat.mod_lt _ hn0
  have h3 : (q % n + 1) * wide ≤ n * wide := Nat.mul_le_mul_right _ h2
  have h4 : (q / n + 1) * l ≤ c * l := Nat.mul_le_mul_right _ h1
  rw [Nat.add_mul, Nat.one_mul] at h3 h4
  have h5 := (bestK_in v (q / n * l + q % n * wide) (wide - 1)).2
  unfold poolP
  omega
end Go.Proofs.YtnicknnhboanoaaDoor.Wd
