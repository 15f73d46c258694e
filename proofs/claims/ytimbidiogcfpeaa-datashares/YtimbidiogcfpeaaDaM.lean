/- Whose each example is: batches by remainders; members; shards. -/
import Derived.Test.YtimbidiogcfpeaaShpM
namespace Go.Proofs.Ytimbidiogcfpeaa.Wd
open Go.RowKit
set_option linter.unusedVariables false
set_option linter.unusedSimpArgs false
def batE (t s k : Int) : Int := if t < 1 ∨ 256 < t ∨ s < 1 ∨ t < s ∨ k < 0 then 1 else 0
/-- Where a step's batch begins. -/
def baS (t s k : Int) : Int := k % t * s % t
def batV (t s k : Int) : List Int := if batE t s k = 0 then (List.range s.toNat).map fun (i : Nat) => (baS t s k + (i : Int)) % t else []
theorem batE_ok {t s k : Int} : batE t s k = 0 ↔ 1 ≤ t ∧ t ≤ 256 ∧ 1 ≤ s ∧ s ≤ t ∧ 0 ≤ k := by
  unfold batE
  split <;> omega
theorem batE_bad {t s k : Int} (h : batE t s k ≠ 0) : batE t s k = 1 ∧ batV t s k = [] := by
  refine ⟨?_, if_neg h⟩
  unfold batE at *
  split at h
  · rw [if_pos (by assumption)]
  · exact absurd rfl h
theorem batV_len {t s k : Int} (h : batE t s k = 0) : (batV t s k).length = s.toNat := by
  unfold batV
  rw [if_pos h]
  simp
theorem batV_at {t s k : Int} (h : batE t s k = 0) (i : Nat) (hi : i < s.toNat) : (batV t s k).getD i 0 = (baS t s k + (i : Int)) % t := by
  unfold batV
  rw [if_pos h, List.getD_eq_getElem?_getD, List.getElem?_map, List.getElem?_range hi]
  rfl
theorem baS_rng {t s k : Int} (h : 1 ≤ t) : 0 ≤ baS t s k ∧ baS t s k < t := ⟨Int.emod_nonneg _ (by omega), Int.emod_lt_of_pos _ (by omega)⟩
/-- The next batch begins where this one ends. -/
theorem baS_next {t s k : Int} (h : 1 ≤ t) : baS t s (k + 1) = (baS t s k + s) % t := by
  have key : ∀ x : Int, x % t * s % t = x * s % t := fun x => by rw [Int.mul_emod, Int.emod_emod_of_dvd _ (Int.dvd_refl t), ← Int.mul_emod]
  unfold baS
  rw [key, key, Int.emod_add_emod, Int.add_mul, Int.one_mul]
theorem baS_round {t s k : Int} (h : 1 ≤ t) : baS t s (k + t) = baS t s k := by
  unfold baS
  rw [Int.add_emod_right]
/-- Members: at least one, at most 16, each from 0 to 15, rising. -/
abbrev goodM (m : List Int) : Prop := (1 ≤ m.length ∧ m.length ≤ 16) ∧ ∀ i, i < m.length → (0 ≤ m.getD i 0 ∧ m.getD i 0 < 16) ∧ (0 < i → m.getD (i - 1) 0 < m.getD i 0)
theorem goodM_lt {m : List Int} (h : goodM m) : ∀ (j i : Nat), i < j → j < m.length → m.getD i 0 < m.getD j 0 := by
  intro j
  induction j with
  | zero => intro i hi; omega
  | succ j ih =>
    intro i hi hj
    have h1 := (h.2 (j + 1) hj).2 (by omega)
    rw [Nat.add_sub_cancel] at h1
    rcases Nat.lt_succ_iff_lt_or_eq.1 hi with h2 | rfl
    · have := ih i h2 (by omega)
      omega
    · exact h1
theorem goodM_inj {m : List Int} (h : goodM m) {i j : Nat} (hi : i < m.length) (hj : j < m.length) (e : m.getD i 0 = m.getD j 0) : i = j := by
  rcases Nat.lt_trichotomy i j with h1 | h1 | h1
  · have := goodM_lt h j i h1 hj
    omega
  · exact h1
  · have := goodM_lt h i j h1 hi
    omega
/-- The last of the first k places at which who stands; -1 where none. -/
def plL (m : List Int) (who : Int) : Nat → Int
  | 0 => -1
  | k + 1 => if m.getD k 0 = who then (k : Int) else plL m who k
theorem plL_rng (m : List Int) (who : Int) : ∀ k, -1 ≤ plL m who k ∧ plL m who k < k
  | 0 => by unfold plL; omega
  | k + 1 => by
    unfold plL
    have := plL_rng m who k
    split <;> omega
theorem plL_none {m : List Int} {who : Int} : ∀ k, (∀ i, i < k → m.getD i 0 ≠ who) → plL m who k = -1
  | 0, _ => rfl
  | k + 1, h => by
    unfold plL
    rw [if_neg (h k (by omega))]
    exact plL_none k fun i hi => h i (by omega)
theorem plL_some {m : List Int} {who : Int} (hg : goodM m) {p : Nat} (hp : p < m.length) (e : m.getD p 0 = who) : ∀ k, p < k → k ≤ m.length → plL m who k = p
  | 0, h, _ => by omega
  | k + 1, h, hk => by
    unfold plL
    by_cases c : m.getD k 0 = who
    · rw [if_pos c]
      have := goodM_inj hg (i := k) (j := p) (by omega) hp (by rw [c, e])
      omega
    · rw [if_neg c]
      refine plL_some hg hp e k ?_ (by omega)
      rcases Nat.lt_succ_iff_lt_or_eq.1 h with h1 | rfl
      · exact h1
      · exact absurd e c
def plI (m : List Int) (who : Int) : Int := plL m who m.length
theorem plI_at {m : List Int} {who : Int} (h : 0 ≤ plI m who) : ∃ p : Nat, plI m who = p ∧ p < m.length ∧ m.getD p 0 = who := by
  have key : ∀ k, 0 ≤ plL m who k → ∃ p : Nat, plL m who k = p ∧ p < k ∧ m.getD p 0 = who := by
    intro k
    induction k with
    | zero => intro h; unfold plL at h; omega
    | succ k ih =>
      intro h
      unfold plL at h ⊢
      split
      · rename_i c
        exact ⟨k, rfl, by omega, c⟩
      · rename_i c
        rw [if_neg c] at h
        obtain ⟨p, h1, h2, h3⟩ := ih h
        exact ⟨p, h1, by omega, h3⟩
  exact key _ h
/-- How many of L places from p on, n apart. -/
def shC (L n p : Nat) : Nat := (L - p + (n - 1)) / n
def dshT (b : List Int) (n p k : Nat) : List Int := (List.range k).map fun j => b.getD (p + j * n) 0
def shE (m : List Int) (who : Int) : Int := if goodM m ∧ 0 ≤ plI m who then 0 else 1
def shV (b m : List Int) (who : Int) : List Int := if shE m who = 0 then dshT b m.length (plI m who).toNat (shC b.length m.length (plI m who).toNat) else []
theorem shC_lt {L n p k : Nat} (hn : 0 < n) : k < shC L n p ↔ p + k * n < L := by
  unfold shC
  rw [Nat.lt_div_iff_mul_lt hn]
  constructor
  · intro h
    have : k * n = n * k := Nat.mul_comm _ _
    omega
  · intro h
    have : k * n = n * k := Nat.mul_comm _ _
    omega
/-- A share is a whole part of L, and one more ahead of the rest. -/
theorem shC_is {L n p : Nat} (hn : 0 < n) (hp : p < n) : shC L n p = L / n + if p < L % n then 1 else 0 := by
  obtain ⟨a, ea⟩ : ∃ a, L / n = a := ⟨_, rfl⟩
  obtain ⟨r, er⟩ : ∃ r, L % n = r := ⟨_, rfl⟩
  have hr : r < n := by rw [← er]; exact Nat.mod_lt _ hn
  have hL : n * a + r = L := by rw [← ea, ← er]; exact Nat.div_add_mod L n
  rw [ea, er]
  unfold shC
  by_cases h : p < r
  · rw [if_pos h]
    have h1 : L - p + (n - 1) = (r - p - 1) + n * (a + 1) := by
      rw [Nat.mul_add, Nat.mul_one]
      omega
    rw [h1, Nat.add_mul_div_left _ _ hn, Nat.div_eq_of_lt (by omega)]
    omega
  · rw [if_neg h]
    by_cases h2 : L < p
    · have ha : a = 0 := by
        rcases Nat.eq_zero_or_pos a with h3 | h3
        · exact h3
        · have : n ≤ n * a := Nat.le_mul_of_pos_right _ h3
          omega
      rw [Nat.div_eq_of_lt (by omega), ha]
    · have h1 : L - p + (n - 1) = (n - 1 - (p - r)) + n * a := by omega
      rw [h1, Nat.add_mul_div_left _ _ hn, Nat.div_eq_of_lt (by omega)]
      omega
theorem shE_at {m : List Int} {p : Nat} (hg : goodM m) (hp : p < m.length) : plI m (m.getD p 0) = p ∧ shE m (m.getD p 0) = 0 := by
  have h : plI m (m.getD p 0) = p := plL_some hg hp rfl m.length hp (Nat.le_refl _)
  refine ⟨h, ?_⟩
  unfold shE
  rw [if_pos ⟨hg, by rw [h]; omega⟩]
theorem shV_at {b m : List Int} {p : Nat} (hg : goodM m) (hp : p < m.length) : shV b m (m.getD p 0) = dshT b m.length p (shC b.length m.length p) := by
  obtain ⟨h1, h2⟩ := shE_at hg hp
  unfold shV
  rw [if_pos h2, h1]
  rfl
theorem shT_len (b : List Int) (n p k : Nat) : (dshT b n p k).length = k := by simp [dshT]
theorem shT_at (b : List Int) (n p k i : Nat) (h : i < k) : (dshT b n p k).getD i 0 = b.getD (p + i * n) 0 := by
  unfold dshT
  rw [List.getD_eq_getElem?_getD, List.getElem?_map, List.getElem?_range h]
  rfl
theorem shT_push (b : List Int) (n p k : Nat) : dshT b n p (k + 1) = dshT b n p k ++ [b.getD (p + k * n) 0] := by
  unfold dshT
  rw [List.range_succ, List.map_append]
  rfl
theorem shE_ok {m : List Int} {who : Int} : shE m who = 0 ↔ goodM m ∧ 0 ≤ plI m who := by
  unfold shE
  split
  · rename_i h
    exact ⟨fun _ => h, fun _ => rfl⟩
  · rename_i h
    exact ⟨fun e => absurd e (by decide), fun e => absurd e h⟩
theorem shE_bad {m : List Int} {who : Int} (h : shE m who ≠ 0) : shE m who = 1 ∧ ∀ b, shV b m who = [] := by
  refine ⟨?_, fun b => if_neg h⟩
  unfold shE at *
  split at h
  · exact absurd rfl h
  · rw [if_neg (by assumption)]
end Go.Proofs.Ytimbidiogcfpeaa.Wd
