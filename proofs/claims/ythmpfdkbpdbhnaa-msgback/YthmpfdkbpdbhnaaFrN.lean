/- What a Reader tells where a frame has its fields, held against what stands there. -/
import Derived.Test.YthmpfdkbpdbhnaaFrM
namespace Go.Proofs.Ythmpfdkbpdbhnaa.Wd
open Go.RowKit
set_option linter.unusedVariables false
set_option linter.unusedSimpArgs false
def lA (l : List Int) : List Int := left (left l 1) 1
def lK (l : List Int) : List Int := left (lA l) 1
def lF (l : List Int) : List Int := left (lK l) 1
def lT (l : List Int) : List Int := left (lF l) 1
def lV (l : List Int) : List Int := left (lT l) 4
def lS (l : List Int) : List Int := left (lV l) 4
def lN (l : List Int) : List Int := left (lS l) 2
def gK (l : List Int) : Int := num (got (lA l) 1)
def gF (l : List Int) : Int := num (got (lK l) 1)
def gT (l : List Int) : Int := num (got (lF l) 1)
def gV (l : List Int) : Int := num (got (lT l) 4)
def gS (l : List Int) : Int := num (got (lV l) 4)
def gN (l : List Int) : Int := num (got (lS l) 2)
def gB (l : List Int) : List Int := got (lN l) (gN l)
abbrev decG (l : List Int) : Prop := goodF (gK l) (gF l) (gT l) (gB l).length ∧ encL (gK l) (gF l) (gT l) (gV l) (gS l) (gB l) = l
theorem got_in {l : List Int} (n : Nat) (h : n ≤ l.length) : got l (n : Int) = l.take n ∧ left l (n : Int) = l.drop n := by
  have e : okT l (n : Int) = true := decide_eq_true (by omega)
  unfold got left
  rw [e]
  exact ⟨rfl, rfl⟩
theorem left_by {l : List Int} (h : By8 l) (n : Int) : By8 (left l n) := by
  unfold left
  split
  · exact h.drop _
  · exact By8.nil
/-- A frame's box, cell by cell. -/
theorem fr_cells {W : World} {g : Nat} {τ : TypeId} {a0 a1 a2 a3 a4 a5 : Value} (h : W.heap[g]? = some (.cells #[a0, a1, a2, a3, a4, a5] τ (0, 0))) :
    (W.cell? ⟨g, 0, none⟩ = some a0 ∧ W.cell? ⟨g, 1, none⟩ = some a1 ∧ W.cell? ⟨g, 2, none⟩ = some a2 ∧ W.cell? ⟨g, 3, none⟩ = some a3 ∧ W.cell? ⟨g, 4, none⟩ = some a4 ∧ W.cell? ⟨g, 5, none⟩ = some a5) ∧ (W.frozen? ⟨g, 0, none⟩ = false ∧ W.frozen? ⟨g, 1, none⟩ = false ∧ W.frozen? ⟨g, 2, none⟩ = false ∧ W.frozen? ⟨g, 3, none⟩ = false ∧ W.frozen? ⟨g, 4, none⟩ = false ∧ W.frozen? ⟨g, 5, none⟩ = false) := by
  have c : ∀ j u, (#[a0, a1, a2, a3, a4, a5] : Array Value)[j]? = some u → W.cell? ⟨g, j, none⟩ = some u := fun j u hj => by
    unfold World.cell?
    rw [h]
    exact hj
  have fz : ∀ j, W.frozen? ⟨g, j, none⟩ = false := fun j => by
    unfold World.frozen?
    rw [h]
    simp
  exact ⟨⟨c 0 _ rfl, c 1 _ rfl, c 2 _ rfl, c 3 _ rfl, c 4 _ rfl, c 5 _ rfl⟩, fz 0, fz 1, fz 2, fz 3, fz 4, fz 5⟩
theorem left_le (l : List Int) (n : Int) : (left l n).length ≤ l.length := by
  unfold left
  split
  · rw [List.length_drop]
    omega
  · exact Nat.zero_le _
theorem lN_le (l : List Int) : (lN l).length ≤ l.length :=
  Nat.le_trans (left_le _ _) (Nat.le_trans (left_le _ _) (Nat.le_trans (left_le _ _) (Nat.le_trans (left_le _ _) (Nat.le_trans (left_le _ _) (Nat.le_trans (left_le _ _) (Nat.le_trans (left_le _ _) (left_le _ _)))))))
theorem num_one {l : List Int} (i : Nat) (h : i < l.length) : num ((l.drop i).take 1) = l.getD i 0 := by
  rw [List.drop_eq_getElem_cons h, List.take_succ_cons, List.take_zero, List.getD_eq_getElem?_getD, List.getElem?_eq_getElem h]
  simp [num, val]
theorem drop_in {l : List Int} (i n : Nat) (h : i + n ≤ l.length) : got (l.drop i) (n : Int) = (l.drop i).take n ∧ left (l.drop i) (n : Int) = l.drop (i + n) := by
  have := got_in (l := l.drop i) n (by rw [List.length_drop]; omega)
  rw [List.drop_drop] at this
  exact this
theorem g_long {l : List Int} (h : 15 ≤ l.length) : gK l = uK l ∧ gF l = uF l ∧ gT l = uT l ∧ gV l = uV l ∧ gS l = uS l ∧ gN l = num ((l.drop 13).take 2) ∧ lN l = l.drop 15 := by
  have e1 : lA l = l.drop 2 := by
    unfold lA
    rw [show left l 1 = l.drop 1 from (got_in 1 (by omega)).2]
    exact (drop_in 1 1 (by omega)).2
  have e2 : lK l = l.drop 3 := by
    unfold lK
    rw [e1]
    exact (drop_in 2 1 (by omega)).2
  have e3 : lF l = l.drop 4 := by
    unfold lF
    rw [e2]
    exact (drop_in 3 1 (by omega)).2
  have e4 : lT l = l.drop 5 := by
    unfold lT
    rw [e3]
    exact (drop_in 4 1 (by omega)).2
  have e5 : lV l = l.drop 9 := by
    unfold lV
    rw [e4]
    exact (drop_in 5 4 (by omega)).2
  have e6 : lS l = l.drop 13 := by
    unfold lS
    rw [e5]
    exact (drop_in 9 4 (by omega)).2
  have e7 : lN l = l.drop 15 := by
    unfold lN
    rw [e6]
    exact (drop_in 13 2 (by omega)).2
  refine ⟨?_, ?_, ?_, ?_, ?_, ?_, e7⟩
  · unfold gK uK
    rw [e1, show got (l.drop 2) 1 = (l.drop 2).take 1 from (drop_in 2 1 (by omega)).1]
    exact num_one 2 (by omega)
  · unfold gF uF
    rw [e2, show got (l.drop 3) 1 = (l.drop 3).take 1 from (drop_in 3 1 (by omega)).1]
    exact num_one 3 (by omega)
  · unfold gT uT
    rw [e3, show got (l.drop 4) 1 = (l.drop 4).take 1 from (drop_in 4 1 (by omega)).1]
    exact num_one 4 (by omega)
  · unfold gV uV
    rw [e4]
    exact congrArg num (drop_in 5 4 (by omega)).1
  · unfold gS uS
    rw [e5]
    exact congrArg num (drop_in 9 4 (by omega)).1
  · unfold gN
    rw [e6]
    exact congrArg num (drop_in 13 2 (by omega)).1
theorem got_pre (l : List Int) (n : Int) : got l n = l.take (got l n).length := by
  unfold got
  split
  · rename_i h
    have := of_decide_eq_true h
    rw [List.length_take, Nat.min_eq_left (by omega)]
  · rfl
theorem dec_len {l : List Int} (h : decG l) : l.length = 19 + (gB l).length := by
  have := congrArg List.length h.2
  rw [encL_len] at this
  omega
theorem dec_of {l : List Int} (h : decG l) : decP l := by
  have hn := dec_len h
  obtain ⟨a1, a2, a3, a4, a5, _, a7⟩ := g_long (l := l) (by omega)
  have hB : gB l = uB l := by
    have := got_pre (lN l) (gN l)
    rw [show got (lN l) (gN l) = gB l from rfl] at this
    rw [this, a7]
    unfold uB
    rw [show (gB l).length = l.length - 19 by omega]
  obtain ⟨hg, he⟩ := h
  rw [a1, a2, a3, hB] at hg
  rw [a1, a2, a3, a4, a5, hB] at he
  refine ⟨by omega, ?_⟩
  unfold encF
  rw [if_pos hg]
  exact he
theorem dec_is {l : List Int} (h : decP l) : gK l = uK l ∧ gF l = uF l ∧ gT l = uT l ∧ gV l = uV l ∧ gS l = uS l ∧ gB l = uB l := by
  obtain ⟨a1, a2, a3, a4, a5, a6, a7⟩ := g_long (l := l) (by have := h.1; omega)
  refine ⟨a1, a2, a3, a4, a5, ?_⟩
  obtain ⟨hg, he⟩ := decP_good h
  have hb := uB_len h.1
  have e : (l.drop 13).take 2 = be 2 (((uB l).length : Nat) : Int) := by
    obtain ⟨b, eb⟩ : ∃ b, uB l = b := ⟨_, rfl⟩
    rw [eb] at he
    rw [eb, ← he, encL, hF]
    simp [be]
  unfold gB
  rw [a7, a6, e, num_be, show ((uB l).length : Int) % 256 ^ 2 = ((uB l).length : Int) by have := hg.2.2.2; omega]
  rw [show got (l.drop 15) (((uB l).length : Nat) : Int) = (l.drop 15).take (uB l).length from (drop_in 15 _ (by have := h.1; omega)).1]
  unfold uB
  rw [show ((l.drop 15).take (l.length - 19)).length = l.length - 19 from hb]
theorem dec_iff (l : List Int) : decG l ↔ decP l := by
  refine ⟨dec_of, fun h => ?_⟩
  obtain ⟨a1, a2, a3, a4, a5, a6⟩ := dec_is h
  have := decP_good h
  unfold decG
  rw [a1, a2, a3, a4, a5, a6]
  exact this
theorem g_rng {l : List Int} (h : By8 l) : (0 ≤ gK l ∧ gK l < 256) ∧ (0 ≤ gF l ∧ gF l < 256) ∧ (0 ≤ gT l ∧ gT l < 256) ∧ (0 ≤ gV l ∧ gV l < 4294967296) ∧ (0 ≤ gS l ∧ gS l < 4294967296) ∧ (0 ≤ gN l ∧ gN l < 65536) ∧ By8 (gB l) := by
  have b1 : By8 (lA l) := left_by (left_by h _) _
  have b2 : By8 (lK l) := left_by b1 _
  have b3 : By8 (lF l) := left_by b2 _
  have b4 : By8 (lT l) := left_by b3 _
  have b5 : By8 (lV l) := left_by b4 _
  have b6 : By8 (lS l) := left_by b5 _
  have b7 : By8 (lN l) := left_by b6 _
  have k : ∀ {m : List Int} (n : Nat), By8 m → 0 ≤ num (got m (n : Int)) ∧ num (got m (n : Int)) < 256 ^ n := fun n hm => num_lt n (got_rng hm _) (got_len _ n)
  exact ⟨k 1 b1, k 1 b2, k 1 b3, k 4 b4, k 4 b5, k 2 b6, got_rng b7 _⟩
end Go.Proofs.Ythmpfdkbpdbhnaa.Wd
