/- What the functions of package pack hand back: the numbers and bytes that a Reader reads, a new Reader. -/
import Derived.Test.YtlnamjomhfmbaaaPkA
import Derived.Lib.SliceRun
namespace Go.Proofs.Ytlnamjomhfmbaaa.Wd
open Go.RowKit
set_option linter.unusedVariables false
set_option linter.unusedSimpArgs false
/-- The number that a list of bytes is. -/
def num (l : List Int) : Int := val (fun i => l.getD i 0) l.length
theorem getD_rng {l : List Int} (h : ∀ y, y ∈ l → 0 ≤ y ∧ y < 256) (i : Nat) (hi : i < l.length) : 0 ≤ l.getD i 0 ∧ l.getD i 0 < 256 := by
  rw [List.getD_eq_getElem?_getD, List.getElem?_eq_getElem hi]
  exact h _ (List.getElem_mem hi)
theorem num_rng {l : List Int} (h : ∀ y, y ∈ l → 0 ≤ y ∧ y < 256) : 0 ≤ num l ∧ num l < 256 ^ l.length :=
  val_lt _ l.length (fun i hi => getD_rng h i hi) _ (Nat.le_refl _)
theorem got_rng {l : List Int} (h : ∀ y, y ∈ l → 0 ≤ y ∧ y < 256) (n : Int) : ∀ y, y ∈ got l n → 0 ≤ y ∧ y < 256 := by
  intro y hy
  unfold got at hy
  split at hy
  · exact h y (List.mem_of_mem_take hy)
  · cases hy
theorem got_len (l : List Int) (n : Nat) : (got l n).length ≤ n := by
  unfold got
  split
  · simp; omega
  · simp
theorem num_lt {l : List Int} (n : Nat) (h : ∀ y, y ∈ l → 0 ≤ y ∧ y < 256) (hn : l.length ≤ n) : 0 ≤ num l ∧ num l < 256 ^ n := by
  have h1 := num_rng h
  have h2 : (256 : Int) ^ l.length ≤ 256 ^ n := by
    have := Nat.pow_le_pow_right (n := 256) (by decide) hn
    have e : ((256 ^ l.length : Nat) : Int) ≤ ((256 ^ n : Nat) : Int) := by omega
    rw [Int.natCast_pow, Int.natCast_pow] at e
    exact e
  omega
theorem got_len' (l : List Int) (n : Int) : (got l n).length ≤ l.length := by
  unfold got
  split
  · simp; omega
  · simp
theorem Rd.new {W : World} {B : Nat} {v : Value} {l : List Int} {t : TypeId} (h : Own8 W B v l) (hr : ∀ y, y ∈ l → 0 ≤ y ∧ y < 256) : Rd (W.alloc (.cells #[v, .bool false] t)) W.heap.size l false := by
  have e : (W.alloc (.cells #[v, .bool false] t)).heap[W.heap.size]? = some (.cells #[v, .bool false] t) := by
    show (W.heap.push _)[W.heap.size]? = _
    simp
  refine ⟨⟨v, by unfold World.cell?; simp only [e]; rfl, ?_⟩, by unfold World.cell?; simp only [e]; rfl, by unfold World.frozen?; simp only [e]; simp, by unfold World.frozen?; simp only [e]; simp, hr⟩
  have hb := (Below.refl W.heap.size W).alloc (Nat.le_refl _) (.cells #[v, .bool false] t)
  rcases h.2 with ⟨h1, h2⟩ | ⟨q, cap, cur, rfl, hB, hh, hcap, hm, hs, hx⟩
  · exact .inl ⟨h1, by simpa using h2⟩
  · have hq : q < W.heap.size := by
      rcases Nat.lt_or_ge q W.heap.size with c | c
      · exact c
      · rw [Array.getElem?_eq_none c] at hh; cases hh
    refine .inr ⟨q, 0, cap, rfl, by omega, hcap, by unfold maxLen at hm; omega, fun j x hj => keep hb ?_⟩
    have := World.ownsRow.cells h rfl j (.int .u8 x) (by rw [List.getElem?_map, hj]; rfl)
    rw [addr_add] at this
    exact this
/-- The two bytes that the first examples read. -/
theorem two8 (W : World) (x y : Int) : Bytes (W.alloc (.cells #[.int .u8 x, .int .u8 y] 5)) (.slice (some ⟨W.heap.size, 0, none⟩) 2 2) [x, y] := .inr ⟨_, _, rfl, two_at W x y⟩
end Go.Proofs.Ytlnamjomhfmbaaa.Wd
