/- Slices of slices of bytes that came in: what a walk is told of them. -/
import Derived.Test.YtlnamjomhfmbaaaPkE
import Derived.Deep.Matrix
namespace Go.Proofs.Ytlnamjomhfmbaaa.Wd
open Go.ChangeShapes Go.WideShapes Go.ChangeAt Go.RowKit
set_option linter.unusedVariables false
set_option linter.unusedSimpArgs false
/-- The slice's elements are slices of bytes, the r-th of them R r. -/
def Rows8 (W : World) (p : Option Addr) (n c : Nat) (R : Nat → List Int) : Prop :=
  n ≤ c ∧ c ≤ 9223372036854775807 ∧ ∀ r, r < n → ∃ q o v, p = some ⟨q, o, none⟩ ∧ W.cell? ⟨q, o + r, none⟩ = some v ∧ Bytes W v (R r) ∧ (∀ y, y ∈ R r → 0 ≤ y ∧ y < 256) ∧ (R r).length ≤ 9223372036854775807
theorem open_rows8 {H : Type} {enc : TypeId × Value → H} {P : Program} {W : World} {t e q : TypeId} {a : Option Addr} {n c : Nat} {d : DataW H} {ps : List MemPlace} (ht : P.underlying t = some (.slice e)) (he : P.underlying e = some (.slice q)) (hq : P.underlying q = some (.int .u8)) (ce : P.cellsOf e = 1) (cq : P.cellsOf q = 1)
    (h : DataW.Trod enc P W 0 (fun _ => true) true t (.slice a n c) d ps) : ∃ R, Rows8 W a n c R := by
  obtain ⟨fuel, hf⟩ := h
  rcases Go.Deep.open_int_rows ht he hq ce cq hf with ⟨hcs, _⟩ | ⟨x, l, c', A, L, C, Z, hcs, _, hl, hm, _, hx⟩
  · simp [Value.cells] at hcs
    obtain ⟨rfl, rfl, rfl⟩ := hcs
    exact ⟨fun _ => [], by omega, by omega, fun r hr => by omega⟩
  · simp [Value.cells] at hcs
    obtain ⟨rfl, rfl, rfl⟩ := hcs
    refine ⟨fun r => (Z r).take (L r), hl, by unfold maxLen at hm; omega, fun r hr => ?_⟩
    have h0 := (hx 0 (by omega)).1
    have e0 : x.add 0 = x := by simp [Addr.add]
    rw [e0] at h0
    have ex := spot_none h0
    obtain ⟨hc, hLC, hCm, hZ, hwf, hnone, hsome⟩ := hx r (by omega)
    obtain ⟨xb, xo, xs⟩ := x
    cases ex
    rw [addr_add] at hc
    have hlen : ((Z r).take (L r)).length = L r := by rw [List.length_take, hZ]; omega
    refine ⟨xb, xo, _, rfl, hc, ?_, ?_, by rw [hlen]; unfold maxLen at hCm; omega⟩
    · cases hA : A r with
      | none =>
        have h1 := hnone hA
        have h2 : L r = 0 := by omega
        refine .inl ⟨by rw [h1, h2], ?_⟩
        show (Z r).take (L r) = []
        rw [h2]
        rfl
      | some a' =>
        right
        refine ⟨a', C r, by rw [hlen], fun j u hu => ?_⟩
        rw [List.getElem?_map] at hu
        obtain ⟨y, hy, rfl⟩ := Option.map_eq_some_iff.1 hu
        have hj : j < L r := by
          rcases Nat.lt_or_ge j (L r) with h | h
          · exact h
          · rw [List.getElem?_eq_none (by rw [hlen]; exact h)] at hy; cases hy
        rw [List.getElem?_take_of_lt hj] at hy
        rw [(hsome a' hA).2 j (by omega), List.getD_eq_getElem?_getD, hy]
        rfl
    · intro y hy
      exact byte_wf (hwf y (List.mem_of_mem_take hy))
end Go.Proofs.Ytlnamjomhfmbaaa.Wd
