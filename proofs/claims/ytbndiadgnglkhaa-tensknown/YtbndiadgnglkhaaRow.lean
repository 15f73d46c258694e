/- A slice of integers that came in: what a walk is told of it. -/
import Derived.WalkKit
import Derived.ProofKit
import Derived.OpenShut
import Derived.ChangeSlices
import Derived.Carry
namespace Go.Proofs.Ytbndiadgnglkhaa.Wd
open Go.ChangeShapes Go.WideShapes Go.ChangeAt Go.RowKit
/-- The slice's elements are the numbers z 0, z 1 .. , each fitting its kind; where it has one, they lie one behind the other in a block. -/
def Row (k : IntKind) (W : World) (p : Option Addr) (n c : Nat) (z : Nat → Int) : Prop :=
  n ≤ c ∧ c ≤ 9223372036854775807 ∧ (∀ i, i < n → (Lit.int k (z i)).wf = true) ∧ (0 < n → ∃ b o, p = some ⟨b, o, none⟩ ∧ b < W.heap.size ∧ ∀ i, i < n → W.cell? ⟨b, o + i, none⟩ = some (.int k (z i)))
theorem spot_none {W : World} {a : Addr} {v : Value} (h : W.cell? a = some v) : a = ⟨a.block, a.off, none⟩ := by
  unfold World.cell? at h
  split at h
  · obtain ⟨b, o, s⟩ := a
    cases s with
    | none => rfl
    | some x => simp at h
  · cases h
theorem cell_size {W : World} {b o : Nat} {v : Value} (h : W.cell? ⟨b, o, none⟩ = some v) : b < W.heap.size := by
  by_cases c : b < W.heap.size
  · exact c
  · exfalso
    unfold World.cell? at h
    rw [show W.heap[b]? = none from by simp; omega] at h
    simp at h
theorem open_row {H : Type} {enc : TypeId × Value → H} {P : Program} {W : World} {t e : TypeId} {k : IntKind} {a : Option Addr} {n c : Nat} {d : DataW H} {ps : List MemPlace} (ht : P.underlying t = some (.slice e)) (he : P.underlying e = some (.int k)) (hc : P.cellsOf e = 1)
    (h : DataW.Trod enc P W 0 (fun _ => true) true t (.slice a n c) d ps) : ∃ z, Row k W a n c z := by
  obtain ⟨fuel, hf⟩ := h
  rcases open_ints ht he hc hf with ⟨hcs, _⟩ | ⟨x, l, c', zs, hcs, _, hl, hm, hz, _, hcell, hwz⟩
  · simp [Value.cells] at hcs
    obtain ⟨rfl, rfl, rfl⟩ := hcs
    exact ⟨fun _ => 0, by omega, by omega, fun i hi => by omega, fun h => by omega⟩
  · simp [Value.cells] at hcs
    obtain ⟨rfl, rfl, rfl⟩ := hcs
    have hz' : zs.length = c := by simpa using hz
    refine ⟨fun i => zs.getD i 0, hl, by unfold maxLen at hm; omega, fun i hi => hwz _ ?_, fun h => ?_⟩
    · show zs.getD i 0 ∈ zs
      rw [List.getD_eq_getElem?_getD, List.getElem?_eq_getElem (by omega)]
      exact List.getElem_mem _
    · have h0 := hcell 0 (by omega)
      have e0 : x.add 0 = x := by simp [Addr.add]
      rw [e0] at h0
      have ex := spot_none h0
      refine ⟨x.block, x.off, by rw [← ex], ?_, fun i hi => ?_⟩
      · rw [ex] at h0
        exact cell_size h0
      · have := hcell i (by omega)
        rw [← this]
        congr 1
        unfold Addr.add
        split
        · rename_i h; subst h; rw [Nat.add_zero]; exact ex.symm
        · rw [ex]
/-- The same, and a nil slice has no room. -/
def RowN (k : IntKind) (W : World) (p : Option Addr) (n c : Nat) (z : Nat → Int) : Prop := Row k W p n c z ∧ (p = none → n = 0 ∧ c = 0)
theorem open_rowN {H : Type} {enc : TypeId × Value → H} {P : Program} {W : World} {t e : TypeId} {k : IntKind} {a : Option Addr} {n c : Nat} {d : DataW H} {ps : List MemPlace} (ht : P.underlying t = some (.slice e)) (he : P.underlying e = some (.int k)) (hc : P.cellsOf e = 1)
    (h : DataW.Trod enc P W 0 (fun _ => true) true t (.slice a n c) d ps) : ∃ z, RowN k W a n c z := by
  obtain ⟨z, hz⟩ := open_row ht he hc h
  refine ⟨z, hz, fun hn => ?_⟩
  subst hn
  obtain ⟨fuel, hf⟩ := h
  rcases open_ints ht he hc hf with ⟨hcs, _⟩ | ⟨x, l, c', zs, hcs, _⟩
  · simp [Value.cells] at hcs
    exact hcs
  · simp [Value.cells] at hcs
end Go.Proofs.Ytbndiadgnglkhaa.Wd
