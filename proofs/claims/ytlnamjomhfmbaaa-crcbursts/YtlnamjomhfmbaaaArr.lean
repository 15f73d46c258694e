/- An array of integers that came in by value: what a walk is told of it. -/
import Derived.WalkKit
import Derived.ProofKit
import Derived.OpenShut
import Derived.ChangeSlices
import Derived.ChangeReads
namespace Go.Proofs.Ytlnamjomhfmbaaa.Wd
open Go.ChangeShapes Go.WideShapes Go.ChangeAt Go.RowKit
theorem mapM_all {α β : Type} {f : α → Option β} : ∀ {l : List α} {ys : List β}, l.mapM f = some ys → ∀ a, a ∈ l → ∃ b, f a = some b
  | [], _, _, a, h => by cases h
  | x :: l, ys, hm, a, h => by
    rw [List.mapM_cons] at hm
    simp only [bind, Option.bind_eq_some_iff, pure, Option.some.injEq] at hm
    obtain ⟨y, hy, zs, hzs, _⟩ := hm
    rcases List.mem_cons.1 h with rfl | h
    · exact ⟨y, hy⟩
    · exact mapM_all hzs a h
def numOf : Value → Int
  | .int _ n => n
  | _ => 0
theorem open_arrN {H : Type} {enc : TypeId × Value → H} {P : Program} {W : World} {t e : TypeId} {k : IntKind} {n base b0 : Nat} {r : Reach} {v : Value} {d : DataW H} {ps : List MemPlace} {sp : Nat → Bool} {held : Bool} (ht : P.underlying t = some (.array n e)) (he : P.underlying e = some (.int k)) (c1 : P.cellsOf e = 1) (cn : P.cellsOf t = n)
    (hv : Value.okWide P W r b0 t v) (h : DataW.Trod enc P W base sp held t v d ps) : ∃ x : Nat → Int, v = .agg ((List.range n).map fun i => Value.int k (x i)).toArray ∧ ∀ i, i < n → (Lit.int k (x i)).wf = true := by
  simp only [Value.okWide, ht] at hv
  obtain ⟨cs, rfl, h2, _⟩ := hv
  rw [cn] at h2
  obtain ⟨fuel, hf⟩ := h
  cases fuel with
  | zero => simp [DataW.trod] at hf
  | succ m =>
    rw [DataW.trod_step] at hf
    unfold DataW.trodStep at hf
    simp only [ht, Value.cells] at hf
    rw [if_pos (by rw [cn]; simpa using h2)] at hf
    simp only [Option.map_eq_some_iff] at hf
    obtain ⟨ys, hy, _⟩ := hf
    have each : ∀ i, i < n → ∃ a, cs[i]? = some (.int k a) ∧ (Lit.int k a).wf = true := fun i hi => by
      obtain ⟨y, hy'⟩ := mapM_all hy i (List.mem_range.2 hi)
      obtain ⟨a, ea, _, wa⟩ := DataW.trod_int he hy'
      rw [c1, Nat.mul_one] at ea
      refine ⟨a, ?_, wa⟩
      have : ((cs.toList.drop i).take 1)[0]? = some (.int k a) := by rw [ea]; rfl
      rw [List.getElem?_take_of_lt (by omega), List.getElem?_drop] at this
      simpa using this
    refine ⟨fun i => numOf (cs.getD i undef), ?_, fun i hi => ?_⟩
    · congr 1
      refine Array.ext_getElem? fun i => ?_
      by_cases hi : i < n
      · obtain ⟨a, ha, _⟩ := each i hi
        rw [ha]
        simp [hi, ha, numOf, Array.getD_eq_getD_getElem?]
      · rw [Array.getElem?_eq_none (by omega)]
        simp [hi]
    · obtain ⟨a, ha, wa⟩ := each i hi
      simp [ha, numOf, Array.getD_eq_getD_getElem?, wa]
end Go.Proofs.Ytlnamjomhfmbaaa.Wd
