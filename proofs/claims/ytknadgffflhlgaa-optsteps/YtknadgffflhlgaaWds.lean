/- Wides that came in, as a slice: what a walk is told of them. -/
import Derived.Test.YtknadgffflhlgaaTens
import Derived.Test.YtknadgffflhlgaaWideC
import Derived.Deep.Slices
import Derived.ChangeSame
namespace Go.Proofs.Ytknadgffflhlgaa.Wd
open Go.ChangeShapes Go.WideShapes Go.ChangeAt Go.RowKit Go.Joins Go.Deep Fx
set_option linter.unusedVariables false
set_option linter.unusedSimpArgs false
/-- Wides that are read. -/
def WdR (W : World) (p : Option Addr) (n : Nat) (l : List Int) : Prop := l.length = n ∧ (∀ y, y ∈ l → InW y) ∧ ∀ i, i < n → ∃ q o, p = some ⟨q, o, none⟩ ∧ W.cell? ⟨q, o + i * 2, none⟩ = some (.int .i64 (l.getD i 0 / 18446744073709551616)) ∧ W.cell? ⟨q, o + i * 2 + 1, none⟩ = some (.int .u64 (l.getD i 0 % 18446744073709551616))
theorem WdR.up {W W' : World} {p : Option Addr} {n : Nat} {l : List Int} (h : WdR W p n l) (hB : Below W.heap.size W W') : WdR W' p n l := ⟨h.1, h.2.1, fun i hi => by
  obtain ⟨q, o, e, a, b⟩ := h.2.2 i hi
  exact ⟨q, o, e, keep hB a, keep hB b⟩⟩
def WdsN (W : World) (p : Option Addr) (n c : Nat) (l : List Int) : Prop := n ≤ c ∧ c ≤ 9223372036854775807 ∧ WdR W p n l
theorem wdR_of {W : World} {p : Option Addr} {n : Nat} (h : ∀ i, i < n → ∃ q o x, p = some ⟨q, o, none⟩ ∧ InW x ∧ W.cell? ⟨q, o + i * 2, none⟩ = some (.int .i64 (x / 18446744073709551616)) ∧ W.cell? ⟨q, o + i * 2 + 1, none⟩ = some (.int .u64 (x % 18446744073709551616))) : ∃ l, WdR W p n l := by
  have h2 : ∀ i, ∃ x : Int, InW x ∧ (i < n → ∃ q o, p = some ⟨q, o, none⟩ ∧ W.cell? ⟨q, o + i * 2, none⟩ = some (.int .i64 (x / 18446744073709551616)) ∧ W.cell? ⟨q, o + i * 2 + 1, none⟩ = some (.int .u64 (x % 18446744073709551616))) := fun i => by
    by_cases hi : i < n
    · obtain ⟨q, o, x, h3, h4, h5⟩ := h i hi
      exact ⟨x, h4, fun _ => ⟨q, o, h3, h5⟩⟩
    · exact ⟨0, by unfold InW; omega, fun h4 => absurd h4 hi⟩
  obtain ⟨f, hf⟩ := Classical.axiomOfChoice h2
  refine ⟨(List.range n).map f, by simp, fun y hy => ?_, fun i hi => ?_⟩
  · obtain ⟨i, _, rfl⟩ := List.mem_map.1 hy
    exact (hf i).1
  · have e : ((List.range n).map f).getD i 0 = f i := by
      rw [List.getD_eq_getElem?_getD, List.getElem?_map, List.getElem?_range hi]
      rfl
    rw [e]
    exact (hf i).2 hi
theorem list2 {α : Type} {l : List α} (h : l.length = 2) : ∃ a b, l = [a, b] := by
  match l, h with
  | [a, b], _ => exact ⟨a, b, rfl⟩
theorem open_wides {H : Type} {enc : TypeId × Value → H} {P : Program} {W : World} {t e : TypeId} {f0 f1 : Field} {a : Option Addr} {n c : Nat} {d : DataW H} {ps : List MemPlace}
    (ht : P.underlying t = some (.slice e)) (he : P.underlying e = some (.struct #[f0, f1])) (ce : P.cellsOf e = 2)
    (o0 : f0.offset = 0) (o1 : f1.offset = 1) (c0 : P.cellsOf f0.type = 1) (c1 : P.cellsOf f1.type = 1)
    (u0 : P.underlying f0.type = some (.int .i64)) (u1 : P.underlying f1.type = some (.int .u64))
    (h : DataW.Trod enc P W 0 (fun _ => true) true t (.slice a n c) d ps) : ∃ l, WdsN W a n c l := by
  obtain ⟨fuel, hf⟩ := h
  rcases open_slice ht hf with ⟨hcs, _⟩ | ⟨x, len, cap, m, fu, D, Pl, hcs, hb, hl, hm, hmm, _, hx⟩
  · simp [Value.cells] at hcs
    obtain ⟨rfl, rfl, rfl⟩ := hcs
    exact ⟨[], Nat.le_refl _, by omega, rfl, fun y hy => by simp at hy, fun i hi => by omega⟩
  · simp [Value.cells] at hcs
    obtain ⟨rfl, rfl, rfl⟩ := hcs
    have key : ∃ l, WdR W (some x) n l := wdR_of fun i hi => by
      have hlm : n ≤ m := by rw [hmm]; split <;> omega
      obtain ⟨cs', h1, h2⟩ := hx i (by omega)
      rw [ce] at h1
      obtain ⟨_, hlen, hcell⟩ := World.cells?_some h1
      obtain ⟨xs, fk, _, _, _, hxl, hfd⟩ := DataW.trod_struct he h2
      obtain ⟨y0, y1, rfl⟩ := list2 hxl
      obtain ⟨v0, v1, rfl⟩ := list2 hlen
      have t0 := hfd 0 f0 rfl
      have t1 := hfd 1 f1 rfl
      simp [o0, c0] at t0
      simp [o1, c1] at t1
      obtain ⟨z0, e0', _, w0⟩ := DataW.trod_int u0 t0
      obtain ⟨z1, e1', _, w1⟩ := DataW.trod_int u1 t1
      simp only [List.cons.injEq, and_true] at e0' e1'
      subst e0' e1'
      have g0_ := hcell 0 (by omega)
      have g1_ := hcell 1 (by omega)
      rw [add_add] at g0_ g1_
      have ex : x = ⟨x.block, x.off, none⟩ := by
        obtain ⟨cs0, h10, _⟩ := hx 0 (by omega)
        rw [ce] at h10
        obtain ⟨_, hlen0, hcell0⟩ := World.cells?_some h10
        obtain ⟨w0_, w1_, rfl⟩ := list2 hlen0
        have h0 := hcell0 0 (by omega)
        rw [add_add, Nat.zero_mul] at h0
        have e0_ : x.add (0 + 0) = x := by simp [Addr.add]
        rw [e0_] at h0
        exact spot_none (v := w0_) (by simpa using h0)
      have hs : ∀ j v, W.cell? (x.add j) = some v → x = ⟨x.block, x.off, none⟩ ∧ W.cell? ⟨x.block, x.off + j, none⟩ = some v := fun j v hv => by
        rw [ex, addr_plus] at hv
        exact ⟨ex, hv⟩
      have n0 := hs _ _ (by simpa using g0_)
      have n1 := (hs _ _ (by simpa using g1_)).2
      have b0 := bounds_i64 w0
      have b1 := bounds_u64 w1
      refine ⟨x.block, x.off, z0 * 18446744073709551616 + z1, by rw [← n0.1], by unfold InW; omega, ?_, ?_⟩
      · rw [show (z0 * 18446744073709551616 + z1) / 18446744073709551616 = z0 by omega]
        exact n0.2
      · rw [show (z0 * 18446744073709551616 + z1) % 18446744073709551616 = z1 by omega, Nat.add_assoc]
        exact n1
    obtain ⟨l, hl2⟩ := key
    exact ⟨l, hl, by unfold maxLen at hm; omega, hl2⟩
end Go.Proofs.Ytknadgffflhlgaa.Wd
