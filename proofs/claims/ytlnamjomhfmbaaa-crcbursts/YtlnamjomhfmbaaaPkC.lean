/- What package pack's U16, U32, U64 hand back. -/
import Derived.Test.YtlnamjomhfmbaaaPkB
import Derived.Laws.CopyOwn
namespace Go.Proofs.Ytlnamjomhfmbaaa.Wd
open Go.RowKit
set_option linter.unusedVariables false
set_option linter.unusedSimpArgs false
/-- The bytes of a row in the making: l, noughts, the k lowest bytes of x. -/
def rowN (l : List Int) (n : Nat) (x : Int) (k : Nat) : List Int := l ++ (List.replicate (n - k) 0 ++ be k x)
theorem rowN_len (l : List Int) (n : Nat) (x : Int) (k : Nat) (h : k ≤ n) : (rowN l n x k).length = l.length + n := by
  simp [rowN, be_len]; omega
theorem rowN_set (l : List Int) (n : Nat) (x : Int) (k : Nat) (h : k < n) : (rowN l n x k).set (l.length + (n - 1 - k)) (x / 256 ^ k % 256) = rowN l n x (k + 1) := by
  unfold rowN
  have e1 : n - k = (n - 1 - k) + 1 := by omega
  have e2 : be (k + 1) x = [x / 256 ^ k % 256] ++ be k x := by
    have := be_add 1 k x
    rw [Nat.add_comm 1 k] at this
    rw [this]
    simp [be]
  rw [List.set_append_right _ _ (by omega), Nat.add_sub_cancel_left, e1, show n - (k + 1) = n - 1 - k by omega, e2, List.replicate_succ', List.append_assoc, List.set_append_right _ _ (by simp)]
  simp
def bv (l : List Int) : List Value := l.map (Value.int .u8)
theorem bv_set (l : List Int) (i : Nat) (x : Int) : (bv l).set i (.int .u8 x) = bv (l.set i x) := by
  unfold bv
  rw [List.map_set]
theorem made8 (n : Nat) : (madeCells (Value.int .u8 0).cells n).toList = bv (List.replicate n 0) := by
  unfold madeCells bv
  refine List.ext_getElem (by simp) fun i h1 h2 => ?_
  simp [Value.cells, Nat.mod_one]
theorem spliceN (l : List Int) (n : Nat) (x : Int) : splice (bv (List.replicate (l.length + n) 0)) 0 (bv l) = bv (rowN l n x 0) := by
  unfold splice bv rowN
  simp [be, List.drop_replicate]
theorem row_cell {W : World} {g i : Nat} {L : List Int} {t : TypeId} (h : W.heap[g]? = some (.cells (bv L).toArray t (0, 0))) (hi : i < L.length) : W.cell? ⟨g, i, none⟩ = some (.int .u8 (L.getD i 0)) ∧ W.frozen? ⟨g, i, none⟩ = false := by
  constructor
  · unfold World.cell?
    simp only [h]
    simp [bv, hi]
  · unfold World.frozen?
    simp only [h]
    simp
theorem row_set {W : World} {g i : Nat} {L : List Int} {t : TypeId} {x : Int} (h : W.heap[g]? = some (.cells (bv L).toArray t (0, 0))) : (W.setCell ⟨g, i, none⟩ (.int .u8 x)).heap[g]? = some (.cells (bv (L.set i x)).toArray t (0, 0)) := by
  rw [setCell_eq_setRow W g i _ t (0, 0) _ h, setRow_heap W g _ _ t _ h, ← bv_set]
  simp
theorem row_own {W : World} {B g : Nat} {L : List Int} (hB : B ≤ g) (hm : L.length ≤ 1073741824) (h : W.heap[g]? = some (.cells (bv L).toArray 5 (0, 0))) : Own8 W B (.slice (some ⟨g, 0, none⟩) L.length L.length) L := by
  refine ⟨by simp, .inr ⟨g, L.length, _, rfl, hB, h, Nat.le_refl _, by unfold maxLen; omega, by simp [bv], ?_⟩⟩
  rw [Nat.mul_one, List.take_of_length_le (by simp [bv])]
  rfl
theorem made_row {W : World} {B g s : Nat} {L : Nat} (h : W.ownsRow B 5 1 (.slice (some ⟨g, 0, none⟩) s s) s (madeCells (Value.int .u8 0).cells (s * 1)).toList) (e : L = s) : Hid (W.heap[g]? = some (.cells (bv (List.replicate L 0)).toArray 5 (0, 0))) := by
  subst e
  rcases h.2 with ⟨h, _⟩ | ⟨g, cap, cur, h, _, hg, h1, h2, h3, h4⟩
  · cases h
  · cases h
    rw [Nat.mul_one, made8] at h4
    have : cur.toList = bv (List.replicate L 0) := by rw [← h4, List.take_of_length_le (by simp; omega)]
    show _ = _
    rw [hg, ← this]
theorem src_up {W W1 : World} {m : Nat} {l : List Int} {p : Option Addr} (h : Hid (0 < m → ∃ ad, p = some ad ∧ ∀ j u, (bv l)[j]? = some u → W.cell? (ad.add j) = some u)) (hB : Below W.heap.size W W1) : Hid (0 < m → ∃ ad, p = some ad ∧ ∀ j u, (bv l)[j]? = some u → W1.cell? (ad.add j) = some u) := fun h0 => by
  obtain ⟨ad, h1, h2⟩ := h.out h0
  refine ⟨ad, h1, fun j u hu => ?_⟩
  have h3 := h2 j u hu
  rw [hB.cell (p := ad.add j) (by
    unfold World.cell? at h3
    by_cases c : (ad.add j).block < W.heap.size
    · exact c
    · rw [show W.heap[(ad.add j).block]? = none from by simp; omega] at h3
      simp at h3)]
  exact h3
end Go.Proofs.Ytlnamjomhfmbaaa.Wd
