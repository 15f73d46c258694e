/- Cuts of rows of numbers: s[i:j], s[i:], s[:j]. -/
import Derived.Test.YtimbidiogcfpeaaTenA
namespace Go.Proofs.Ytimbidiogcfpeaa.Wd
open Go.RowKit
set_option linter.unusedVariables false
set_option linter.unusedSimpArgs false
/-- What a cut of a row holds, whatever its elements' kind. -/
theorem cut_nums {k : IntKind} {W : World} {p : Option Addr} {n cap i j : Nat} {l : List Int} (h : i ≤ j) (h2 : j ≤ n) (hl : l.length = n) (hn : n ≤ cap) (hb : Nums k W (.slice p n cap) l) : Nums k W (sliced p i j cap 1) ((l.drop i).take (j - i)) := by
  rcases hb with ⟨e, rfl⟩ | ⟨ad, c', e, hx⟩
  · cases e
    obtain rfl : i = 0 := by omega
    obtain rfl : j = 0 := by omega
    exact .inl ⟨rfl, rfl⟩
  · cases e
    have hlen : ((l.drop i).take (j - i)).length = j - i := by simp; omega
    unfold sliced
    by_cases c : cap = i
    · rw [if_pos c]
      exact .inr ⟨ad, cap - i, by rw [hlen], fun q u hu => by
        rw [vals, List.getElem?_eq_none (by rw [List.length_map, hlen]; omega)] at hu
        cases hu⟩
    · rw [if_neg c]
      refine .inr ⟨ad.add (i * 1), cap - i, by rw [hlen]; rfl, fun q u hu => ?_⟩
      rw [vals, List.getElem?_map] at hu
      obtain ⟨x, hx', rfl⟩ := Option.map_eq_some_iff.1 hu
      have hj : q < j - i := by
        rcases Nat.lt_or_ge q (j - i) with h | h
        · exact h
        · rw [List.getElem?_eq_none (by rw [hlen]; exact h)] at hx'; cases hx'
      rw [List.getElem?_take_of_lt hj, List.getElem?_drop] at hx'
      have h0 := hx (i + q) (.int k x) (by rw [vals, List.getElem?_map, hx']; rfl)
      have e0 := hx 0 (.int k (l[0]'(by omega))) (by rw [vals, List.getElem?_map, List.getElem?_eq_getElem (by omega)]; rfl)
      have e1 : ad = ⟨ad.block, ad.off, none⟩ := spot_none (by
        have : ad.add 0 = ad := by simp [Addr.add]
        rw [this] at e0; exact e0)
      rw [e1, addr_plus] at h0
      rw [e1, Nat.mul_one, addr_plus, addr_plus, Nat.add_assoc]
      exact h0
/-- The front of a row of one's own is one's own. -/
theorem OwnK.cut {k : IntKind} {e : TypeId} {W : World} {B : Nat} {p : Option Addr} {n c : Nat} {l : List Int} (h : OwnK k e W B (.slice p n c) l) (j : Nat) (hj : j ≤ n) : OwnK k e W B (sliced p 0 j c 1) (l.take j) := by
  obtain ⟨hl, h2⟩ := h
  rcases h2 with ⟨e1, h0⟩ | ⟨g, cap, cur, e1, hb, hg, hc, hm, hs, ht⟩
  · cases e1
    obtain rfl : j = 0 := by omega
    rw [List.take_zero]
    exact ⟨rfl, .inl ⟨by simp [sliced], rfl⟩⟩
  · cases e1
    have hlen : (l.take j).length = j := by rw [List.length_take]; omega
    refine ⟨by simp [vals], .inr ⟨g, c, cur, ?_, hb, hg, by omega, hm, hs, ?_⟩⟩
    · rw [hlen]
      simp [sliced, Addr.add]
    · rw [hlen, Nat.mul_one]
      rw [Nat.mul_one] at ht
      have : cur.toList.take j = (cur.toList.take l.length).take j := by rw [List.take_take, Nat.min_eq_left hj]
      rw [this, ht]
      simp [vals]
/-- Without the frame's end: a cut is a slice of its own length. -/
theorem sliced_is (p : Option Addr) (i j cap : Nat) : ∃ q, sliced p i j cap 1 = .slice q (j - i) (cap - i) := by
  unfold sliced
  by_cases c : cap = i
  · rw [if_pos c]; exact ⟨_, rfl⟩
  · rw [if_neg c]; exact ⟨_, rfl⟩
theorem cutI_lh (p : Option Addr) (n cap i j : Nat) (h : i ≤ j) (h2 : j ≤ cap) (W : World) : Sem.run Try.prog (Instr.slice 23 (.slice p n cap) (some (.int .i64 (i : Int))) (some (.int .i64 (j : Int))) none) W = .ok (sliced p i j cap 1) W := by
  have hz : ∀ W, Sem.run Try.prog (sizeOf (Try.prog.elem 23)) W = .ok 1 W := fun W => by kernel_rfl
  have := run_slice_lh (P := Try.prog) W 23 p n cap (by kernel_rfl) .i64 .i64 (i : Int) (j : Int) (by omega) (by omega) (by omega)
  rw [this, hz]
  simp [Result.andThen]
theorem cutI_l (p : Option Addr) (n cap i : Nat) (h : i ≤ n) (W : World) : Sem.run Try.prog (Instr.slice 23 (.slice p n cap) (some (.int .i64 (i : Int))) none none) W = .ok (sliced p i n cap 1) W := by
  have hz : ∀ W, Sem.run Try.prog (sizeOf (Try.prog.elem 23)) W = .ok 1 W := fun W => by kernel_rfl
  have := run_slice_l (P := Try.prog) W 23 p n cap (by kernel_rfl) .i64 (i : Int) (by omega) (by omega)
  rw [this, hz]
  simp [Result.andThen]
theorem cutI_h (p : Option Addr) (n cap j : Nat) (h2 : j ≤ cap) (W : World) : Sem.run Try.prog (Instr.slice 23 (.slice p n cap) none (some (.int .i64 (j : Int))) none) W = .ok (sliced p 0 j cap 1) W := by
  have hz : ∀ W, Sem.run Try.prog (sizeOf (Try.prog.elem 23)) W = .ok 1 W := fun W => by kernel_rfl
  have := run_slice_h (P := Try.prog) W 23 p n cap (by kernel_rfl) .i64 (j : Int) (by omega) (by omega)
  rw [this, hz]
  simp [Result.andThen]
end Go.Proofs.Ytimbidiogcfpeaa.Wd
