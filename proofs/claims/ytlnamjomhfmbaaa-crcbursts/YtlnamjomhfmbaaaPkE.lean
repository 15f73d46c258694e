/- What the reference's At hands back; what a cut of bytes is. -/
import Derived.Test.YtlnamjomhfmbaaaPkD
namespace Go.Proofs.Ytlnamjomhfmbaaa.Wd
open Go.RowKit
set_option linter.unusedVariables false
set_option linter.unusedSimpArgs false
theorem cut_run (p : Option Addr) (n cap at_ a2 : Nat) (h : at_ ≤ a2) (h2 : a2 ≤ cap) (W : World) : Sem.run Try.prog (Instr.slice 25 (.slice p n cap) (some (.int .i64 (at_ : Int))) (some (.int .i64 (a2 : Int))) none) W = .ok (sliced p at_ a2 cap 1) W := by
  have hz : ∀ W, Sem.run Try.prog (sizeOf (Try.prog.elem 25)) W = .ok 1 W := fun W => by kernel_rfl
  have := run_slice_lh (P := Try.prog) W 25 p n cap (by kernel_rfl) .i64 .i64 (at_ : Int) (a2 : Int) (by omega) (by omega) (by omega)
  rw [this, hz]
  simp [Result.andThen]
theorem cut_bytes {W : World} {p : Option Addr} {n cap at_ a2 : Nat} {l : List Int} (h : at_ ≤ a2) (h2 : a2 ≤ n) (hl : l.length = n) (hn : n ≤ cap) (hb : Bytes W (.slice p n cap) l) : Bytes W (sliced p at_ a2 cap 1) ((l.drop at_).take (a2 - at_)) := by
  rcases hb with ⟨e, rfl⟩ | ⟨ad, c', e, hx⟩
  · cases e
    obtain rfl : at_ = 0 := by omega
    obtain rfl : a2 = 0 := by omega
    exact .inl ⟨rfl, rfl⟩
  · cases e
    have hlen : ((l.drop at_).take (a2 - at_)).length = a2 - at_ := by simp; omega
    unfold sliced
    by_cases c : cap = at_
    · rw [if_pos c]
      exact .inr ⟨ad, cap - at_, by rw [hlen], fun j u hu => by
        rw [List.getElem?_eq_none (by rw [List.length_map, hlen]; omega)] at hu
        cases hu⟩
    · rw [if_neg c]
      refine .inr ⟨ad.add (at_ * 1), cap - at_, by rw [hlen]; rfl, fun j u hu => ?_⟩
      rw [List.getElem?_map] at hu
      obtain ⟨x, hx', rfl⟩ := Option.map_eq_some_iff.1 hu
      have hj : j < a2 - at_ := by
        rcases Nat.lt_or_ge j (a2 - at_) with h | h
        · exact h
        · rw [List.getElem?_eq_none (by rw [hlen]; exact h)] at hx'; cases hx'
      rw [List.getElem?_take_of_lt hj, List.getElem?_drop] at hx'
      have h0 := hx (at_ + j) (.int .u8 x) (by rw [List.getElem?_map, hx']; rfl)
      have e0 := hx 0 (.int .u8 (l[0]'(by omega))) (by rw [List.getElem?_map, List.getElem?_eq_getElem (by omega)]; rfl)
      have e1 : ad = ⟨ad.block, ad.off, none⟩ := spot_none (by
        have : ad.add 0 = ad := by simp [Addr.add]
        rw [this] at e0; exact e0)
      rw [e1, addr_add] at h0
      rw [e1, Nat.mul_one, addr_add, addr_add, Nat.add_assoc]
      exact h0
end Go.Proofs.Ytlnamjomhfmbaaa.Wd
