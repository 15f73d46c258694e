/- The law ShapeOrder. -/
import Derived.Test.YthcbgmepkmimoabShpL
import Derived.Test.YthcbgmepkmimoabShpK
namespace Go.Proofs.Ythcbgmepkmimoab.Wd
open Go.RowKit
set_option linter.unusedVariables false
set_option linter.unusedSimpArgs false
theorem RowN.ri2 {w : World} {p : Option Addr} {n c : Nat} {z : Nat → Int} (h : RowN .i64 w p n c z) : RI (nlst n z) := fun y hy => bounds_i64 (h.wf y hy)
theorem fitsB_comm (a b : List Nat) : fitsB a b = fitsB b a := by
  have h := (fitsB_iff a b).trans ((fitsN_comm a b).trans (fitsB_iff b a).symm)
  cases h1 : fitsB a b <;> cases h2 : fitsB b a <;> simp [h1, h2] at h ⊢
theorem joinL_comm (a b : List Int) : joinL a b = joinL b a := by
  unfold joinL
  rw [joinN_comm (ntl b)]
  rw [fitsB_comm (ntl b)]
  have : (goodN (ntl a) ∧ goodN (ntl b) ∧ fitsB (ntl a) (ntl b) = true ∧ goodN (joinN (ntl a) (ntl b))) ↔ (goodN (ntl b) ∧ goodN (ntl a) ∧ fitsB (ntl a) (ntl b) = true ∧ goodN (joinN (ntl a) (ntl b))) :=
    ⟨fun h => ⟨h.2.1, h.1, h.2.2⟩, fun h => ⟨h.2.1, h.1, h.2.2⟩⟩
  by_cases h : goodN (ntl a) ∧ goodN (ntl b) ∧ fitsB (ntl a) (ntl b) = true ∧ goodN (joinN (ntl a) (ntl b))
  · rw [if_pos h, if_pos (this.1 h)]
  · rw [if_neg h, if_neg fun h' => h (this.2 h')]
theorem joinE_comm (a b : List Int) : joinE a b = joinE b a := by
  unfold joinE
  rw [joinN_comm (ntl b), fitsB_comm (ntl b)]
  by_cases h : goodN (ntl a) ∧ goodN (ntl b)
  · rw [if_pos h, if_pos h.symm]
  · rw [if_neg h, if_neg fun h' => h h'.symm]
/-- Joined again, and with none. -/
theorem join_more {a b : List Int} (h : joinE a b = 0) : joinE (joinL a b) a = 0 ∧ joinL (joinL a b) a = joinL a b ∧ joinE a [] = 0 ∧ joinL a [] = a := by
  obtain ⟨ga, gb, gf, gj⟩ := joinE_zero h
  obtain ⟨a, ha, rfl⟩ := good_itl ga
  obtain ⟨b, hb, rfl⟩ := good_itl gb
  rw [ntl_itl, ntl_itl] at *
  rw [(join_fine ha hb gf gj).1]
  have h1 := join_fine gj ha (fitsN_again ha.2.1 hb.2.1 gf) (by rw [joinN_again]; exact gj)
  rw [joinN_again] at h1
  have hn : goodN [] := by decide
  have h2 := join_fine ha hn (fitsN_nil a) (by rw [joinN_nil ha.2.1]; exact ha)
  rw [joinN_nil ha.2.1] at h2
  exact ⟨h1.2, h1.1, h2.2, h2.1⟩
end Go.Proofs.Ythcbgmepkmimoab.Wd
