/- Two rows of noughts, made one behind the other. -/
import Derived.Test.YtimbidiogcfpeaaShpF
namespace Go.Proofs.Ytimbidiogcfpeaa.Wd
open Go.RowKit
set_option linter.unusedVariables false
set_option linter.unusedSimpArgs false
theorem make_run {P : Program} {t e : TypeId} {k : IntKind} {b : Nat} (T : NumT P t e k b) (hb8 : b ≤ 8) (n : Nat) (hn : n ≤ 1073741824) (kl kc : IntKind) (W : World) : (Instr.makeSlice t (.int kl (n : Int)) (.int kc (n : Int))).run P W = .ok (.slice (some ⟨W.heap.size, 0, none⟩) n n) (W.alloc (.cells (vals k (List.replicate n 0)).toArray e)) := by
  obtain ⟨i0, hi, hz0, hz1, hz2⟩ := info_of T
  have hm : b * n ≤ 8 * 1073741824 := Nat.mul_le_mul hb8 hn
  have hb' : (i0.bytes : Int) * (n : Int) ≤ 281474976710656 := by
    have h : ((i0.bytes * n : Nat) : Int) ≤ 281474976710656 := by rw [hz2]; omega
    rwa [Int.natCast_mul] at h
  have hr := run_make (P := P) W t e i0 (.int k 0) T.ht hi hz0 kl kc n n (by omega) (Int.le_refl _) hb' (by omega)
  simp only [Int.toNat_natCast] at hr
  rw [hr]
  have e1 : (madeCells (Value.int k 0).cells (n * i0.size)) = (vals k (List.replicate n 0)).toArray := by
    rw [hz1, Nat.mul_one]
    apply Array.toList_inj.1
    have := toList_madeCells_one (Value.int k 0) n
    rw [show (Value.int k 0).cells = #[Value.int k 0] from rfl, this]
    unfold vals
    rw [List.map_replicate]
  rw [e1]
theorem two_made {k : IntKind} {e : TypeId} {w3 W4 : World} {n : Nat} (hn : n ≤ 1073741824) (h : ((w3.alloc (.cells (vals k (List.replicate n 0)).toArray e)).alloc (.cells (vals k (List.replicate n 0)).toArray e)).drew = W4) :
    Below w3.heap.size w3 W4 ∧ OwnK k e W4 w3.heap.size (.slice (some ⟨w3.heap.size, 0, none⟩) n n) (List.replicate n 0) ∧ OwnK k e W4 w3.heap.size (.slice (some ⟨w3.heap.size + 1, 0, none⟩) n n) (List.replicate n 0) := by
  have B1 := up_alloc w3 (.cells (vals k (List.replicate n 0)).toArray e)
  have B2 := up_alloc (w3.alloc (.cells (vals k (List.replicate n 0)).toArray e)) (.cells (vals k (List.replicate n 0)).toArray e)
  have B3 : Below ((w3.alloc (.cells (vals k (List.replicate n 0)).toArray e)).alloc (.cells (vals k (List.replicate n 0)).toArray e)).heap.size ((w3.alloc (.cells (vals k (List.replicate n 0)).toArray e)).alloc (.cells (vals k (List.replicate n 0)).toArray e)) W4 := by
    rw [← h]
    exact ⟨rfl, rfl, rfl, Nat.le_refl _, fun _ _ => rfl⟩
  have O1 := own_lit (k := k) (e := e) w3 (List.replicate n 0) n (by simp) hn
  have O2 := own_lit (k := k) (e := e) (w3.alloc (.cells (vals k (List.replicate n 0)).toArray e)) (List.replicate n 0) n (by simp) hn
  have es : (w3.alloc (.cells (vals k (List.replicate n 0)).toArray e)).heap.size = w3.heap.size + 1 := Array.size_push _
  refine ⟨bstep (bstep B1 B2) B3, (O1.up B2).up B3, ?_⟩
  have := (O2.up B3).low (show w3.heap.size ≤ _ by rw [es]; omega)
  rw [es] at this
  exact this
end Go.Proofs.Ytimbidiogcfpeaa.Wd
