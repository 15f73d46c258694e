/- wide's Get of any bytes, in the words of a message's Wides. -/
import Derived.Test.YthmpfdkbpdbhnaaWpg
import Derived.Test.YthmpfdkbpdbhnaaMsM
namespace Go.Proofs.Ythmpfdkbpdbhnaa.Wd
open Go.RowKit
set_option linter.unusedVariables false
set_option linter.unusedSimpArgs false
theorem val_ext {z y : Nat → Int} : ∀ n, (∀ i, i < n → z i = y i) → val z n = val y n
  | 0, _ => rfl
  | n + 1, h => by
    rw [val, val, val_ext n (fun i hi => h i (by omega)), h n (by omega)]
theorem num_take {l : List Int} (i n : Nat) (h : i + n ≤ l.length) : num ((l.drop i).take n) = val (fun j => l.getD (i + j) 0) n := by
  have hl : ((l.drop i).take n).length = n := by rw [List.length_take, List.length_drop]; omega
  unfold num
  rw [hl]
  refine val_ext n fun j hj => ?_
  show ((l.drop i).take n).getD j 0 = l.getD (i + j) 0
  rw [List.getD_eq_getElem?_getD, List.getElem?_take_of_lt hj, List.getElem?_drop, List.getD_eq_getElem?_getD]
theorem big_is {l : List Int} (h : By8 l) (hl : l.length = 16) : big (fun i => l.getD i 0) = hiW l * 18446744073709551616 + loW l ∧ In128 (hiW l * 18446744073709551616 + loW l) ∧ In64 (hiW l) ∧ 0 ≤ loW l ∧ loW l < 18446744073709551616 := by
  have e1 := num_take (l := l) 0 8 (by omega)
  have e2 := num_take (l := l) 8 8 (by omega)
  rw [List.drop_zero, show (fun j => l.getD (0 + j) 0) = fun j => l.getD j 0 by funext j; rw [Nat.zero_add]] at e1
  have r1 := num_top 8 (h.take 8) (by rw [List.length_take]; omega)
  have r2 := num_top 8 ((h.drop 8).take 8) (by rw [List.length_take, List.length_drop]; omega)
  unfold big hiW loW
  rw [← e1, ← e2]
  obtain ⟨x, ex⟩ : ∃ x, num (l.take 8) = x := ⟨_, rfl⟩
  obtain ⟨y, ey⟩ : ∃ y, num ((l.drop 8).take 8) = y := ⟨_, rfl⟩
  rw [ex] at r1 ⊢
  rw [ey] at r2 ⊢
  unfold wr i64w In128 In64
  omega
/-- Of sixteen bytes. -/
theorem wget16_any (p : Option Addr) (c : Nat) (l : List Int) (h : By8 l) (hl : l.length = 16) (hc : 16 ≤ c) (hm : c ≤ 9223372036854775807) (w : World) (hB : Bytes w (.slice p 16 c) l) :
    Calls Try.prog 43 #[.slice p 16 c] w fun e w' => e = .returned (.tuple #[.agg #[.int .i64 (hiW l), .int .u64 (loW l)], .int .i64 0]) ∧ Below w.heap.size w w' := by
  obtain ⟨p', c', e, hv⟩ := hB.viewN
  rw [hl] at e
  cases e
  obtain ⟨q, o, rfl, h0⟩ := hv 0 (by omega)
  have hz : ∀ i, i < 16 → 0 ≤ l.getD i 0 ∧ l.getD i 0 < 256 := fun i hi => h _ (by rw [List.getD_eq_getElem?_getD, List.getElem?_eq_getElem (by omega)]; exact List.getElem_mem _)
  have hcell : ∀ j, j < 16 → w.cell? ⟨q, o + j, none⟩ = some (.int .u8 (l.getD j 0)) := fun j hj => by
    obtain ⟨_, _, e', hh⟩ := hv j (by omega)
    cases e'
    exact hh
  have := get_any q o c (fun i => l.getD i 0) hz hc hm w (cell_lt h0) hcell
  obtain ⟨b1, b2, b3, b4, b5⟩ := big_is h hl
  rw [b1, ← wd_mk (hiW l) (loW l) ⟨b4, b5⟩] at this
  exact this
/-- Of any other number of bytes. -/
theorem wgetno_any (p : Option Addr) (n c : Nat) (hn : n ≠ 16) (hm : n ≤ 9223372036854775807) (w : World) :
    Calls Try.prog 43 #[.slice p n c] w fun e w' => e = .returned (.tuple #[.agg #[.int .i64 0, .int .u64 0], .int .i64 3]) ∧ Below w.heap.size w w' := by
  have hne : ((n : Int) != 16) = true := by simp; omega
  have hne2 : ¬ (n : Int) = 16 := by omega
  go_enter Try.func43, Try.ntmps43
  go_wp2
  exact bodyPost_ret (v := .tuple #[.agg #[.int .i64 0, .int .u64 0], .int .i64 3]) (by simp [results, Try.results43, go_sem]) rfl ⟨rfl, by go_grown⟩
end Go.Proofs.Ythmpfdkbpdbhnaa.Wd
