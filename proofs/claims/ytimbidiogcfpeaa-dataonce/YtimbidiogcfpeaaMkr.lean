/- make of any rows. -/
import Derived.Test.YtimbidiogcfpeaaTenW
import Derived.Test.YtimbidiogcfpeaaTwo
namespace Go.Proofs.Ytimbidiogcfpeaa.Wd
open Go.RowKit Fx
set_option linter.unusedVariables false
set_option linter.unusedSimpArgs false
set_option maxRecDepth 8000
set_option maxHeartbeats 4000000
/-- A row that was just made: all its cells are one value. -/
theorem mk_cells {z : Array Value} {v : Value} (hz : 0 < z.size) (h : ∀ i, i < z.size → z[i]? = some v) (n : Nat) : madeCells z n = (List.replicate n v).toArray := by
  apply Array.toList_inj.1
  refine List.ext_getElem? fun j => ?_
  by_cases hj : j < n
  · have e := h (j % z.size) (Nat.mod_lt _ hz)
    unfold madeCells
    show _ = (List.replicate n v)[j]?
    rw [Array.getElem?_toList, Array.getElem?_map, Array.getElem?_range, if_pos hj, List.getElem?_replicate, if_pos hj]
    simp only [Option.map_some]
    rw [getElem!_def, e]
  · rw [List.getElem?_eq_none (by rw [Array.length_toList, size_madeCells]; omega), List.getElem?_eq_none (by simp; omega)]
theorem mk_run {P : Program} {t e : TypeId} {z v : Value} {sz b : Nat} (ht : P.underlying t = some (.slice e)) (hi : (P.info? e).map (fun i => (i.zero, i.size, i.bytes)) = some (some z, sz, b)) (hb : b ≤ 128) (hz : 0 < z.cells.size) (h : ∀ i, i < z.cells.size → z.cells[i]? = some v) (n : Nat) (hn : n ≤ 100000) (W : World) :
    (Instr.makeSlice t (.int .i64 (n : Int)) (.int .i64 (n : Int))).run P W = .ok (.slice (some ⟨W.heap.size, 0, none⟩) n n) (W.alloc (.cells (List.replicate (n * sz) v).toArray e)) := by
  cases h0 : P.info? e with
  | none => rw [h0] at hi; cases hi
  | some i =>
    rw [h0] at hi
    simp only [Option.map_some, Option.some.injEq, Prod.mk.injEq] at hi
    obtain ⟨h1, h2, h3⟩ := hi
    have hm : b * n ≤ 128 * 100000 := Nat.mul_le_mul hb hn
    have hb' : (i.bytes : Int) * (n : Int) ≤ 281474976710656 := by
      have q : ((i.bytes * n : Nat) : Int) ≤ 281474976710656 := by rw [h3]; omega
      rwa [Int.natCast_mul] at q
    have hr := run_make (P := P) W t e i z ht h0 h1 .i64 .i64 n n (by omega) (Int.le_refl _) hb' (by omega)
    simp only [Int.toNat_natCast] at hr
    rw [hr, h2, mk_cells hz h]
end Go.Proofs.Ytimbidiogcfpeaa.Wd
