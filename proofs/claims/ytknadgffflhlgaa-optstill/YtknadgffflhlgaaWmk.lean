/- make of a row of Wides. -/
import Derived.Test.YtknadgffflhlgaaWds
import Derived.Test.YtknadgffflhlgaaTenW
namespace Go.Proofs.Ytknadgffflhlgaa.Wd
open Go.RowKit Fx
set_option linter.unusedVariables false
set_option linter.unusedSimpArgs false
theorem wd_all : (Try.prog.info? 30).map (fun i => (i.zero, i.size, i.bytes)) = some (some (.agg #[.int .i64 0, .int .u64 0]), 2, 16) := by kernel_rfl
theorem wide_info : ∃ i, Try.prog.info? 30 = some i ∧ i.zero = some (.agg #[.int .i64 0, .int .u64 0]) ∧ i.size = 2 ∧ i.bytes = 16 := by
  have h := wd_all
  cases h0 : Try.prog.info? 30 with
  | none => rw [h0] at h; cases h
  | some i =>
    rw [h0] at h
    simp only [Option.map_some, Option.some.injEq, Prod.mk.injEq] at h
    exact ⟨i, rfl, h.1, h.2.1, h.2.2⟩
theorem mkw_run (n : Nat) (hn : n ≤ 100000) (W : World) : (Instr.makeSlice 32 (.int .i64 (n : Int)) (.int .i64 (n : Int))).run Try.prog W = .ok (.slice (some ⟨W.heap.size, 0, none⟩) n n) (W.alloc (.cells (madeCells (Value.agg #[.int .i64 0, .int .u64 0]).cells (n * 2)) 30)) := by
  obtain ⟨i, h0, h1, h2, h3⟩ := wide_info
  have hb' : (i.bytes : Int) * (n : Int) ≤ 281474976710656 := by
    rw [h3]
    omega
  have hr := run_make (P := Try.prog) W 32 30 i _ Try.underlying32 h0 h1 .i64 .i64 n n (by omega) (Int.le_refl _) hb' (by omega)
  simp only [Int.toNat_natCast] at hr
  rw [hr, h2]
theorem made_rd (n : Nat) (W : World) : WdR (W.alloc (.cells (madeCells (Value.agg #[.int .i64 0, .int .u64 0]).cells (n * 2)) 30)) (some ⟨W.heap.size, 0, none⟩) n (List.replicate n 0) := by
  refine ⟨by simp, fun y hy => ?_, fun i hi => ⟨W.heap.size, 0, rfl, ?_⟩⟩
  · rw [(List.mem_replicate.1 hy).2]
    unfold InW
    omega
  have e : (List.replicate n (0 : Int)).getD i 0 = 0 := by
    rw [List.getD_eq_getElem?_getD, List.getElem?_replicate]
    split <;> rfl
  have hz : ∀ r, r < 2 → (madeCells (Value.agg #[.int .i64 0, .int .u64 0]).cells (n * 2))[i * 2 + r]? = (#[Value.int .i64 0, .int .u64 0] : Array Value)[r]? := by
    intro r hr
    have e0 : (Value.agg #[.int .i64 0, .int .u64 0]).cells = #[Value.int .i64 0, .int .u64 0] := rfl
    unfold madeCells
    rw [e0, Array.getElem?_map, Array.getElem?_range]
    rw [if_pos (by omega)]
    have e1 : (i * 2 + r) % 2 = r := by omega
    simp only [Option.map_some]
    match r, hr with
    | 0, _ => rw [show (#[Value.int .i64 0, .int .u64 0] : Array Value).size = 2 from rfl, e1]; rfl
    | 1, _ => rw [show (#[Value.int .i64 0, .int .u64 0] : Array Value).size = 2 from rfl, e1]; rfl
  rw [e, Nat.zero_add]
  have h := heap_alloc_new W (.cells (madeCells (Value.agg #[.int .i64 0, .int .u64 0]).cells (n * 2)) 30)
  have a0 := hz 0 (by omega)
  have a1 := hz 1 (by omega)
  unfold World.cell?
  simp only [h]
  exact ⟨by simpa using a0, by simpa using a1⟩
end Go.Proofs.Ytknadgffflhlgaa.Wd
