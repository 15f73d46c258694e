/- A message of rows that were made: noughts. -/
import Derived.Test.YthmpfdkbpdbhnaaMsX
namespace Go.Proofs.Ythmpfdkbpdbhnaa.Wd
open Go.RowKit
set_option linter.unusedVariables false
set_option linter.unusedSimpArgs false
theorem wd_all : (Try.prog.info? 47).map (fun i => (i.zero, i.size, i.bytes)) = some (some (.agg #[.int .i64 0, .int .u64 0]), 2, 16) := by kernel_rfl
theorem wide_info : ∃ i, Try.prog.info? 47 = some i ∧ i.zero = some (.agg #[.int .i64 0, .int .u64 0]) ∧ i.size = 2 ∧ i.bytes = 16 := by
  have h := wd_all
  cases h0 : Try.prog.info? 47 with
  | none => rw [h0] at h; cases h
  | some i =>
    rw [h0] at h
    simp only [Option.map_some, Option.some.injEq, Prod.mk.injEq] at h
    exact ⟨i, rfl, h.1, h.2.1, h.2.2⟩
theorem mkw_run (n : Nat) (hn : n ≤ 100000) (W : World) : (Instr.makeSlice 25 (.int .i64 (n : Int)) (.int .i64 (n : Int))).run Try.prog W = .ok (.slice (some ⟨W.heap.size, 0, none⟩) n n) (W.alloc (.cells (madeCells (Value.agg #[.int .i64 0, .int .u64 0]).cells (n * 2)) 47)) := by
  obtain ⟨i, h0, h1, h2, h3⟩ := wide_info
  have hb' : (i.bytes : Int) * (n : Int) ≤ 281474976710656 := by
    rw [h3]
    omega
  have hr := run_make (P := Try.prog) W 25 47 i _ Try.underlying25 h0 h1 .i64 .i64 n n (by omega) (Int.le_refl _) hb' (by omega)
  simp only [Int.toNat_natCast] at hr
  rw [hr, h2]
theorem made_rd (n : Nat) (W : World) : WdR (W.alloc (.cells (madeCells (Value.agg #[.int .i64 0, .int .u64 0]).cells (n * 2)) 47)) (some ⟨W.heap.size, 0, none⟩) n (List.replicate n 0) := by
  refine ⟨by simp, fun y hy => ?_, fun i hi => ⟨W.heap.size, 0, rfl, ?_⟩⟩
  · rw [(List.mem_replicate.1 hy).2]
    unfold InW
    omega
  have e : (List.replicate n (0 : Int)).getD i 0 = 0 := by
    rw [List.getD_eq_getElem?_getD, List.getElem?_replicate]
    split <;> rfl
  have hz : ∀ r, r < 2 → (madeCells (Value.agg #[.int .i64 0, .int .u64 0]).cells (n * 2))[i * 2 + r]? = (#[Value.int .i64 0, .int .u64 0] : Array Value)[r]? := by
    intro r hr
    have e0 : (Value.agg #[.int .i64 0, .int .u64 0]).cells = #[Value.int .i64 0, .int .u64 0] := rfl
    unfold madeCells
    rw [e0, Array.getElem?_map, Array.getElem?_range]
    rw [if_pos (by omega)]
    have e1 : (i * 2 + r) % 2 = r := by omega
    simp only [Option.map_some]
    match r, hr with
    | 0, _ => rw [show (#[Value.int .i64 0, .int .u64 0] : Array Value).size = 2 from rfl, e1]; rfl
    | 1, _ => rw [show (#[Value.int .i64 0, .int .u64 0] : Array Value).size = 2 from rfl, e1]; rfl
  rw [e, Nat.zero_add]
  have h : (W.alloc (.cells (madeCells (Value.agg #[.int .i64 0, .int .u64 0]).cells (n * 2)) 47)).heap[W.heap.size]? = some (.cells (madeCells (Value.agg #[.int .i64 0, .int .u64 0]).cells (n * 2)) 47 (0, 0)) := by
    show (W.heap.push _)[W.heap.size]? = _
    simp
  have a0 := hz 0 (by omega)
  have a1 := hz 1 (by omega)
  unfold World.cell?
  simp only [h]
  exact ⟨by simpa using a0, by simpa using a1⟩
def MdN (a : Nat) (v : Value) (W : World) : Prop := ∃ p, v = .slice p a a ∧ Nums .i64 W v (List.replicate a 0)
theorem MdN.up {a : Nat} {v : Value} {W W' : World} (h : MdN a v W) (hB : Below W.heap.size W W') : MdN a v W' := by
  obtain ⟨p, e, n⟩ := h
  exact ⟨p, e, n.up hB⟩
def MdV (b : Nat) (v : Value) (W : World) : Prop := ∃ p, v = .slice p b b ∧ WdR W p b (List.replicate b 0)
theorem MdV.up {a : Nat} {v : Value} {W W' : World} (h : MdV a v W) (hB : Below W.heap.size W W') : MdV a v W' := by
  obtain ⟨p, e, n⟩ := h
  exact ⟨p, e, n.up hB⟩
def AgM (k : Int) (a b : Nat) (u : Value) (W : World) : Prop := ∃ p q, u = MsV k 0 0 0 0 (.slice p a a) (.slice q b b) ∧ MsgR W p a a q b b (List.replicate a 0) (List.replicate b 0)
theorem AgM.up {k : Int} {a b : Nat} {v : Value} {W W' : World} (h : AgM k a b v W) (hB : Below W.heap.size W W') : AgM k a b v W' := by
  obtain ⟨p, q, e, n⟩ := h
  exact ⟨p, q, e, n.up hB⟩
theorem msgR_made {W : World} {p q : Option Addr} {a b : Nat} (hn : Nums .i64 W (.slice p a a) (List.replicate a 0)) (hv : WdR W q b (List.replicate b 0)) (ha : a ≤ 1000) (hb : b ≤ 1000) : MsgR W p a a q b b (List.replicate a 0) (List.replicate b 0) :=
  ⟨hn, List.length_replicate .., fun y hy => by
    rw [(List.mem_replicate.1 hy).2]
    decide, hv, Nat.le_refl _, Nat.le_refl _, by omega, by omega⟩
theorem mkn_run (n : Nat) (hn : n ≤ 100000) (W : World) : (Instr.makeSlice 24 (.int .i64 (n : Int)) (.int .i64 (n : Int))).run Try.prog W = .ok (.slice (some ⟨W.heap.size, 0, none⟩) n n) (W.alloc (.cells (vals .i64 (List.replicate n 0)).toArray 2)) := make_run numI64 (by decide) n (by omega) .i64 .i64 W
theorem madeN_rd (n : Nat) (W : World) : Nums .i64 (W.alloc (.cells (vals .i64 (List.replicate n 0)).toArray 2)) (.slice (some ⟨W.heap.size, 0, none⟩) n n) (List.replicate n 0) := nums_lit W _ n (0, 0) (List.length_replicate ..)
end Go.Proofs.Ythmpfdkbpdbhnaa.Wd
