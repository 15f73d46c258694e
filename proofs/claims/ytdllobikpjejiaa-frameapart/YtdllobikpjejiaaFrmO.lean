/- A frame that came in by value: what a walk is told of it. -/
import Derived.Test.YtdllobikpjejiaaTens
import Derived.ChangeSame
namespace Go.Proofs.Ytdllobikpjejiaa.Wd
open Go.ChangeShapes Go.WideShapes Go.ChangeAt Go.RowKit Go.Joins Go.Deep
set_option linter.unusedVariables false
set_option linter.unusedSimpArgs false
/-- Three numbers of 64 bits, two of 32, a row of bytes: a struct of six one-cell fields, opened by all its fields at once. -/
theorem open_frame {H : Type} {enc : TypeId × Value → H} {P : Program} {W : World} {r : Reach} {b0 : Nat} {t E : TypeId} {f0 f1 f2 f3 f4 f5 : Field} {v : Value} {d : DataW H} {ps : List MemPlace}
    (hs : P.underlying t = some (.struct #[f0, f1, f2, f3, f4, f5])) (hone : oneCellFields P #[f0, f1, f2, f3, f4, f5] = true) (hC : P.cellsOf t = 6)
    (t0 : P.underlying f0.type = some (.int .i64)) (t1 : P.underlying f1.type = some (.int .i64)) (t2 : P.underlying f2.type = some (.int .i64)) (t3 : P.underlying f3.type = some (.int .u32)) (t4 : P.underlying f4.type = some (.int .u32))
    (t5 : P.underlying f5.type = some (.slice E)) (u5 : P.underlying E = some (.int .u8)) (c5 : P.cellsOf E = 1)
    (hv : Value.okWide P W r b0 t v) (h : DataW.Trod enc P W 0 (fun _ => true) true t v d ps) :
    ∃ (k f g x s : Int) (a : Option Addr) (n c : Nat) (z : Nat → Int), v = .agg #[.int .i64 k, .int .i64 f, .int .i64 g, .int .u32 x, .int .u32 s, .slice a n c] ∧ (-9223372036854775808 ≤ k ∧ k ≤ 9223372036854775807) ∧ (-9223372036854775808 ≤ f ∧ f ≤ 9223372036854775807) ∧ (-9223372036854775808 ≤ g ∧ g ≤ 9223372036854775807) ∧ (0 ≤ x ∧ x ≤ 4294967295) ∧ (0 ≤ s ∧ s ≤ 4294967295) ∧ RowN .u8 W a n c z := by
  obtain ⟨cs, rfl, hsz⟩ := okWide_struct hs hv
  obtain ⟨v0, v1, v2, v3, v4, v5, rfl⟩ : ∃ v0 v1 v2 v3 v4 v5, cs = #[v0, v1, v2, v3, v4, v5] := by
    obtain ⟨l⟩ := cs
    have hl : l.length = 6 := by simpa using hsz.trans hC
    match l, hl with
    | [v0, v1, v2, v3, v4, v5], _ => exact ⟨_, _, _, _, _, _, rfl⟩
  obtain ⟨fuel, hf⟩ := h
  obtain ⟨xs, m, _, _, _, hlen, hw⟩ := DataW.trod_struct hs hf
  have hlen : xs.length = 6 := by simpa using hlen
  obtain ⟨y0, y1, y2, y3, y4, y5, rfl⟩ : ∃ y0 y1 y2 y3 y4 y5, xs = [y0, y1, y2, y3, y4, y5] := by
    match xs, hlen with
    | [y0, y1, y2, y3, y4, y5], _ => exact ⟨_, _, _, _, _, _, rfl⟩
  obtain ⟨o0, q0⟩ := hone_of hone 0 f0 rfl
  have g0 : DataW.trod enc P W 0 (fun _ => true) true m f0.type [v0] = some y0 := by simpa [Value.cells, o0, q0] using hw 0 f0 rfl
  obtain ⟨o1, q1⟩ := hone_of hone 1 f1 rfl
  have g1 : DataW.trod enc P W 0 (fun _ => true) true m f1.type [v1] = some y1 := by simpa [Value.cells, o1, q1] using hw 1 f1 rfl
  obtain ⟨o2, q2⟩ := hone_of hone 2 f2 rfl
  have g2 : DataW.trod enc P W 0 (fun _ => true) true m f2.type [v2] = some y2 := by simpa [Value.cells, o2, q2] using hw 2 f2 rfl
  obtain ⟨o3, q3⟩ := hone_of hone 3 f3 rfl
  have g3 : DataW.trod enc P W 0 (fun _ => true) true m f3.type [v3] = some y3 := by simpa [Value.cells, o3, q3] using hw 3 f3 rfl
  obtain ⟨o4, q4⟩ := hone_of hone 4 f4 rfl
  have g4 : DataW.trod enc P W 0 (fun _ => true) true m f4.type [v4] = some y4 := by simpa [Value.cells, o4, q4] using hw 4 f4 rfl
  obtain ⟨o5, q5⟩ := hone_of hone 5 f5 rfl
  have g5 : DataW.trod enc P W 0 (fun _ => true) true m f5.type [v5] = some y5 := by simpa [Value.cells, o5, q5] using hw 5 f5 rfl
  obtain ⟨a0, e0, _, w0⟩ := DataW.trod_int t0 g0
  obtain ⟨a1, e1, _, w1⟩ := DataW.trod_int t1 g1
  obtain ⟨a2, e2, _, w2⟩ := DataW.trod_int t2 g2
  obtain ⟨a3, e3, _, w3⟩ := DataW.trod_int t3 g3
  obtain ⟨a4, e4, _, w4⟩ := DataW.trod_int t4 g4
  simp only [List.cons.injEq, and_true] at e0 e1 e2 e3 e4
  subst e0 e1 e2 e3 e4
  obtain ⟨a, n, c, rfl⟩ : ∃ a n c, v5 = .slice a n c := by
    rcases open_ints t5 u5 c5 g5 with ⟨e, _⟩ | ⟨x, l, c', zs, e, _⟩
    · simp at e; exact ⟨_, _, _, e⟩
    · simp at e; exact ⟨_, _, _, e⟩
  obtain ⟨z, hz⟩ := open_rowN (d := y5.1) (ps := y5.2) t5 u5 c5 ⟨m, g5⟩
  exact ⟨_, _, _, _, _, a, n, c, z, rfl, bounds_i64 w0, bounds_i64 w1, bounds_i64 w2, bounds_u32 w3, bounds_u32 w4, hz⟩
end Go.Proofs.Ytdllobikpjejiaa.Wd
