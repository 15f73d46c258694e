/- A message that came in by value: what a walk is told of it. -/
import Derived.Test.YthmpfdkbpdbhnaaWdl
import Derived.ChangeSame
namespace Go.Proofs.Ythmpfdkbpdbhnaa.Wd
open Go.ChangeShapes Go.WideShapes Go.ChangeAt Go.RowKit Go.Joins Go.Deep
set_option linter.unusedVariables false
set_option linter.unusedSimpArgs false
/-- Three numbers of 64 bits, two of 32, a row of numbers, a row of Wides: a struct of seven one-cell fields, opened by all its fields at once. -/
theorem open_msg {H : Type} {enc : TypeId × Value → H} {P : Program} {W : World} {r : Reach} {b0 : Nat} {t E E6 : TypeId} {f0 f1 f2 f3 f4 f5 f6 h0 h1 : Field} {v : Value} {d : DataW H} {ps : List MemPlace}
    (hs : P.underlying t = some (.struct #[f0, f1, f2, f3, f4, f5, f6])) (hone : oneCellFields P #[f0, f1, f2, f3, f4, f5, f6] = true) (hC : P.cellsOf t = 7)
    (t0 : P.underlying f0.type = some (.int .i64)) (t1 : P.underlying f1.type = some (.int .i64)) (t2 : P.underlying f2.type = some (.int .i64)) (t3 : P.underlying f3.type = some (.int .u32)) (t4 : P.underlying f4.type = some (.int .u32))
    (t5 : P.underlying f5.type = some (.slice E)) (u5 : P.underlying E = some (.int .i64)) (c5 : P.cellsOf E = 1)
    (t6 : P.underlying f6.type = some (.slice E6)) (u6 : P.underlying E6 = some (.struct #[h0, h1])) (c6 : P.cellsOf E6 = 2) (o0_ : h0.offset = 0) (o1_ : h1.offset = 1) (c0_ : P.cellsOf h0.type = 1) (c1_ : P.cellsOf h1.type = 1) (u0_ : P.underlying h0.type = some (.int .i64)) (u1_ : P.underlying h1.type = some (.int .u64))
    (hv : Value.okWide P W r b0 t v) (h : DataW.Trod enc P W 0 (fun _ => true) true t v d ps) :
    ∃ (k f g x s : Int) (a : Option Addr) (n c : Nat) (z : Nat → Int) (q : Option Addr) (m e : Nat) (l : List Int), v = .agg #[.int .i64 k, .int .i64 f, .int .i64 g, .int .u32 x, .int .u32 s, .slice a n c, .slice q m e] ∧ (-9223372036854775808 ≤ k ∧ k ≤ 9223372036854775807) ∧ (-9223372036854775808 ≤ f ∧ f ≤ 9223372036854775807) ∧ (-9223372036854775808 ≤ g ∧ g ≤ 9223372036854775807) ∧ (0 ≤ x ∧ x ≤ 4294967295) ∧ (0 ≤ s ∧ s ≤ 4294967295) ∧ RowN .i64 W a n c z ∧ WdsN W q m e l := by
  obtain ⟨cs, rfl, hsz⟩ := okWide_struct hs hv
  obtain ⟨v0, v1, v2, v3, v4, v5, v6, rfl⟩ : ∃ v0 v1 v2 v3 v4 v5 v6, cs = #[v0, v1, v2, v3, v4, v5, v6] := by
    obtain ⟨l⟩ := cs
    have hl : l.length = 7 := by simpa using hsz.trans hC
    match l, hl with
    | [v0, v1, v2, v3, v4, v5, v6], _ => exact ⟨_, _, _, _, _, _, _, rfl⟩
  obtain ⟨fuel, hf⟩ := h
  obtain ⟨xs, m, _, _, _, hlen, hw⟩ := DataW.trod_struct hs hf
  have hlen : xs.length = 7 := by simpa using hlen
  obtain ⟨y0, y1, y2, y3, y4, y5, y6, rfl⟩ : ∃ y0 y1 y2 y3 y4 y5 y6, xs = [y0, y1, y2, y3, y4, y5, y6] := by
    match xs, hlen with
    | [y0, y1, y2, y3, y4, y5, y6], _ => exact ⟨_, _, _, _, _, _, _, rfl⟩
  obtain ⟨o0, q0⟩ := hone_of hone 0 f0 rfl
  have g0 : DataW.trod enc P W 0 (fun _ => true) true m f0.type [v0] = some y0 := by simpa [Value.cells, o0, q0] using hw 0 f0 rfl
  obtain ⟨o1, q1⟩ := hone_of hone 1 f1 rfl
  have g1 : DataW.trod enc P W 0 (fun _ => true) true m f1.type [v1] = some y1 := by simpa [Value.cells, o1, q1] using hw 1 f1 rfl
  obtain ⟨o2, q2⟩ := hone_of hone 2 f2 rfl
  have g2 : DataW.trod enc P W 0 (fun _ => true) true m f2.type [v2] = some y2 := by simpa [Value.cells, o2, q2] using hw 2 f2 rfl
  obtain ⟨o3, q3⟩ := hone_of hone 3 f3 rfl
  have g3 : DataW.trod enc P W 0 (fun _ => true) true m f3.type [v3] = some y3 := by simpa [Value.cells, o3, q3] using hw 3 f3 rfl
  obtain ⟨o4, q4⟩ := hone_of hone 4 f4 rfl
  have g4 : DataW.trod enc P W 0 (fun _ => true) true m f4.type [v4] = some y4 := by simpa [Value.cells, o4, q4] using hw 4 f4 rfl
  obtain ⟨o5, q5⟩ := hone_of hone 5 f5 rfl
  have g5 : DataW.trod enc P W 0 (fun _ => true) true m f5.type [v5] = some y5 := by simpa [Value.cells, o5, q5] using hw 5 f5 rfl
  obtain ⟨o6, q6⟩ := hone_of hone 6 f6 rfl
  have g6 : DataW.trod enc P W 0 (fun _ => true) true m f6.type [v6] = some y6 := by simpa [Value.cells, o6, q6] using hw 6 f6 rfl
  obtain ⟨a0, e0, _, w0⟩ := DataW.trod_int t0 g0
  obtain ⟨a1, e1, _, w1⟩ := DataW.trod_int t1 g1
  obtain ⟨a2, e2, _, w2⟩ := DataW.trod_int t2 g2
  obtain ⟨a3, e3, _, w3⟩ := DataW.trod_int t3 g3
  obtain ⟨a4, e4, _, w4⟩ := DataW.trod_int t4 g4
  simp only [List.cons.injEq, and_true] at e0 e1 e2 e3 e4
  subst e0 e1 e2 e3 e4
  obtain ⟨a, n, c, rfl⟩ : ∃ a n c, v5 = .slice a n c := by
    rcases open_ints t5 u5 c5 g5 with ⟨e, _⟩ | ⟨x, l, c', zs, e, _⟩
    · simp at e; exact ⟨_, _, _, e⟩
    · simp at e; exact ⟨_, _, _, e⟩
  obtain ⟨b, n', c', rfl⟩ : ∃ a n c, v6 = .slice a n c := by
    rcases open_slice t6 g6 with ⟨e, _⟩ | ⟨x, len, cap, _, _, _, _, e, _⟩
    · simp at e; exact ⟨_, _, _, e⟩
    · simp at e; exact ⟨_, _, _, e⟩
  obtain ⟨z, hz⟩ := open_rowN (d := y5.1) (ps := y5.2) t5 u5 c5 ⟨m, g5⟩
  obtain ⟨l, hl⟩ := open_wides (d := y6.1) (ps := y6.2) t6 u6 c6 o0_ o1_ c0_ c1_ u0_ u1_ ⟨m, g6⟩
  exact ⟨_, _, _, _, _, a, n, c, z, b, n', c', l, rfl, bounds_i64 w0, bounds_i64 w1, bounds_i64 w2, bounds_u32 w3, bounds_u32 w4, hz, hl⟩
end Go.Proofs.Ythmpfdkbpdbhnaa.Wd
