/- The reference's numbers, word by word: what From and Plus hand back, as one value each. -/
import Derived.Test.YthcfeiddbffcfaaDoorRefA
namespace Go.Proofs.YthcfeiddbffcfaaDoor.Rf
open Go.RowKit Fx
set_option linter.unusedVariables false
set_option linter.unusedSimpArgs false
def nv (s : Bool) (x : Int) : Value := .agg #[.bool s, .int .u64 (x % 18446744073709551616), .int .u64 (x / 18446744073709551616 % 18446744073709551616), .int .u64 (x / 340282366920938463463374607431768211456 % 18446744073709551616), .int .u64 (x / 6277101735386680763835789423207666416102355444464034512896 % 18446744073709551616)]
theorem IsN.nv {v : Value} {s : Bool} {x : Int} (h : IsN v s x) : v = nv s x := by
  obtain ⟨a0, a1, a2, a3, rfl, p0, p1, p2, p3, hX⟩ := h
  rw [PS4] at hX
  unfold U at *
  unfold Rf.nv
  have e0 : x % 18446744073709551616 = a0 := by omega
  have e1 : x / 18446744073709551616 % 18446744073709551616 = a1 := by omega
  have e2 : x / 340282366920938463463374607431768211456 % 18446744073709551616 = a2 := by omega
  have e3 : x / 6277101735386680763835789423207666416102355444464034512896 % 18446744073709551616 = a3 := by omega
  rw [e0, e1, e2, e3]
/-- The words of a number. -/
theorem nv_words (s : Bool) (x : Int) (h0 : 0 ≤ x) (h : x < 115792089237316195423570985008687907853269984665640564039457584007913129639936) :
    ∃ a0 a1 a2 a3 : Int, nv s x = .agg #[.bool s, .int .u64 a0, .int .u64 a1, .int .u64 a2, .int .u64 a3] ∧ IsN (.agg #[.bool s, .int .u64 a0, .int .u64 a1, .int .u64 a2, .int .u64 a3]) s x := by
  refine ⟨_, _, _, _, rfl, _, _, _, _, rfl, ?_, ?_, ?_, ?_, ?_⟩
  · unfold U; omega
  · unfold U; omega
  · unfold U; omega
  · unfold U; omega
  · rw [PS4]; omega
def pls (s : Bool) (x : Int) (t : Bool) (y : Int) : Bool × Int := if s = t then (s, x + y) else if x < y then (t, y - x) else (s, x - y)
theorem pls_sv (s : Bool) (x : Int) (t : Bool) (y : Int) : sv (pls s x t y).1 (pls s x t y).2 = sv s x + sv t y := by
  unfold pls sv
  cases s <;> cases t <;> simp <;> (try split) <;> (try simp) <;> omega
theorem pls_le (s : Bool) (x : Int) (t : Bool) (y : Int) (hx : 0 ≤ x) (hy : 0 ≤ y) : 0 ≤ (pls s x t y).2 ∧ (pls s x t y).2 ≤ x + y := by
  unfold pls
  split
  · simp; omega
  · split <;> simp <;> omega
theorem plus_nv (v u : Value) (s t : Bool) (x y : Int) (hv : IsN v s x) (hu : IsN u t y) (hxy : x + y < 115792089237316195423570985008687907853269984665640564039457584007913129639936) (w : World) :
    Calls Tryd.prog 39 #[v, u] w fun e w' => e = .returned (nv (pls s x t y).1 (pls s x t y).2) ∧ Below w.heap.size w w' := by
  have hx := hv.rng
  have hy := hu.rng
  obtain ⟨a0, a1, a2, a3, rfl, p0, p1, p2, p3, hX⟩ := hv
  obtain ⟨b0, b1, b2, b3, rfl, q0, q1, q2, q3, hY⟩ := hu
  by_cases hst : s = t
  · subst hst
    refine (Plus_same s a0 a1 a2 a3 b0 b1 b2 b3 p0 p1 p2 p3 q0 q1 q2 q3 w).mono ?_
    rintro e w' ⟨c0, c1, c2, c3, cr, rfl, u0, u1, u2, u3, hinv, hb⟩
    refine ⟨?_, hb⟩
    have : pls s x s y = (s, x + y) := by simp [pls]
    rw [this]
    refine congrArg Ending.returned (IsN.nv ⟨c0, c1, c2, c3, rfl, u0, u1, u2, u3, ?_⟩)
    have h := hinv.out
    rw [hX, hY, BP4] at h
    have hc : 0 ≤ PS 4 c0 c1 c2 c3 := by rw [PS4]; unfold U at *; omega
    omega
  · have hst' : (s == t) = false := by simpa using hst
    by_cases hlt : x < y
    · refine (Plus_lt s t hst' a0 a1 a2 a3 b0 b1 b2 b3 p0 p1 p2 p3 q0 q1 q2 q3 (by show decide _ = true; rw [hX, hY]; simpa using hlt) w).mono ?_
      rintro e w' ⟨c0, c1, c2, c3, cr, rfl, u0, u1, u2, u3, hinv, hb⟩
      refine ⟨?_, hb⟩
      have : pls s x t y = (t, y - x) := by simp [pls, hst, hlt]
      rw [this]
      refine congrArg Ending.returned (IsN.nv ⟨c0, c1, c2, c3, rfl, u0, u1, u2, u3, ?_⟩)
      have h := hinv.out
      rw [hX, hY, BP4] at h
      have hc : PS 4 c0 c1 c2 c3 < 115792089237316195423570985008687907853269984665640564039457584007913129639936 := by rw [PS4]; unfold U at *; omega
      omega
    · refine (Plus_ge s t hst' a0 a1 a2 a3 b0 b1 b2 b3 p0 p1 p2 p3 q0 q1 q2 q3 (by show decide _ = false; rw [hX, hY]; simpa using hlt) w).mono ?_
      rintro e w' ⟨c0, c1, c2, c3, cr, rfl, u0, u1, u2, u3, hinv, hb⟩
      refine ⟨?_, hb⟩
      have : pls s x t y = (s, x - y) := by simp [pls, hst, hlt]
      rw [this]
      refine congrArg Ending.returned (IsN.nv ⟨c0, c1, c2, c3, rfl, u0, u1, u2, u3, ?_⟩)
      have h := hinv.out
      rw [hX, hY, BP4] at h
      have hc : PS 4 c0 c1 c2 c3 < 115792089237316195423570985008687907853269984665640564039457584007913129639936 := by rw [PS4]; unfold U at *; omega
      omega
theorem from_nv (n : Int) (hn : InR n) (w : World) :
    Calls Tryd.prog 46 #[.int .i64 n] w fun e w' => e = .returned (nv (decide (n < 0)) (n.natAbs : Int)) ∧ Below w.heap.size w w' :=
  (from_any n hn w).mono fun e w' ⟨v, he, hv, hb⟩ => ⟨by rw [he, hv.nv], hb⟩
end Go.Proofs.YthcfeiddbffcfaaDoor.Rf
