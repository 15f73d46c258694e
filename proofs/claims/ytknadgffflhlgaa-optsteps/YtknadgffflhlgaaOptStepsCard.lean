/- OptSteps: whatever the input, the law OptSteps returns true and leaves its arguments as they were. No conditions. -/
import Derived.Test.YtknadgffflhlgaaRows
import Derived.Test.YtknadgffflhlgaaOStep
import Derived.WalkKit
import Derived.ProofKit
import Derived.OpenShut
import Derived.Carry
import Derived.Below
import Derived.ChangeOld
import Derived.Test.YtknadgffflhlgaaRow
import Derived.Test.YtknadgffflhlgaaTens
import Derived.Test.YtknadgffflhlgaaRat
import Derived.Test.YtknadgffflhlgaaWds
namespace Go.Proofs.Ytknadgffflhlgaa.optSteps
open Go.ChangeShapes Go.WideShapes Go.ChangeAt Go.RowKit
set_option linter.unusedVariables false
set_option linter.unusedSimpArgs false
theorem own : ownKnob Try.prog.godebug = none := by kernel_rfl
theorem laidOut : laidOutB Try.prog = true := by kernel_rfl
theorem walk (w : World) (a0 : Option Addr) (n0 c0 : Nat) (z0 : Nat → Int) (r0 : Wd.RowN .i64 w a0 n0 c0 z0) (b0 : Option Addr) (m0 e0 : Nat) (y0 : Nat → Int) (s0 : Wd.RowN .i64 w b0 m0 e0 y0) (a1 : Option Addr) (n1 c1 : Nat) (z1 : List Int) (r1 : Wd.WdsN w a1 n1 c1 z1) (x2 : Int) (k2 : -9223372036854775808 ≤ x2 ∧ x2 ≤ 9223372036854775807) (x3 y3 v3 : Int) (k3 : -9223372036854775808 ≤ x3 ∧ x3 ≤ 9223372036854775807) (l3 : -9223372036854775808 ≤ y3 ∧ y3 ≤ 9223372036854775807) (m3 : -9223372036854775808 ≤ v3 ∧ v3 ≤ 9223372036854775807) :
    Calls Try.prog 4 #[.agg #[.slice a0 n0 c0, .slice b0 m0 e0], .slice a1 n1 c1, .int .i64 x2, .agg #[.int .i64 x3, .int .i64 y3, .int .i64 v3]] w fun e w' => e = .returned (.bool true) ∧ Below w.heap.size w w' := by
  have := Wd.osteps_walk w z0 n0 c0 a0 y0 m0 e0 b0 z1 n1 c1 a1 x2 x3 y3 v3 r0 s0 r1 k2 k3 l3 m3
  exact this
set_option maxRecDepth 100000 in
theorem lifted (os : Os) (started : os.Started) (H : Type) (enc : TypeId × Value → H) :
    ReturnsInHanded {} Try.checked os 4 .any (Rows.optStepsSpec.pre6 enc Try.prog Try.f4 Rows.optStepsRow.domain false) (Rows.optStepsSpec.post enc Try.prog Try.f4 false true false false) := by
  refine returnsInHanded_of_change (C := Try.checked) own started (by kernel_rfl) Try.func4
    (ChangeSpec.witness6 (enc := enc) (C := Try.checked) false ⟨#[], #[.agg #[.slice none 0 0, .slice none 0 0], .slice none 0 0, .int .i64 0, .agg #[.int .i64 0, .int .i64 0, .int .i64 0]], []⟩ 8 (by kernel_rfl) (by kernel_rfl) (by kernel_rfl) (by kernel_rfl)) ?_
  intro W base args ds gs before hval0 hW hcnd _
  have hval : ∀ (j : Nat) t v, Try.f4.params[j]? = some t → args[j]? = some v → Value.okWide Try.prog W .any base t v := hval0
  have hW' := hW
  obtain ⟨p, q, hA0, hV, rfl, hfz, hnd⟩ := hW
  have hA : DataW.TrodAll enc Try.prog W 0 (fun _ => true) true Try.f4.params.toList args.toList ds p := hA0
  rw [Try.params4] at hA hval
  obtain ⟨v0, vs0, d0, ds0, p0, q0, hargs, rfl, rfl, h0, r0⟩ := trodAll_cons hA
  obtain ⟨v1, vs1, d1, ds1, p1, q1, rfl, rfl, rfl, h1, r1⟩ := trodAll_cons r0
  obtain ⟨v2, vs2, d2, ds2, p2, q2, rfl, rfl, rfl, h2, r2⟩ := trodAll_cons r1
  obtain ⟨v3, vs3, d3, ds3, p3, q3, rfl, rfl, rfl, h3, r3⟩ := trodAll_cons r2
  obtain ⟨rfl, rfl, rfl⟩ := trodAll_nil r3
  obtain rfl : args = #[v0, v1, v2, v3] := by cases args; simp_all
  obtain ⟨rfl, rfl⟩ := trodVars_none hV
  have k0 := h0
  have lt0 : ∀ x ∈ p0, x.block < W.heap.size := by obtain ⟨m, hm⟩ := k0; exact DataW.trod_lt m _ _ _ hm
  obtain ⟨a0, n0, c0, z0, b0, m0, e0, y0, rfl, w0, u0⟩ := Wd.open_tens Try.underlying25 (by kernel_rfl) (by kernel_rfl) Try.underlying23 Try.underlying27 (by kernel_rfl) Try.underlying23 Try.underlying27 (by kernel_rfl) (hval 0 25 v0 rfl rfl) h0
  obtain ⟨a1, len1, cap1, rfl⟩ := okWide_slice Try.underlying32 (hval 1 32 v1 rfl rfl)
  have k1 := h1
  have lt1 : ∀ x ∈ p1, x.block < W.heap.size := by obtain ⟨m, hm⟩ := k1; exact DataW.trod_lt m _ _ _ hm
  obtain ⟨z1, w1⟩ := Wd.open_wides Try.underlying32 Try.underlying30 (by kernel_rfl) rfl rfl (by kernel_rfl) (by kernel_rfl) Try.underlying2 Try.underlying28 h1
  obtain ⟨a2, rfl, rfl, rfl, w2⟩ := open_int Try.underlying2 (hval 2 2 v2 rfl rfl) h2
  have k3 := h3
  have lt3 : ∀ x ∈ p3, x.block < W.heap.size := by obtain ⟨m, hm⟩ := k3; exact DataW.trod_lt m _ _ _ hm
  obtain ⟨a3, b3, c3, rfl, w3, u3, g3⟩ := Wd.open_rate Try.underlying37 (by kernel_rfl) (by kernel_rfl) Try.underlying27 Try.underlying27 Try.underlying27 (hval 3 37 v3 rfl rfl) h3
  clear hA0 hval0
  refine (walk W a0 n0 c0 z0 w0 b0 m0 e0 y0 u0 a1 len1 cap1 z1 w1 a2 (bounds_i64 w2) a3 b3 c3 w3 u3 g3).mono fun e W' ⟨he, bel⟩ => ?_
  subst he
  exact ⟨_, rfl, _, _, _, [], _, [], hW', trodAll_mk1 (shut_bool Try.underlying4 _), (trodAll_cons_mk (Below.trod laidOut (by kernel_rfl) (of_decide_eq_true (by kernel_rfl)) k0 bel lt0) (trodAll_cons_mk (Below.trod laidOut (by kernel_rfl) (of_decide_eq_true (by kernel_rfl)) k1 bel lt1) (trodAll_cons_mk (shut_int Try.underlying2 w2) (trodAll_cons_mk (Below.trod laidOut (by kernel_rfl) (of_decide_eq_true (by kernel_rfl)) k3 bel lt3) trodAll_mk0)))), rfl, bel.frame _, fun h => by cases h⟩
theorem row_holds : Rows.OptStepsSaid :=
  OpenClaim.holds_of_wide 4 Try.f4 rfl rfl rfl rfl rfl rfl rfl ⟨rfl, rfl, rfl, rfl, rfl⟩ rfl rfl rfl rfl rfl (by kernel_rfl) Try.func4 (by kernel_rfl)
    (of_decide_eq_true (by kernel_rfl)) (by unfold Func.isWrapper; first | (rw [if_pos (by decide +kernel)]; kernel_rfl) | (rw [if_neg (by decide +kernel)]; exact ⟨rfl, rfl⟩))
    (fun os started H enc _ => lifted os started H enc)
end Go.Proofs.Ytknadgffflhlgaa.optSteps
namespace Go.Proofs.Ytknadgffflhlgaa
/-- The law. -/
theorem optSteps_card : Rows.OptStepsSaid := optSteps.row_holds
#print axioms optSteps_card
end Go.Proofs.Ytknadgffflhlgaa
