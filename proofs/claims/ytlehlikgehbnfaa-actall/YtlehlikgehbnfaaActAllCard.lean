/- ActAll: whatever the input, the law ActAll returns true and leaves its arguments as they were. No conditions. -/
import Derived.Test.YtlehlikgehbnfaaRows
import Derived.Test.YtlehlikgehbnfaaAAll
import Derived.WalkKit
import Derived.ProofKit
import Derived.OpenShut
import Derived.Carry
import Derived.Below
import Derived.ChangeOld
import Derived.Test.YtlehlikgehbnfaaRow
import Derived.Test.YtlehlikgehbnfaaTens
namespace Go.Proofs.Ytlehlikgehbnfaa.actAll
open Go.ChangeShapes Go.WideShapes Go.ChangeAt Go.RowKit
set_option linter.unusedVariables false
set_option linter.unusedSimpArgs false
theorem own : ownKnob Try.prog.godebug = none := by kernel_rfl
theorem laidOut : laidOutB Try.prog = true := by kernel_rfl
theorem walk (w : World) (x0 : Int) (k0 : -9223372036854775808 ≤ x0 ∧ x0 ≤ 9223372036854775807) (a1 : Option Addr) (n1 c1 : Nat) (z1 : Nat → Int) (r1 : Wd.RowN .i64 w a1 n1 c1 z1) (b1 : Option Addr) (m1 e1 : Nat) (y1 : Nat → Int) (s1 : Wd.RowN .i64 w b1 m1 e1 y1) (a2 : Option Addr) (n2 c2 : Nat) (z2 : Nat → Int) (r2 : Wd.RowN .i64 w a2 n2 c2 z2) (b2 : Option Addr) (m2 e2 : Nat) (y2 : Nat → Int) (s2 : Wd.RowN .i64 w b2 m2 e2 y2) :
    Calls Try.prog 5 #[.int .i64 x0, .agg #[.slice a1 n1 c1, .slice b1 m1 e1], .agg #[.slice a2 n2 c2, .slice b2 m2 e2]] w fun e w' => e = .returned (.bool true) ∧ Below w.heap.size w w' := by
  have := Wd.aall_walk w x0 z1 n1 c1 a1 y1 m1 e1 b1 z2 n2 c2 a2 y2 m2 e2 b2 k0 r1 s1 r2 s2
  exact this
set_option maxRecDepth 100000 in
theorem lifted (os : Os) (started : os.Started) (H : Type) (enc : TypeId × Value → H) :
    ReturnsInHanded {} Try.checked os 5 .any (Rows.actAllSpec.pre6 enc Try.prog Try.f5 Rows.actAllRow.domain false) (Rows.actAllSpec.post enc Try.prog Try.f5 false true false false) := by
  refine returnsInHanded_of_change (C := Try.checked) own started (by kernel_rfl) Try.func5
    (ChangeSpec.witness6 (enc := enc) (C := Try.checked) false ⟨#[], #[.int .i64 0, .agg #[.slice none 0 0, .slice none 0 0], .agg #[.slice none 0 0, .slice none 0 0]], []⟩ 8 (by kernel_rfl) (by kernel_rfl) (by kernel_rfl) (by kernel_rfl)) ?_
  intro W base args ds gs before hval0 hW hcnd _
  have hval : ∀ (j : Nat) t v, Try.f5.params[j]? = some t → args[j]? = some v → Value.okWide Try.prog W .any base t v := hval0
  have hW' := hW
  obtain ⟨p, q, hA0, hV, rfl, hfz, hnd⟩ := hW
  have hA : DataW.TrodAll enc Try.prog W 0 (fun _ => true) true Try.f5.params.toList args.toList ds p := hA0
  rw [Try.params5] at hA hval
  obtain ⟨v0, vs0, d0, ds0, p0, q0, hargs, rfl, rfl, h0, r0⟩ := trodAll_cons hA
  obtain ⟨v1, vs1, d1, ds1, p1, q1, rfl, rfl, rfl, h1, r1⟩ := trodAll_cons r0
  obtain ⟨v2, vs2, d2, ds2, p2, q2, rfl, rfl, rfl, h2, r2⟩ := trodAll_cons r1
  obtain ⟨rfl, rfl, rfl⟩ := trodAll_nil r2
  obtain rfl : args = #[v0, v1, v2] := by cases args; simp_all
  obtain ⟨rfl, rfl⟩ := trodVars_none hV
  obtain ⟨a0, rfl, rfl, rfl, w0⟩ := open_int Try.underlying3 (hval 0 3 v0 rfl rfl) h0
  have k1 := h1
  have lt1 : ∀ x ∈ p1, x.block < W.heap.size := by obtain ⟨m, hm⟩ := k1; exact DataW.trod_lt m _ _ _ hm
  obtain ⟨a1, n1, c1, z1, b1, m1, e1, y1, rfl, w1, u1⟩ := Wd.open_tens Try.underlying30 (by kernel_rfl) (by kernel_rfl) Try.underlying27 Try.underlying3 (by kernel_rfl) Try.underlying28 Try.underlying23 (by kernel_rfl) (hval 1 30 v1 rfl rfl) h1
  have k2 := h2
  have lt2 : ∀ x ∈ p2, x.block < W.heap.size := by obtain ⟨m, hm⟩ := k2; exact DataW.trod_lt m _ _ _ hm
  obtain ⟨a2, n2, c2, z2, b2, m2, e2, y2, rfl, w2, u2⟩ := Wd.open_tens Try.underlying30 (by kernel_rfl) (by kernel_rfl) Try.underlying27 Try.underlying3 (by kernel_rfl) Try.underlying28 Try.underlying23 (by kernel_rfl) (hval 2 30 v2 rfl rfl) h2
  clear hA0 hval0
  refine (walk W a0 (bounds_i64 w0) a1 n1 c1 z1 w1 b1 m1 e1 y1 u1 a2 n2 c2 z2 w2 b2 m2 e2 y2 u2).mono fun e W' ⟨he, bel⟩ => ?_
  subst he
  exact ⟨_, rfl, _, _, _, [], _, [], hW', trodAll_mk1 (shut_bool Try.underlying4 _), (trodAll_cons_mk (shut_int Try.underlying3 w0) (trodAll_cons_mk (Below.trod laidOut (by kernel_rfl) (of_decide_eq_true (by kernel_rfl)) k1 bel lt1) (trodAll_cons_mk (Below.trod laidOut (by kernel_rfl) (of_decide_eq_true (by kernel_rfl)) k2 bel lt2) trodAll_mk0))), rfl, bel.frame _, fun h => by cases h⟩
theorem row_holds : Rows.ActAllSaid :=
  OpenClaim.holds_of_wide 5 Try.f5 rfl rfl rfl rfl rfl rfl rfl ⟨rfl, rfl, rfl, rfl, rfl⟩ rfl rfl rfl rfl rfl (by kernel_rfl) Try.func5 (by kernel_rfl)
    (of_decide_eq_true (by kernel_rfl)) (by unfold Func.isWrapper; first | (rw [if_pos (by decide +kernel)]; kernel_rfl) | (rw [if_neg (by decide +kernel)]; exact ⟨rfl, rfl⟩))
    (fun os started H enc _ => lifted os started H enc)
end Go.Proofs.Ytlehlikgehbnfaa.actAll
namespace Go.Proofs.Ytlehlikgehbnfaa
/-- The law. -/
theorem actAll_card : Rows.ActAllSaid := actAll.row_holds
#print axioms actAll_card
end Go.Proofs.Ytlehlikgehbnfaa
