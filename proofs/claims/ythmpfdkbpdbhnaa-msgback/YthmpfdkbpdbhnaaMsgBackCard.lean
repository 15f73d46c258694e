/- MsgBack: whatever the input, the law MsgBack returns true and leaves its arguments as they were. No conditions. -/
import Derived.Test.YthmpfdkbpdbhnaaRows
import Derived.Test.YthmpfdkbpdbhnaaMBack
import Derived.WalkKit
import Derived.ProofKit
import Derived.OpenShut
import Derived.Carry
import Derived.Below
import Derived.ChangeOld
import Derived.Test.YthmpfdkbpdbhnaaRow
import Derived.Test.YthmpfdkbpdbhnaaMsgO
namespace Go.Proofs.Ythmpfdkbpdbhnaa.msgBack
open Go.ChangeShapes Go.WideShapes Go.ChangeAt Go.RowKit
set_option linter.unusedVariables false
set_option linter.unusedSimpArgs false
theorem own : ownKnob Try.prog.godebug = none := by kernel_rfl
theorem laidOut : laidOutB Try.prog = true := by kernel_rfl
theorem walk (w : World) (x0 y0 v0 q0 s0 : Int) (a0 : Option Addr) (n0 c0 : Nat) (z0 : Nat → Int) (bb0 : Option Addr) (mm0 ee0 : Nat) (ll0 : List Int) (k0 : -9223372036854775808 ≤ x0 ∧ x0 ≤ 9223372036854775807) (l0 : -9223372036854775808 ≤ y0 ∧ y0 ≤ 9223372036854775807) (m0 : -9223372036854775808 ≤ v0 ∧ v0 ≤ 9223372036854775807) (o0 : 0 ≤ q0 ∧ q0 ≤ 4294967295) (u0 : 0 ≤ s0 ∧ s0 ≤ 4294967295) (r0 : Wd.RowN .i64 w a0 n0 c0 z0) (tt0 : Wd.WdsN w bb0 mm0 ee0 ll0) (x1 y1 v1 q1 s1 : Int) (a1 : Option Addr) (n1 c1 : Nat) (z1 : Nat → Int) (bb1 : Option Addr) (mm1 ee1 : Nat) (ll1 : List Int) (k1 : -9223372036854775808 ≤ x1 ∧ x1 ≤ 9223372036854775807) (l1 : -9223372036854775808 ≤ y1 ∧ y1 ≤ 9223372036854775807) (m1 : -9223372036854775808 ≤ v1 ∧ v1 ≤ 9223372036854775807) (o1 : 0 ≤ q1 ∧ q1 ≤ 4294967295) (u1 : 0 ≤ s1 ∧ s1 ≤ 4294967295) (r1 : Wd.RowN .i64 w a1 n1 c1 z1) (tt1 : Wd.WdsN w bb1 mm1 ee1 ll1) :
    Calls Try.prog 5 #[.agg #[.int .i64 x0, .int .i64 y0, .int .i64 v0, .int .u32 q0, .int .u32 s0, .slice a0 n0 c0, .slice bb0 mm0 ee0], .agg #[.int .i64 x1, .int .i64 y1, .int .i64 v1, .int .u32 q1, .int .u32 s1, .slice a1 n1 c1, .slice bb1 mm1 ee1]] w fun e w' => e = .returned (.bool true) ∧ Below w.heap.size w w' := by
  have := Wd.mback_walk w x0 y0 v0 q0 s0 z0 n0 c0 a0 ll0 mm0 ee0 bb0 x1 y1 v1 q1 s1 z1 n1 c1 a1 ll1 mm1 ee1 bb1 ⟨o0.1, by omega⟩ ⟨u0.1, by omega⟩ r0 tt0 ⟨o1.1, by omega⟩ ⟨u1.1, by omega⟩ r1 tt1
  exact this
set_option maxRecDepth 100000 in
theorem lifted (os : Os) (started : os.Started) (H : Type) (enc : TypeId × Value → H) :
    ReturnsInHanded {} Try.checked os 5 .any (Rows.msgBackSpec.pre6 enc Try.prog Try.f5 Rows.msgBackRow.domain false) (Rows.msgBackSpec.post enc Try.prog Try.f5 false true false false) := by
  refine returnsInHanded_of_change (C := Try.checked) own started (by kernel_rfl) Try.func5
    (ChangeSpec.witness6 (enc := enc) (C := Try.checked) false ⟨#[], #[.agg #[.int .i64 0, .int .i64 0, .int .i64 0, .int .u32 0, .int .u32 0, .slice none 0 0, .slice none 0 0], .agg #[.int .i64 0, .int .i64 0, .int .i64 0, .int .u32 0, .int .u32 0, .slice none 0 0, .slice none 0 0]], []⟩ 8 (by kernel_rfl) (by kernel_rfl) (by kernel_rfl) (by kernel_rfl)) ?_
  intro W base args ds gs before hval0 hW hcnd _
  have hval : ∀ (j : Nat) t v, Try.f5.params[j]? = some t → args[j]? = some v → Value.okWide Try.prog W .any base t v := hval0
  have hW' := hW
  obtain ⟨p, q, hA0, hV, rfl, hfz, hnd⟩ := hW
  have hA : DataW.TrodAll enc Try.prog W 0 (fun _ => true) true Try.f5.params.toList args.toList ds p := hA0
  rw [Try.params5] at hA hval
  obtain ⟨v0, vs0, d0, ds0, p0, q0, hargs, rfl, rfl, h0, r0⟩ := trodAll_cons hA
  obtain ⟨v1, vs1, d1, ds1, p1, q1, rfl, rfl, rfl, h1, r1⟩ := trodAll_cons r0
  obtain ⟨rfl, rfl, rfl⟩ := trodAll_nil r1
  obtain rfl : args = #[v0, v1] := by cases args; simp_all
  obtain ⟨rfl, rfl⟩ := trodVars_none hV
  have kk0 := h0
  have lt0 : ∀ x ∈ p0, x.block < W.heap.size := by obtain ⟨m, hm⟩ := kk0; exact DataW.trod_lt m _ _ _ hm
  obtain ⟨x0, y0, w0, q0, s0, a0, n0, c0, z0, bb0, mm0, ee0, ll0, rfl, g0, l0, m0, o0, u0, rr0, tt0⟩ := Wd.open_msg Try.underlying27 (by kernel_rfl) (by kernel_rfl) Try.underlying3 Try.underlying3 Try.underlying3 Try.underlying23 Try.underlying23 Try.underlying24 Try.underlying2 (by kernel_rfl) Try.underlying25 Try.underlying47 (by kernel_rfl) rfl rfl (by kernel_rfl) (by kernel_rfl) Try.underlying2 Try.underlying45 (hval 0 27 v0 rfl rfl) h0
  have kk1 := h1
  have lt1 : ∀ x ∈ p1, x.block < W.heap.size := by obtain ⟨m, hm⟩ := kk1; exact DataW.trod_lt m _ _ _ hm
  obtain ⟨x1, y1, w1, q1, s1, a1, n1, c1, z1, bb1, mm1, ee1, ll1, rfl, g1, l1, m1, o1, u1, rr1, tt1⟩ := Wd.open_msg Try.underlying27 (by kernel_rfl) (by kernel_rfl) Try.underlying3 Try.underlying3 Try.underlying3 Try.underlying23 Try.underlying23 Try.underlying24 Try.underlying2 (by kernel_rfl) Try.underlying25 Try.underlying47 (by kernel_rfl) rfl rfl (by kernel_rfl) (by kernel_rfl) Try.underlying2 Try.underlying45 (hval 1 27 v1 rfl rfl) h1
  clear hA0 hval0
  refine (walk W x0 y0 w0 q0 s0 a0 n0 c0 z0 bb0 mm0 ee0 ll0 g0 l0 m0 o0 u0 rr0 tt0 x1 y1 w1 q1 s1 a1 n1 c1 z1 bb1 mm1 ee1 ll1 g1 l1 m1 o1 u1 rr1 tt1).mono fun e W' ⟨he, bel⟩ => ?_
  subst he
  exact ⟨_, rfl, _, _, _, [], _, [], hW', trodAll_mk1 (shut_bool Try.underlying4 _), (trodAll_cons_mk (Below.trod laidOut (by kernel_rfl) (of_decide_eq_true (by kernel_rfl)) kk0 bel lt0) (trodAll_cons_mk (Below.trod laidOut (by kernel_rfl) (of_decide_eq_true (by kernel_rfl)) kk1 bel lt1) trodAll_mk0)), rfl, bel.frame _, fun h => by cases h⟩
theorem row_holds : Rows.MsgBackSaid :=
  OpenClaim.holds_of_wide 5 Try.f5 rfl rfl rfl rfl rfl rfl rfl ⟨rfl, rfl, rfl, rfl, rfl⟩ rfl rfl rfl rfl rfl (by kernel_rfl) Try.func5 (by kernel_rfl)
    (of_decide_eq_true (by kernel_rfl)) (by unfold Func.isWrapper; first | (rw [if_pos (by decide +kernel)]; kernel_rfl) | (rw [if_neg (by decide +kernel)]; exact ⟨rfl, rfl⟩))
    (fun os started H enc _ => lifted os started H enc)
end Go.Proofs.Ythmpfdkbpdbhnaa.msgBack
namespace Go.Proofs.Ythmpfdkbpdbhnaa
/-- The law. -/
theorem msgBack_card : Rows.MsgBackSaid := msgBack.row_holds
#print axioms msgBack_card
end Go.Proofs.Ythmpfdkbpdbhnaa
