/- FrameBack: whatever the input, the law FrameBack returns true and leaves its arguments as they were. No conditions. -/
import Derived.Test.YtdllobikpjejiaaRows
import Derived.Test.YtdllobikpjejiaaFBack
import Derived.WalkKit
import Derived.ProofKit
import Derived.OpenShut
import Derived.Carry
import Derived.Below
import Derived.ChangeOld
import Derived.Test.YtdllobikpjejiaaRow
import Derived.Test.YtdllobikpjejiaaFrmO
namespace Go.Proofs.Ytdllobikpjejiaa.frameBack
open Go.ChangeShapes Go.WideShapes Go.ChangeAt Go.RowKit
set_option linter.unusedVariables false
set_option linter.unusedSimpArgs false
theorem own : ownKnob Try.prog.godebug = none := by kernel_rfl
theorem laidOut : laidOutB Try.prog = true := by kernel_rfl
theorem walk (w : World) (x0 y0 v0 q0 s0 : Int) (a0 : Option Addr) (n0 c0 : Nat) (z0 : Nat → Int) (k0 : -9223372036854775808 ≤ x0 ∧ x0 ≤ 9223372036854775807) (l0 : -9223372036854775808 ≤ y0 ∧ y0 ≤ 9223372036854775807) (m0 : -9223372036854775808 ≤ v0 ∧ v0 ≤ 9223372036854775807) (o0 : 0 ≤ q0 ∧ q0 ≤ 4294967295) (u0 : 0 ≤ s0 ∧ s0 ≤ 4294967295) (r0 : Wd.RowN .u8 w a0 n0 c0 z0) (a1 : Option Addr) (n1 c1 : Nat) (z1 : Nat → Int) (r1 : Wd.RowN .u8 w a1 n1 c1 z1) :
    Calls Try.prog 5 #[.agg #[.int .i64 x0, .int .i64 y0, .int .i64 v0, .int .u32 q0, .int .u32 s0, .slice a0 n0 c0], .slice a1 n1 c1] w fun e w' => e = .returned (.bool true) ∧ Below w.heap.size w w' := by
  have := Wd.fback_walk w x0 y0 v0 q0 s0 z0 n0 c0 a0 z1 n1 c1 a1 ⟨o0.1, by omega⟩ ⟨u0.1, by omega⟩ r0 r1
  exact this
set_option maxRecDepth 100000 in
theorem lifted (os : Os) (started : os.Started) (H : Type) (enc : TypeId × Value → H) :
    ReturnsInHanded {} Try.checked os 5 .any (Rows.frameBackSpec.pre6 enc Try.prog Try.f5 Rows.frameBackRow.domain false) (Rows.frameBackSpec.post enc Try.prog Try.f5 false true false false) := by
  refine returnsInHanded_of_change (C := Try.checked) own started (by kernel_rfl) Try.func5
    (ChangeSpec.witness6 (enc := enc) (C := Try.checked) false ⟨#[], #[.agg #[.int .i64 0, .int .i64 0, .int .i64 0, .int .u32 0, .int .u32 0, .slice none 0 0], .slice none 0 0], []⟩ 8 (by kernel_rfl) (by kernel_rfl) (by kernel_rfl) (by kernel_rfl)) ?_
  intro W base args ds gs before hval0 hW hcnd _
  have hval : ∀ (j : Nat) t v, Try.f5.params[j]? = some t → args[j]? = some v → Value.okWide Try.prog W .any base t v := hval0
  have hW' := hW
  obtain ⟨p, q, hA0, hV, rfl, hfz, hnd⟩ := hW
  have hA : DataW.TrodAll enc Try.prog W 0 (fun _ => true) true Try.f5.params.toList args.toList ds p := hA0
  rw [Try.params5] at hA hval
  obtain ⟨v0, vs0, d0, ds0, p0, q0, hargs, rfl, rfl, h0, r0⟩ := trodAll_cons hA
  obtain ⟨v1, vs1, d1, ds1, p1, q1, rfl, rfl, rfl, h1, r1⟩ := trodAll_cons r0
  obtain ⟨rfl, rfl, rfl⟩ := trodAll_nil r1
  obtain rfl : args = #[v0, v1] := by cases args; simp_all
  obtain ⟨rfl, rfl⟩ := trodVars_none hV
  have kk0 := h0
  have lt0 : ∀ x ∈ p0, x.block < W.heap.size := by obtain ⟨m, hm⟩ := kk0; exact DataW.trod_lt m _ _ _ hm
  obtain ⟨x0, y0, w0, q0, s0, a0, n0, c0, z0, rfl, g0, l0, m0, o0, u0, rr0⟩ := Wd.open_frame Try.underlying26 (by kernel_rfl) (by kernel_rfl) Try.underlying3 Try.underlying3 Try.underlying3 Try.underlying23 Try.underlying23 Try.underlying24 Try.underlying5 (by kernel_rfl) (hval 0 26 v0 rfl rfl) h0
  obtain ⟨a1, len1, cap1, rfl⟩ := okWide_slice Try.underlying24 (hval 1 24 v1 rfl rfl)
  have k1 := h1
  have lt1 : ∀ x ∈ p1, x.block < W.heap.size := by obtain ⟨m, hm⟩ := k1; exact DataW.trod_lt m _ _ _ hm
  obtain ⟨z1, w1⟩ := Wd.open_rowN Try.underlying24 Try.underlying5 (by kernel_rfl) h1
  clear hA0 hval0
  refine (walk W x0 y0 w0 q0 s0 a0 n0 c0 z0 g0 l0 m0 o0 u0 rr0 a1 len1 cap1 z1 w1).mono fun e W' ⟨he, bel⟩ => ?_
  subst he
  exact ⟨_, rfl, _, _, _, [], _, [], hW', trodAll_mk1 (shut_bool Try.underlying4 _), (trodAll_cons_mk (Below.trod laidOut (by kernel_rfl) (of_decide_eq_true (by kernel_rfl)) kk0 bel lt0) (trodAll_cons_mk (Below.trod laidOut (by kernel_rfl) (of_decide_eq_true (by kernel_rfl)) k1 bel lt1) trodAll_mk0)), rfl, bel.frame _, fun h => by cases h⟩
theorem row_holds : Rows.FrameBackSaid :=
  OpenClaim.holds_of_wide 5 Try.f5 rfl rfl rfl rfl rfl rfl rfl ⟨rfl, rfl, rfl, rfl, rfl⟩ rfl rfl rfl rfl rfl (by kernel_rfl) Try.func5 (by kernel_rfl)
    (of_decide_eq_true (by kernel_rfl)) (by unfold Func.isWrapper; first | (rw [if_pos (by decide +kernel)]; kernel_rfl) | (rw [if_neg (by decide +kernel)]; exact ⟨rfl, rfl⟩))
    (fun os started H enc _ => lifted os started H enc)
end Go.Proofs.Ytdllobikpjejiaa.frameBack
namespace Go.Proofs.Ytdllobikpjejiaa
/-- The law. -/
theorem frameBack_card : Rows.FrameBackSaid := frameBack.row_holds
#print axioms frameBack_card
end Go.Proofs.Ytdllobikpjejiaa
