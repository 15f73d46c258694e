/- MsgSpoilt: whatever the input, the law MsgSpoilt returns true and leaves its arguments as they were. No conditions. -/
import Derived.Test.YthmpfdkbpdbhnaaRows
import Derived.Test.YthmpfdkbpdbhnaaMSpoi
import Derived.WalkKit
import Derived.ProofKit
import Derived.OpenShut
import Derived.Carry
import Derived.Below
import Derived.ChangeOld
import Derived.Test.YthmpfdkbpdbhnaaRow
import Derived.Test.YthmpfdkbpdbhnaaMsgO
namespace Go.Proofs.Ythmpfdkbpdbhnaa.msgSpoilt
open Go.ChangeShapes Go.WideShapes Go.ChangeAt Go.RowKit
set_option linter.unusedVariables false
set_option linter.unusedSimpArgs false
theorem own : ownKnob Try.prog.godebug = none := by kernel_rfl
theorem laidOut : laidOutB Try.prog = true := by kernel_rfl
theorem walk (w : World) (x0 y0 v0 q0 s0 : Int) (a0 : Option Addr) (n0 c0 : Nat) (z0 : Nat → Int) (bb0 : Option Addr) (mm0 ee0 : Nat) (ll0 : List Int) (k0 : -9223372036854775808 ≤ x0 ∧ x0 ≤ 9223372036854775807) (l0 : -9223372036854775808 ≤ y0 ∧ y0 ≤ 9223372036854775807) (m0 : -9223372036854775808 ≤ v0 ∧ v0 ≤ 9223372036854775807) (o0 : 0 ≤ q0 ∧ q0 ≤ 4294967295) (u0 : 0 ≤ s0 ∧ s0 ≤ 4294967295) (r0 : Wd.RowN .i64 w a0 n0 c0 z0) (tt0 : Wd.WdsN w bb0 mm0 ee0 ll0) (x1 : Int) (k1 : -9223372036854775808 ≤ x1 ∧ x1 ≤ 9223372036854775807) (x2 : Int) (k2 : 0 ≤ x2 ∧ x2 ≤ 255) :
    Calls Try.prog 6 #[.agg #[.int .i64 x0, .int .i64 y0, .int .i64 v0, .int .u32 q0, .int .u32 s0, .slice a0 n0 c0, .slice bb0 mm0 ee0], .int .i64 x1, .int .u8 x2] w fun e w' => e = .returned (.bool true) ∧ Below w.heap.size w w' := by
  have := Wd.mspoi_walk w x0 y0 v0 q0 s0 z0 n0 c0 a0 ll0 mm0 ee0 bb0 x1 x2 ⟨o0.1, by omega⟩ ⟨u0.1, by omega⟩ r0 tt0 k1 k2
  exact this
set_option maxRecDepth 100000 in
theorem lifted (os : Os) (started : os.Started) (H : Type) (enc : TypeId × Value → H) :
    ReturnsInHanded {} Try.checked os 6 .any (Rows.msgSpoiltSpec.pre6 enc Try.prog Try.f6 Rows.msgSpoiltRow.domain false) (Rows.msgSpoiltSpec.post enc Try.prog Try.f6 false true false false) := by
  refine returnsInHanded_of_change (C := Try.checked) own started (by kernel_rfl) Try.func6
    (ChangeSpec.witness6 (enc := enc) (C := Try.checked) false ⟨#[], #[.agg #[.int .i64 0, .int .i64 0, .int .i64 0, .int .u32 0, .int .u32 0, .slice none 0 0, .slice none 0 0], .int .i64 0, .int .u8 0], []⟩ 8 (by kernel_rfl) (by kernel_rfl) (by kernel_rfl) (by kernel_rfl)) ?_
  intro W base args ds gs before hval0 hW hcnd _
  have hval : ∀ (j : Nat) t v, Try.f6.params[j]? = some t → args[j]? = some v → Value.okWide Try.prog W .any base t v := hval0
  have hW' := hW
  obtain ⟨p, q, hA0, hV, rfl, hfz, hnd⟩ := hW
  have hA : DataW.TrodAll enc Try.prog W 0 (fun _ => true) true Try.f6.params.toList args.toList ds p := hA0
  rw [Try.params6] at hA hval
  obtain ⟨v0, vs0, d0, ds0, p0, q0, hargs, rfl, rfl, h0, r0⟩ := trodAll_cons hA
  obtain ⟨v1, vs1, d1, ds1, p1, q1, rfl, rfl, rfl, h1, r1⟩ := trodAll_cons r0
  obtain ⟨v2, vs2, d2, ds2, p2, q2, rfl, rfl, rfl, h2, r2⟩ := trodAll_cons r1
  obtain ⟨rfl, rfl, rfl⟩ := trodAll_nil r2
  obtain rfl : args = #[v0, v1, v2] := by cases args; simp_all
  obtain ⟨rfl, rfl⟩ := trodVars_none hV
  have kk0 := h0
  have lt0 : ∀ x ∈ p0, x.block < W.heap.size := by obtain ⟨m, hm⟩ := kk0; exact DataW.trod_lt m _ _ _ hm
  obtain ⟨x0, y0, w0, q0, s0, a0, n0, c0, z0, bb0, mm0, ee0, ll0, rfl, g0, l0, m0, o0, u0, rr0, tt0⟩ := Wd.open_msg Try.underlying27 (by kernel_rfl) (by kernel_rfl) Try.underlying3 Try.underlying3 Try.underlying3 Try.underlying23 Try.underlying23 Try.underlying24 Try.underlying2 (by kernel_rfl) Try.underlying25 Try.underlying47 (by kernel_rfl) rfl rfl (by kernel_rfl) (by kernel_rfl) Try.underlying2 Try.underlying45 (hval 0 27 v0 rfl rfl) h0
  obtain ⟨a1, rfl, rfl, rfl, w1⟩ := open_int Try.underlying3 (hval 1 3 v1 rfl rfl) h1
  obtain ⟨a2, rfl, rfl, rfl, w2⟩ := open_int Try.underlying5 (hval 2 5 v2 rfl rfl) h2
  clear hA0 hval0
  refine (walk W x0 y0 w0 q0 s0 a0 n0 c0 z0 bb0 mm0 ee0 ll0 g0 l0 m0 o0 u0 rr0 tt0 a1 (bounds_i64 w1) a2 (bounds_u8 w2)).mono fun e W' ⟨he, bel⟩ => ?_
  subst he
  exact ⟨_, rfl, _, _, _, [], _, [], hW', trodAll_mk1 (shut_bool Try.underlying4 _), (trodAll_cons_mk (Below.trod laidOut (by kernel_rfl) (of_decide_eq_true (by kernel_rfl)) kk0 bel lt0) (trodAll_cons_mk (shut_int Try.underlying3 w1) (trodAll_cons_mk (shut_int Try.underlying5 w2) trodAll_mk0))), rfl, bel.frame _, fun h => by cases h⟩
theorem row_holds : Rows.MsgSpoiltSaid :=
  OpenClaim.holds_of_wide 6 Try.f6 rfl rfl rfl rfl rfl rfl rfl ⟨rfl, rfl, rfl, rfl, rfl⟩ rfl rfl rfl rfl rfl (by kernel_rfl) Try.func6 (by kernel_rfl)
    (of_decide_eq_true (by kernel_rfl)) (by unfold Func.isWrapper; first | (rw [if_pos (by decide +kernel)]; kernel_rfl) | (rw [if_neg (by decide +kernel)]; exact ⟨rfl, rfl⟩))
    (fun os started H enc _ => lifted os started H enc)
end Go.Proofs.Ythmpfdkbpdbhnaa.msgSpoilt
namespace Go.Proofs.Ythmpfdkbpdbhnaa
/-- The law. -/
theorem msgSpoilt_card : Rows.MsgSpoiltSaid := msgSpoilt.row_holds
#print axioms msgSpoilt_card
end Go.Proofs.Ythmpfdkbpdbhnaa
