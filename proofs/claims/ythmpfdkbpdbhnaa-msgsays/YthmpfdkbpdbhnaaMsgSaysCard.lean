/- MsgSays: whatever the input, the law MsgSays returns true and leaves its arguments as they were. No conditions. -/
import Derived.Test.YthmpfdkbpdbhnaaRows
import Derived.Test.YthmpfdkbpdbhnaaMSays
import Derived.WalkKit
import Derived.ProofKit
import Derived.OpenShut
import Derived.Carry
import Derived.Below
import Derived.ChangeOld
import Derived.Test.YthmpfdkbpdbhnaaRow
import Derived.Test.YthmpfdkbpdbhnaaMsgO
namespace Go.Proofs.Ythmpfdkbpdbhnaa.msgSays
open Go.ChangeShapes Go.WideShapes Go.ChangeAt Go.RowKit
set_option linter.unusedVariables false
set_option linter.unusedSimpArgs false
theorem own : ownKnob Try.prog.godebug = none := by kernel_rfl
theorem laidOut : laidOutB Try.prog = true := by kernel_rfl
theorem walk (w : World) (a0 : Option Addr) (n0 c0 : Nat) (z0 : Nat → Int) (r0 : Wd.RowN .u8 w a0 n0 c0 z0) (x1 y1 v1 q1 s1 : Int) (a1 : Option Addr) (n1 c1 : Nat) (z1 : Nat → Int) (bb1 : Option Addr) (mm1 ee1 : Nat) (ll1 : List Int) (k1 : -9223372036854775808 ≤ x1 ∧ x1 ≤ 9223372036854775807) (l1 : -9223372036854775808 ≤ y1 ∧ y1 ≤ 9223372036854775807) (m1 : -9223372036854775808 ≤ v1 ∧ v1 ≤ 9223372036854775807) (o1 : 0 ≤ q1 ∧ q1 ≤ 4294967295) (u1 : 0 ≤ s1 ∧ s1 ≤ 4294967295) (r1 : Wd.RowN .i64 w a1 n1 c1 z1) (tt1 : Wd.WdsN w bb1 mm1 ee1 ll1) (x2 y2 v2 q2 s2 : Int) (a2 : Option Addr) (n2 c2 : Nat) (z2 : Nat → Int) (bb2 : Option Addr) (mm2 ee2 : Nat) (ll2 : List Int) (k2 : -9223372036854775808 ≤ x2 ∧ x2 ≤ 9223372036854775807) (l2 : -9223372036854775808 ≤ y2 ∧ y2 ≤ 9223372036854775807) (m2 : -9223372036854775808 ≤ v2 ∧ v2 ≤ 9223372036854775807) (o2 : 0 ≤ q2 ∧ q2 ≤ 4294967295) (u2 : 0 ≤ s2 ∧ s2 ≤ 4294967295) (r2 : Wd.RowN .i64 w a2 n2 c2 z2) (tt2 : Wd.WdsN w bb2 mm2 ee2 ll2) :
    Calls Try.prog 4 #[.slice a0 n0 c0, .agg #[.int .i64 x1, .int .i64 y1, .int .i64 v1, .int .u32 q1, .int .u32 s1, .slice a1 n1 c1, .slice bb1 mm1 ee1], .agg #[.int .i64 x2, .int .i64 y2, .int .i64 v2, .int .u32 q2, .int .u32 s2, .slice a2 n2 c2, .slice bb2 mm2 ee2]] w fun e w' => e = .returned (.bool true) ∧ Below w.heap.size w w' := by
  have := Wd.msays_walk w z0 n0 c0 a0 x1 y1 v1 q1 s1 z1 n1 c1 a1 ll1 mm1 ee1 bb1 x2 y2 v2 q2 s2 z2 n2 c2 a2 ll2 mm2 ee2 bb2 r0 ⟨o1.1, by omega⟩ ⟨u1.1, by omega⟩ r1 tt1 ⟨o2.1, by omega⟩ ⟨u2.1, by omega⟩ r2 tt2
  exact this
set_option maxRecDepth 100000 in
theorem lifted (os : Os) (started : os.Started) (H : Type) (enc : TypeId × Value → H) :
    ReturnsInHanded {} Try.checked os 4 .any (Rows.msgSaysSpec.pre6 enc Try.prog Try.f4 Rows.msgSaysRow.domain false) (Rows.msgSaysSpec.post enc Try.prog Try.f4 false true false false) := by
  refine returnsInHanded_of_change (C := Try.checked) own started (by kernel_rfl) Try.func4
    (ChangeSpec.witness6 (enc := enc) (C := Try.checked) false ⟨#[], #[.slice none 0 0, .agg #[.int .i64 0, .int .i64 0, .int .i64 0, .int .u32 0, .int .u32 0, .slice none 0 0, .slice none 0 0], .agg #[.int .i64 0, .int .i64 0, .int .i64 0, .int .u32 0, .int .u32 0, .slice none 0 0, .slice none 0 0]], []⟩ 8 (by kernel_rfl) (by kernel_rfl) (by kernel_rfl) (by kernel_rfl)) ?_
  intro W base args ds gs before hval0 hW hcnd _
  have hval : ∀ (j : Nat) t v, Try.f4.params[j]? = some t → args[j]? = some v → Value.okWide Try.prog W .any base t v := hval0
  have hW' := hW
  obtain ⟨p, q, hA0, hV, rfl, hfz, hnd⟩ := hW
  have hA : DataW.TrodAll enc Try.prog W 0 (fun _ => true) true Try.f4.params.toList args.toList ds p := hA0
  rw [Try.params4] at hA hval
  obtain ⟨v0, vs0, d0, ds0, p0, q0, hargs, rfl, rfl, h0, r0⟩ := trodAll_cons hA
  obtain ⟨v1, vs1, d1, ds1, p1, q1, rfl, rfl, rfl, h1, r1⟩ := trodAll_cons r0
  obtain ⟨v2, vs2, d2, ds2, p2, q2, rfl, rfl, rfl, h2, r2⟩ := trodAll_cons r1
  obtain ⟨rfl, rfl, rfl⟩ := trodAll_nil r2
  obtain rfl : args = #[v0, v1, v2] := by cases args; simp_all
  obtain ⟨rfl, rfl⟩ := trodVars_none hV
  obtain ⟨a0, len0, cap0, rfl⟩ := okWide_slice Try.underlying31 (hval 0 31 v0 rfl rfl)
  have k0 := h0
  have lt0 : ∀ x ∈ p0, x.block < W.heap.size := by obtain ⟨m, hm⟩ := k0; exact DataW.trod_lt m _ _ _ hm
  obtain ⟨z0, w0⟩ := Wd.open_rowN Try.underlying31 Try.underlying5 (by kernel_rfl) h0
  have kk1 := h1
  have lt1 : ∀ x ∈ p1, x.block < W.heap.size := by obtain ⟨m, hm⟩ := kk1; exact DataW.trod_lt m _ _ _ hm
  obtain ⟨x1, y1, w1, q1, s1, a1, n1, c1, z1, bb1, mm1, ee1, ll1, rfl, g1, l1, m1, o1, u1, rr1, tt1⟩ := Wd.open_msg Try.underlying27 (by kernel_rfl) (by kernel_rfl) Try.underlying3 Try.underlying3 Try.underlying3 Try.underlying23 Try.underlying23 Try.underlying24 Try.underlying2 (by kernel_rfl) Try.underlying25 Try.underlying47 (by kernel_rfl) rfl rfl (by kernel_rfl) (by kernel_rfl) Try.underlying2 Try.underlying45 (hval 1 27 v1 rfl rfl) h1
  have kk2 := h2
  have lt2 : ∀ x ∈ p2, x.block < W.heap.size := by obtain ⟨m, hm⟩ := kk2; exact DataW.trod_lt m _ _ _ hm
  obtain ⟨x2, y2, w2, q2, s2, a2, n2, c2, z2, bb2, mm2, ee2, ll2, rfl, g2, l2, m2, o2, u2, rr2, tt2⟩ := Wd.open_msg Try.underlying27 (by kernel_rfl) (by kernel_rfl) Try.underlying3 Try.underlying3 Try.underlying3 Try.underlying23 Try.underlying23 Try.underlying24 Try.underlying2 (by kernel_rfl) Try.underlying25 Try.underlying47 (by kernel_rfl) rfl rfl (by kernel_rfl) (by kernel_rfl) Try.underlying2 Try.underlying45 (hval 2 27 v2 rfl rfl) h2
  clear hA0 hval0
  refine (walk W a0 len0 cap0 z0 w0 x1 y1 w1 q1 s1 a1 n1 c1 z1 bb1 mm1 ee1 ll1 g1 l1 m1 o1 u1 rr1 tt1 x2 y2 w2 q2 s2 a2 n2 c2 z2 bb2 mm2 ee2 ll2 g2 l2 m2 o2 u2 rr2 tt2).mono fun e W' ⟨he, bel⟩ => ?_
  subst he
  exact ⟨_, rfl, _, _, _, [], _, [], hW', trodAll_mk1 (shut_bool Try.underlying4 _), (trodAll_cons_mk (Below.trod laidOut (by kernel_rfl) (of_decide_eq_true (by kernel_rfl)) k0 bel lt0) (trodAll_cons_mk (Below.trod laidOut (by kernel_rfl) (of_decide_eq_true (by kernel_rfl)) kk1 bel lt1) (trodAll_cons_mk (Below.trod laidOut (by kernel_rfl) (of_decide_eq_true (by kernel_rfl)) kk2 bel lt2) trodAll_mk0))), rfl, bel.frame _, fun h => by cases h⟩
theorem row_holds : Rows.MsgSaysSaid :=
  OpenClaim.holds_of_wide 4 Try.f4 rfl rfl rfl rfl rfl rfl rfl ⟨rfl, rfl, rfl, rfl, rfl⟩ rfl rfl rfl rfl rfl (by kernel_rfl) Try.func4 (by kernel_rfl)
    (of_decide_eq_true (by kernel_rfl)) (by unfold Func.isWrapper; first | (rw [if_pos (by decide +kernel)]; kernel_rfl) | (rw [if_neg (by decide +kernel)]; exact ⟨rfl, rfl⟩))
    (fun os started H enc _ => lifted os started H enc)
end Go.Proofs.Ythmpfdkbpdbhnaa.msgSays
namespace Go.Proofs.Ythmpfdkbpdbhnaa
/-- The law. -/
theorem msgSays_card : Rows.MsgSaysSaid := msgSays.row_holds
#print axioms msgSays_card
end Go.Proofs.Ythmpfdkbpdbhnaa
