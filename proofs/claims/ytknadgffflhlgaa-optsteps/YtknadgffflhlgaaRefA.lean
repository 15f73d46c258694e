/- What the reference's own small functions hand back: bits, sums, differences of numbers of four words. What the reference's functions on signed numbers of four words hand back. What the reference's signed numbers, its sum and its held answer are: as whole numbers. What the reference's sum of two signed numbers is. The reference's signed sum and its held answer, as whole numbers; its sums and differences of two Fix. -/
import Derived.Test.YtknadgffflhlgaaProg
import Derived.Test.YtknadgffflhlgaaMath
import Derived.WalkKit
import Derived.ProofKit
import Derived.WalkSpells
import Derived.BigQuiet
import Derived.Deep.QuietTactic
import Derived.WalkSmall
import Derived.Below
import Derived.Handy
import Derived.Test.YtknadgffflhlgaaFacts
import Derived.Deep.RegionWith
namespace Go.Proofs.Ytknadgffflhlgaa.Rf
open Go.RowKit Fx
set_option linter.unusedVariables false
set_option linter.unusedSimpArgs false
theorem setCell_drewN (w : World) (n : Nat) (a : Addr) (v : Value) : (w.drewN n).setCell a v = (w.setCell a v).drewN n := rfl
theorem alloc_drewN (w : World) (n : Nat) (o : Obj) : (w.drewN n).alloc o = (w.alloc o).drewN n := rfl
attribute [local go_sem] setCell_drewN alloc_drewN
def U (a : Int) : Prop := 0 ≤ a ∧ a < 18446744073709551616
def pk (a : Int) (r : Nat) : Int := a / 2 ^ r % 2
theorem ret_int {k : IntKind} {a b : Int} (h : a = b) : Ending.returned (.int k a) = .returned (.int k b) := by rw [h]
theorem div_rng (a : Int) (r : Nat) (h : 0 ≤ a ∧ a < 18446744073709551616) : 0 ≤ a / 2 ^ r ∧ a / 2 ^ r ≤ 18446744073709551615 := by
  have hp : (0 : Int) < 2 ^ r := Int.pow_pos (by decide)
  have := Int.ediv_nonneg h.1 (Int.le_of_lt hp)
  have := Int.ediv_le_self (2 ^ r : Int) h.1
  omega
theorem bit_at (j : Nat) (hj : j < 4) (a0 a1 a2 a3 i aj : Int) (r : Nat) (h0 : U a0) (h1 : U a1) (h2 : U a2) (h3 : U a3) (hr : r < 64) (hi : i = 64 * (j : Int) + (r : Int)) (ha : [a0, a1, a2, a3][j]? = some aj) (w : World) :
    Calls Try.prog 60 #[.agg #[.int .u64 a0, .int .u64 a1, .int .u64 a2, .int .u64 a3], .int .i64 i] w fun e w' => e = .returned (.int .u64 (pk aj r)) ∧ Below w.heap.size w w' := by
  have hr' : i % 64 = (r : Int) := by omega
  have hi0 : 0 ≤ i ∧ i < 256 := by omega
  unfold U at h0 h1 h2 h3
  have HI : Hid (i = 64 * (j : Int) + (r : Int)) := hi
  have hq : i / 64 = (j : Int) := by omega
  clear hi
  match j, hj with
  | 0, _ =>
    simp at ha hq
    subst ha
    go_enter Try.func60, Try.ntmps60
    go_wp2
    go_ret
    refine ⟨ret_int ?_, (Below.refl _ _).alloc (Nat.le_refl _) _⟩
    have hd0 := div_rng a0 r h0
    rw [and_one_u64 _ hd0.1 hd0.2]
    rfl
  | 1, _ =>
    simp at ha hq
    subst ha
    go_enter Try.func60, Try.ntmps60
    go_wp2
    go_ret
    refine ⟨ret_int ?_, (Below.refl _ _).alloc (Nat.le_refl _) _⟩
    have hd0 := div_rng a1 r h1
    rw [and_one_u64 _ hd0.1 hd0.2]
    rfl
  | 2, _ =>
    simp at ha hq
    subst ha
    go_enter Try.func60, Try.ntmps60
    go_wp2
    go_ret
    refine ⟨ret_int ?_, (Below.refl _ _).alloc (Nat.le_refl _) _⟩
    have hd0 := div_rng a2 r h2
    rw [and_one_u64 _ hd0.1 hd0.2]
    rfl
  | 3, _ =>
    simp at ha hq
    subst ha
    go_enter Try.func60, Try.ntmps60
    go_wp2
    go_ret
    refine ⟨ret_int ?_, (Below.refl _ _).alloc (Nat.le_refl _) _⟩
    have hd0 := div_rng a3 r h3
    rw [and_one_u64 _ hd0.1 hd0.2]
    rfl
def PS (k : Nat) (a0 a1 a2 a3 : Int) : Int :=
  if k = 0 then 0 else if k = 1 then a0 else if k = 2 then a0 + a1 * 18446744073709551616 else if k = 3 then a0 + a1 * 18446744073709551616 + a2 * 340282366920938463463374607431768211456
  else a0 + a1 * 18446744073709551616 + a2 * 340282366920938463463374607431768211456 + a3 * 6277101735386680763835789423207666416102355444464034512896
def BP (k : Nat) : Int :=
  if k = 0 then 1 else if k = 1 then 18446744073709551616 else if k = 2 then 340282366920938463463374607431768211456 else if k = 3 then 6277101735386680763835789423207666416102355444464034512896
  else 115792089237316195423570985008687907853269984665640564039457584007913129639936
def A4 (a0 a1 a2 a3 : Int) : Array Value := #[.int .u64 a0, .int .u64 a1, .int .u64 a2, .int .u64 a3]
theorem wr_U (n : Int) : U (IntKind.u64.wrap n) := by unfold U; rw [IntKind.wrap_u64]; omega
theorem c_yes (a b cr : Int) (ha : 0 ≤ a ∧ a < 18446744073709551616) (hb : 0 ≤ b ∧ b < 18446744073709551616) (h0 : 0 ≤ cr) (h1 : cr ≤ 1) (h : IntKind.u64.wrap (a + b) < a ∨ IntKind.u64.wrap (IntKind.u64.wrap (a + b) + cr) < IntKind.u64.wrap (a + b)) :
    IntKind.u64.wrap (IntKind.u64.wrap (a + b) + cr) + 1 * 18446744073709551616 = a + b + cr := by
  simp only [IntKind.wrap_u64] at *
  omega
theorem c_no (a b cr : Int) (ha : 0 ≤ a ∧ a < 18446744073709551616) (hb : 0 ≤ b ∧ b < 18446744073709551616) (h0 : 0 ≤ cr) (h1 : cr ≤ 1) (h : a ≤ IntKind.u64.wrap (a + b) ∧ IntKind.u64.wrap (a + b) ≤ IntKind.u64.wrap (IntKind.u64.wrap (a + b) + cr)) :
    IntKind.u64.wrap (IntKind.u64.wrap (a + b) + cr) + 0 * 18446744073709551616 = a + b + cr := by
  simp only [IntKind.wrap_u64] at *
  omega
theorem plus_step0 {a0 a1 a2 a3 b0 b1 b2 b3 c0 c1 c2 c3 cr t d : Int} (h : Hid (PS 0 c0 c1 c2 c3 + cr * BP 0 = PS 0 a0 a1 a2 a3 + PS 0 b0 b1 b2 b3)) (e : t + d * 18446744073709551616 = a0 + b0 + cr) :
    Hid (PS 1 t c1 c2 c3 + d * BP 1 = PS 1 a0 a1 a2 a3 + PS 1 b0 b1 b2 b3) := by
  have h' := h.out
  show PS 1 t c1 c2 c3 + d * BP 1 = PS 1 a0 a1 a2 a3 + PS 1 b0 b1 b2 b3
  simp [PS, BP] at h' ⊢
  omega
theorem plus_step1 {a0 a1 a2 a3 b0 b1 b2 b3 c0 c1 c2 c3 cr t d : Int} (h : Hid (PS 1 c0 c1 c2 c3 + cr * BP 1 = PS 1 a0 a1 a2 a3 + PS 1 b0 b1 b2 b3)) (e : t + d * 18446744073709551616 = a1 + b1 + cr) :
    Hid (PS 2 c0 t c2 c3 + d * BP 2 = PS 2 a0 a1 a2 a3 + PS 2 b0 b1 b2 b3) := by
  have h' := h.out
  show PS 2 c0 t c2 c3 + d * BP 2 = PS 2 a0 a1 a2 a3 + PS 2 b0 b1 b2 b3
  simp [PS, BP] at h' ⊢
  omega
theorem plus_step2 {a0 a1 a2 a3 b0 b1 b2 b3 c0 c1 c2 c3 cr t d : Int} (h : Hid (PS 2 c0 c1 c2 c3 + cr * BP 2 = PS 2 a0 a1 a2 a3 + PS 2 b0 b1 b2 b3)) (e : t + d * 18446744073709551616 = a2 + b2 + cr) :
    Hid (PS 3 c0 c1 t c3 + d * BP 3 = PS 3 a0 a1 a2 a3 + PS 3 b0 b1 b2 b3) := by
  have h' := h.out
  show PS 3 c0 c1 t c3 + d * BP 3 = PS 3 a0 a1 a2 a3 + PS 3 b0 b1 b2 b3
  simp [PS, BP] at h' ⊢
  omega
theorem plus_step3 {a0 a1 a2 a3 b0 b1 b2 b3 c0 c1 c2 c3 cr t d : Int} (h : Hid (PS 3 c0 c1 c2 c3 + cr * BP 3 = PS 3 a0 a1 a2 a3 + PS 3 b0 b1 b2 b3)) (e : t + d * 18446744073709551616 = a3 + b3 + cr) :
    Hid (PS 4 c0 c1 c2 t + d * BP 4 = PS 4 a0 a1 a2 a3 + PS 4 b0 b1 b2 b3) := by
  have h' := h.out
  show PS 4 c0 c1 c2 t + d * BP 4 = PS 4 a0 a1 a2 a3 + PS 4 b0 b1 b2 b3
  simp [PS, BP] at h' ⊢
  omega
set_option maxHeartbeats 2000000 in
theorem plus_low (a0 a1 a2 a3 b0 b1 b2 b3 : Int) (p0 : U a0) (p1 : U a1) (p2 : U a2) (p3 : U a3) (q0 : U b0) (q1 : U b1) (q2 : U b2) (q3 : U b3) (w : World) :
    Calls Try.prog 52 #[.agg #[.int .u64 a0, .int .u64 a1, .int .u64 a2, .int .u64 a3], .agg #[.int .u64 b0, .int .u64 b1, .int .u64 b2, .int .u64 b3]] w fun e w' =>
      ∃ c0 c1 c2 c3 cr : Int, e = .returned (.agg #[.int .u64 c0, .int .u64 c1, .int .u64 c2, .int .u64 c3]) ∧ U c0 ∧ U c1 ∧ U c2 ∧ U c3 ∧ Hid (0 ≤ cr ∧ cr ≤ 1 ∧ PS 4 c0 c1 c2 c3 + cr * BP 4 = PS 4 a0 a1 a2 a3 + PS 4 b0 b1 b2 b3) ∧ Below w.heap.size w w' := by
  unfold U at p0 p1 p2 p3 q0 q1 q2 q3
  go_enter Try.func52, Try.ntmps52
  go_wp2
  go_loopw [6, 7] (fun u v wr => ∃ (k n : Nat) (cr c0 c1 c2 c3 : Int), k ≤ 4 ∧ v = .int .i64 (k : Int) ∧ u = .int .u64 cr ∧ 0 ≤ cr ∧ cr ≤ 1 ∧ U c0 ∧ U c1 ∧ U c2 ∧ U c3 ∧ Hid (PS k c0 c1 c2 c3 + cr * BP k = PS k a0 a1 a2 a3 + PS k b0 b1 b2 b3) ∧
      wr = ((((w.alloc (.cells #[.int .u64 a0, .int .u64 a1, .int .u64 a2, .int .u64 a3] 58)).alloc (.cells #[.int .u64 b0, .int .u64 b1, .int .u64 b2, .int .u64 b3] 58)).alloc (.cells #[.int .u64 0, .int .u64 0, .int .u64 0, .int .u64 0] 58)).alloc (.cells #[.int .u64 c0, .int .u64 c1, .int .u64 c2, .int .u64 c3] 58)).drewN n) (fun _ v _ => 4 - (intOf v).toNat)
  case atStart => exact ⟨0, 0, 0, 0, 0, 0, 0, by omega, rfl, rfl, by omega, by omega, by unfold U; omega, by unfold U; omega, by unfold U; omega, by unfold U; omega, by show PS 0 0 0 0 0 + 0 * BP 0 = PS 0 a0 a1 a2 a3 + PS 0 b0 b1 b2 b3; simp [PS, BP], rfl⟩
  case round =>
    obtain ⟨k, n, cr, c0, c1, c2, c3, hk, rfl, rfl, hc0, hc1, u0, u1, u2, u3, hinv, rfl⟩ := hrel
    match k, hk with
    | 0, _ =>
      go_wp2_with fail
      go_quiet (fail)
      go_wp2
      all_goals
        go_roundw
        case rel =>
          first
          | exact ⟨1, _, 1, _, c1, c2, c3, by omega, rfl, rfl, by omega, by omega, (wr_U _), u1, u2, u3, plus_step0 hinv (c_yes _ _ _ p0 q0 hc0 hc1 ‹_›), rfl⟩
          | exact ⟨1, _, 1, _, c1, c2, c3, by omega, rfl, rfl, by omega, by omega, (wr_U _), u1, u2, u3, plus_step0 hinv (c_yes _ _ _ p0 q0 hc0 hc1 (Or.inl (by omega))), rfl⟩
          | exact ⟨1, _, 0, _, c1, c2, c3, by omega, rfl, rfl, by omega, by omega, (wr_U _), u1, u2, u3, plus_step0 hinv (c_no _ _ _ p0 q0 hc0 hc1 ‹_›), rfl⟩
        case measure => simp [intOf]
    | 1, _ =>
      go_wp2_with fail
      go_quiet (fail)
      go_wp2
      all_goals
        go_roundw
        case rel =>
          first
          | exact ⟨2, _, 1, c0, _, c2, c3, by omega, rfl, rfl, by omega, by omega, u0, (wr_U _), u2, u3, plus_step1 hinv (c_yes _ _ _ p1 q1 hc0 hc1 ‹_›), rfl⟩
          | exact ⟨2, _, 1, c0, _, c2, c3, by omega, rfl, rfl, by omega, by omega, u0, (wr_U _), u2, u3, plus_step1 hinv (c_yes _ _ _ p1 q1 hc0 hc1 (Or.inl (by omega))), rfl⟩
          | exact ⟨2, _, 0, c0, _, c2, c3, by omega, rfl, rfl, by omega, by omega, u0, (wr_U _), u2, u3, plus_step1 hinv (c_no _ _ _ p1 q1 hc0 hc1 ‹_›), rfl⟩
        case measure => simp [intOf]
    | 2, _ =>
      go_wp2_with fail
      go_quiet (fail)
      go_wp2
      all_goals
        go_roundw
        case rel =>
          first
          | exact ⟨3, _, 1, c0, c1, _, c3, by omega, rfl, rfl, by omega, by omega, u0, u1, (wr_U _), u3, plus_step2 hinv (c_yes _ _ _ p2 q2 hc0 hc1 ‹_›), rfl⟩
          | exact ⟨3, _, 1, c0, c1, _, c3, by omega, rfl, rfl, by omega, by omega, u0, u1, (wr_U _), u3, plus_step2 hinv (c_yes _ _ _ p2 q2 hc0 hc1 (Or.inl (by omega))), rfl⟩
          | exact ⟨3, _, 0, c0, c1, _, c3, by omega, rfl, rfl, by omega, by omega, u0, u1, (wr_U _), u3, plus_step2 hinv (c_no _ _ _ p2 q2 hc0 hc1 ‹_›), rfl⟩
        case measure => simp [intOf]
    | 3, _ =>
      go_wp2_with fail
      go_quiet (fail)
      go_wp2
      all_goals
        go_roundw
        case rel =>
          first
          | exact ⟨4, _, 1, c0, c1, c2, _, by omega, rfl, rfl, by omega, by omega, u0, u1, u2, (wr_U _), plus_step3 hinv (c_yes _ _ _ p3 q3 hc0 hc1 ‹_›), rfl⟩
          | exact ⟨4, _, 1, c0, c1, c2, _, by omega, rfl, rfl, by omega, by omega, u0, u1, u2, (wr_U _), plus_step3 hinv (c_yes _ _ _ p3 q3 hc0 hc1 (Or.inl (by omega))), rfl⟩
          | exact ⟨4, _, 0, c0, c1, c2, _, by omega, rfl, rfl, by omega, by omega, u0, u1, u2, (wr_U _), plus_step3 hinv (c_no _ _ _ p3 q3 hc0 hc1 ‹_›), rfl⟩
        case measure => simp [intOf]
    | 4, _ =>
      go_wp2
      exact bodyPost_ret (v := .agg #[.int .u64 c0, .int .u64 c1, .int .u64 c2, .int .u64 c3]) (by simp [results, Try.results52, go_sem]) rfl
        ⟨c0, c1, c2, c3, cr, rfl, u0, u1, u2, u3, ⟨hc0, hc1, hinv.out⟩, below_drewN (by go_grown) _⟩
theorem b_yes (a b cr : Int) (ha : 0 ≤ a ∧ a < 18446744073709551616) (hb : 0 ≤ b ∧ b < 18446744073709551616) (h0 : 0 ≤ cr) (h1 : cr ≤ 1) (h : a < b ∨ IntKind.u64.wrap (a - b) < cr) :
    IntKind.u64.wrap (IntKind.u64.wrap (a - b) - cr) - 1 * 18446744073709551616 = a - b - cr := by
  simp only [IntKind.wrap_u64] at *
  omega
theorem b_no (a b cr : Int) (ha : 0 ≤ a ∧ a < 18446744073709551616) (hb : 0 ≤ b ∧ b < 18446744073709551616) (h0 : 0 ≤ cr) (h1 : cr ≤ 1) (h : b ≤ a) (h' : cr ≤ IntKind.u64.wrap (a - b)) :
    IntKind.u64.wrap (IntKind.u64.wrap (a - b) - cr) - 0 * 18446744073709551616 = a - b - cr := by
  simp only [IntKind.wrap_u64] at *
  omega
theorem minus_step0 {a0 a1 a2 a3 b0 b1 b2 b3 c0 c1 c2 c3 cr t d : Int} (h : Hid (PS 0 c0 c1 c2 c3 - cr * BP 0 = PS 0 a0 a1 a2 a3 - PS 0 b0 b1 b2 b3)) (e : t - d * 18446744073709551616 = a0 - b0 - cr) :
    Hid (PS 1 t c1 c2 c3 - d * BP 1 = PS 1 a0 a1 a2 a3 - PS 1 b0 b1 b2 b3) := by
  have h' := h.out
  show PS 1 t c1 c2 c3 - d * BP 1 = PS 1 a0 a1 a2 a3 - PS 1 b0 b1 b2 b3
  simp [PS, BP] at h' ⊢
  omega
theorem minus_step1 {a0 a1 a2 a3 b0 b1 b2 b3 c0 c1 c2 c3 cr t d : Int} (h : Hid (PS 1 c0 c1 c2 c3 - cr * BP 1 = PS 1 a0 a1 a2 a3 - PS 1 b0 b1 b2 b3)) (e : t - d * 18446744073709551616 = a1 - b1 - cr) :
    Hid (PS 2 c0 t c2 c3 - d * BP 2 = PS 2 a0 a1 a2 a3 - PS 2 b0 b1 b2 b3) := by
  have h' := h.out
  show PS 2 c0 t c2 c3 - d * BP 2 = PS 2 a0 a1 a2 a3 - PS 2 b0 b1 b2 b3
  simp [PS, BP] at h' ⊢
  omega
theorem minus_step2 {a0 a1 a2 a3 b0 b1 b2 b3 c0 c1 c2 c3 cr t d : Int} (h : Hid (PS 2 c0 c1 c2 c3 - cr * BP 2 = PS 2 a0 a1 a2 a3 - PS 2 b0 b1 b2 b3)) (e : t - d * 18446744073709551616 = a2 - b2 - cr) :
    Hid (PS 3 c0 c1 t c3 - d * BP 3 = PS 3 a0 a1 a2 a3 - PS 3 b0 b1 b2 b3) := by
  have h' := h.out
  show PS 3 c0 c1 t c3 - d * BP 3 = PS 3 a0 a1 a2 a3 - PS 3 b0 b1 b2 b3
  simp [PS, BP] at h' ⊢
  omega
theorem minus_step3 {a0 a1 a2 a3 b0 b1 b2 b3 c0 c1 c2 c3 cr t d : Int} (h : Hid (PS 3 c0 c1 c2 c3 - cr * BP 3 = PS 3 a0 a1 a2 a3 - PS 3 b0 b1 b2 b3)) (e : t - d * 18446744073709551616 = a3 - b3 - cr) :
    Hid (PS 4 c0 c1 c2 t - d * BP 4 = PS 4 a0 a1 a2 a3 - PS 4 b0 b1 b2 b3) := by
  have h' := h.out
  show PS 4 c0 c1 c2 t - d * BP 4 = PS 4 a0 a1 a2 a3 - PS 4 b0 b1 b2 b3
  simp [PS, BP] at h' ⊢
  omega
set_option maxHeartbeats 2000000 in
theorem minus_low (a0 a1 a2 a3 b0 b1 b2 b3 : Int) (p0 : U a0) (p1 : U a1) (p2 : U a2) (p3 : U a3) (q0 : U b0) (q1 : U b1) (q2 : U b2) (q3 : U b3) (w : World) :
    Calls Try.prog 54 #[.agg #[.int .u64 a0, .int .u64 a1, .int .u64 a2, .int .u64 a3], .agg #[.int .u64 b0, .int .u64 b1, .int .u64 b2, .int .u64 b3]] w fun e w' =>
      ∃ c0 c1 c2 c3 cr : Int, e = .returned (.agg #[.int .u64 c0, .int .u64 c1, .int .u64 c2, .int .u64 c3]) ∧ U c0 ∧ U c1 ∧ U c2 ∧ U c3 ∧ Hid (0 ≤ cr ∧ cr ≤ 1 ∧ PS 4 c0 c1 c2 c3 - cr * BP 4 = PS 4 a0 a1 a2 a3 - PS 4 b0 b1 b2 b3) ∧ Below w.heap.size w w' := by
  unfold U at p0 p1 p2 p3 q0 q1 q2 q3
  go_enter Try.func54, Try.ntmps54
  go_wp2
  go_loopw [6, 7] (fun u v wr => ∃ (k n : Nat) (cr c0 c1 c2 c3 : Int), k ≤ 4 ∧ v = .int .i64 (k : Int) ∧ u = .int .u64 cr ∧ 0 ≤ cr ∧ cr ≤ 1 ∧ U c0 ∧ U c1 ∧ U c2 ∧ U c3 ∧ Hid (PS k c0 c1 c2 c3 - cr * BP k = PS k a0 a1 a2 a3 - PS k b0 b1 b2 b3) ∧
      wr = ((((w.alloc (.cells #[.int .u64 a0, .int .u64 a1, .int .u64 a2, .int .u64 a3] 58)).alloc (.cells #[.int .u64 b0, .int .u64 b1, .int .u64 b2, .int .u64 b3] 58)).alloc (.cells #[.int .u64 0, .int .u64 0, .int .u64 0, .int .u64 0] 58)).alloc (.cells #[.int .u64 c0, .int .u64 c1, .int .u64 c2, .int .u64 c3] 58)).drewN n) (fun _ v _ => 4 - (intOf v).toNat)
  case atStart => exact ⟨0, 0, 0, 0, 0, 0, 0, by omega, rfl, rfl, by omega, by omega, by unfold U; omega, by unfold U; omega, by unfold U; omega, by unfold U; omega, by show PS 0 0 0 0 0 - 0 * BP 0 = PS 0 a0 a1 a2 a3 - PS 0 b0 b1 b2 b3; simp [PS, BP], rfl⟩
  case round =>
    obtain ⟨k, n, cr, c0, c1, c2, c3, hk, rfl, rfl, hc0, hc1, u0, u1, u2, u3, hinv, rfl⟩ := hrel
    match k, hk with
    | 0, _ =>
      go_wp2_with fail
      go_quiet (fail)
      go_wp2_with fail
      by_cases hlt : a0 < b0
      · go_quiet (fail)
        go_wp2
        all_goals
          go_roundw
          case rel => exact ⟨1, _, 1, _, c1, c2, c3, by omega, rfl, rfl, by omega, by omega, (wr_U _), u1, u2, u3, minus_step0 hinv (b_yes _ _ _ p0 q0 hc0 hc1 (Or.inl (by omega))), rfl⟩
          case measure => simp [intOf]
      · have hlt' : decide (a0 < b0) = false := by simpa using hlt
        go_quiet (fail)
        go_wp2
        all_goals
          go_roundw
          case rel =>
            first
            | exact ⟨1, _, 1, _, c1, c2, c3, by omega, rfl, rfl, by omega, by omega, (by unfold U; (try simp only [IntKind.wrap_u64]); omega), u1, u2, u3, minus_step0 hinv (by (try simp only [IntKind.wrap_u64]); omega), rfl⟩
            | exact ⟨1, _, 0, _, c1, c2, c3, by omega, rfl, rfl, by omega, by omega, (by unfold U; (try simp only [IntKind.wrap_u64]); omega), u1, u2, u3, minus_step0 hinv (by (try simp only [IntKind.wrap_u64]); omega), rfl⟩
          case measure => simp [intOf]
    | 1, _ =>
      go_wp2_with fail
      go_quiet (fail)
      go_wp2_with fail
      by_cases hlt : a1 < b1
      · go_quiet (fail)
        go_wp2
        all_goals
          go_roundw
          case rel => exact ⟨2, _, 1, c0, _, c2, c3, by omega, rfl, rfl, by omega, by omega, u0, (wr_U _), u2, u3, minus_step1 hinv (b_yes _ _ _ p1 q1 hc0 hc1 (Or.inl (by omega))), rfl⟩
          case measure => simp [intOf]
      · have hlt' : decide (a1 < b1) = false := by simpa using hlt
        go_quiet (fail)
        go_wp2
        all_goals
          go_roundw
          case rel =>
            first
            | exact ⟨2, _, 1, c0, _, c2, c3, by omega, rfl, rfl, by omega, by omega, u0, (by unfold U; (try simp only [IntKind.wrap_u64]); omega), u2, u3, minus_step1 hinv (by (try simp only [IntKind.wrap_u64]); omega), rfl⟩
            | exact ⟨2, _, 0, c0, _, c2, c3, by omega, rfl, rfl, by omega, by omega, u0, (by unfold U; (try simp only [IntKind.wrap_u64]); omega), u2, u3, minus_step1 hinv (by (try simp only [IntKind.wrap_u64]); omega), rfl⟩
          case measure => simp [intOf]
    | 2, _ =>
      go_wp2_with fail
      go_quiet (fail)
      go_wp2_with fail
      by_cases hlt : a2 < b2
      · go_quiet (fail)
        go_wp2
        all_goals
          go_roundw
          case rel => exact ⟨3, _, 1, c0, c1, _, c3, by omega, rfl, rfl, by omega, by omega, u0, u1, (wr_U _), u3, minus_step2 hinv (b_yes _ _ _ p2 q2 hc0 hc1 (Or.inl (by omega))), rfl⟩
          case measure => simp [intOf]
      · have hlt' : decide (a2 < b2) = false := by simpa using hlt
        go_quiet (fail)
        go_wp2
        all_goals
          go_roundw
          case rel =>
            first
            | exact ⟨3, _, 1, c0, c1, _, c3, by omega, rfl, rfl, by omega, by omega, u0, u1, (by unfold U; (try simp only [IntKind.wrap_u64]); omega), u3, minus_step2 hinv (by (try simp only [IntKind.wrap_u64]); omega), rfl⟩
            | exact ⟨3, _, 0, c0, c1, _, c3, by omega, rfl, rfl, by omega, by omega, u0, u1, (by unfold U; (try simp only [IntKind.wrap_u64]); omega), u3, minus_step2 hinv (by (try simp only [IntKind.wrap_u64]); omega), rfl⟩
          case measure => simp [intOf]
    | 3, _ =>
      go_wp2_with fail
      go_quiet (fail)
      go_wp2_with fail
      by_cases hlt : a3 < b3
      · go_quiet (fail)
        go_wp2
        all_goals
          go_roundw
          case rel => exact ⟨4, _, 1, c0, c1, c2, _, by omega, rfl, rfl, by omega, by omega, u0, u1, u2, (wr_U _), minus_step3 hinv (b_yes _ _ _ p3 q3 hc0 hc1 (Or.inl (by omega))), rfl⟩
          case measure => simp [intOf]
      · have hlt' : decide (a3 < b3) = false := by simpa using hlt
        go_quiet (fail)
        go_wp2
        all_goals
          go_roundw
          case rel =>
            first
            | exact ⟨4, _, 1, c0, c1, c2, _, by omega, rfl, rfl, by omega, by omega, u0, u1, u2, (by unfold U; (try simp only [IntKind.wrap_u64]); omega), minus_step3 hinv (by (try simp only [IntKind.wrap_u64]); omega), rfl⟩
            | exact ⟨4, _, 0, c0, c1, c2, _, by omega, rfl, rfl, by omega, by omega, u0, u1, u2, (by unfold U; (try simp only [IntKind.wrap_u64]); omega), minus_step3 hinv (by (try simp only [IntKind.wrap_u64]); omega), rfl⟩
          case measure => simp [intOf]
    | 4, _ =>
      go_wp2
      exact bodyPost_ret (v := .agg #[.int .u64 c0, .int .u64 c1, .int .u64 c2, .int .u64 c3]) (by simp [results, Try.results54, go_sem]) rfl
        ⟨c0, c1, c2, c3, cr, rfl, u0, u1, u2, u3, ⟨hc0, hc1, hinv.out⟩, below_drewN (by go_grown) _⟩
end Go.Proofs.Ytknadgffflhlgaa.Rf
namespace Go.Proofs.Ytknadgffflhlgaa.Rf
open Go.RowKit Fx
set_option linter.unusedVariables false
set_option linter.unusedSimpArgs false
attribute [local go_sem] setCell_drewN alloc_drewN
theorem ret_bool {a b : Bool} (h : a = b) : Ending.returned (.bool a) = .returned (.bool b) := by rw [h]
def EQ (k : Nat) (a0 a1 a2 a3 b0 b1 b2 b3 : Int) : Prop :=
  if k = 4 then True else if k = 3 then a3 = b3 else if k = 2 then a3 = b3 ∧ a2 = b2 else if k = 1 then (a3 = b3 ∧ a2 = b2) ∧ a1 = b1 else ((a3 = b3 ∧ a2 = b2) ∧ a1 = b1) ∧ a0 = b0
theorem eq_step0 {a0 a1 a2 a3 b0 b1 b2 b3 : Int} (h : Hid (EQ 1 a0 a1 a2 a3 b0 b1 b2 b3)) (e : a0 = b0) : Hid (EQ 0 a0 a1 a2 a3 b0 b1 b2 b3) := by
  have h' := h.out
  simp [EQ] at h'
  show EQ 0 a0 a1 a2 a3 b0 b1 b2 b3
  simp [EQ]
  simp [h', e]
theorem eq_step1 {a0 a1 a2 a3 b0 b1 b2 b3 : Int} (h : Hid (EQ 2 a0 a1 a2 a3 b0 b1 b2 b3)) (e : a1 = b1) : Hid (EQ 1 a0 a1 a2 a3 b0 b1 b2 b3) := by
  have h' := h.out
  simp [EQ] at h'
  show EQ 1 a0 a1 a2 a3 b0 b1 b2 b3
  simp [EQ]
  simp [h', e]
theorem eq_step2 {a0 a1 a2 a3 b0 b1 b2 b3 : Int} (h : Hid (EQ 3 a0 a1 a2 a3 b0 b1 b2 b3)) (e : a2 = b2) : Hid (EQ 2 a0 a1 a2 a3 b0 b1 b2 b3) := by
  have h' := h.out
  simp [EQ] at h'
  show EQ 2 a0 a1 a2 a3 b0 b1 b2 b3
  simp [EQ]
  simp [h', e]
theorem eq_step3 {a0 a1 a2 a3 b0 b1 b2 b3 : Int} (h : Hid (EQ 4 a0 a1 a2 a3 b0 b1 b2 b3)) (e : a3 = b3) : Hid (EQ 3 a0 a1 a2 a3 b0 b1 b2 b3) := by
  have h' := h.out
  simp [EQ] at h'
  show EQ 3 a0 a1 a2 a3 b0 b1 b2 b3
  simp [EQ]
  simp [h', e]
theorem less_end0 {a0 a1 a2 a3 b0 b1 b2 b3 : Int} (h : Hid (EQ 1 a0 a1 a2 a3 b0 b1 b2 b3)) (p0 : 0 ≤ a0 ∧ a0 < 18446744073709551616) (p1 : 0 ≤ a1 ∧ a1 < 18446744073709551616) (p2 : 0 ≤ a2 ∧ a2 < 18446744073709551616) (p3 : 0 ≤ a3 ∧ a3 < 18446744073709551616)
    (q0 : 0 ≤ b0 ∧ b0 < 18446744073709551616) (q1 : 0 ≤ b1 ∧ b1 < 18446744073709551616) (q2 : 0 ≤ b2 ∧ b2 < 18446744073709551616) (q3 : 0 ≤ b3 ∧ b3 < 18446744073709551616) (hn : ¬ a0 = b0) : decide (a0 < b0) = decide (PS 4 a0 a1 a2 a3 < PS 4 b0 b1 b2 b3) := by
  have h' := h.out
  simp [EQ] at h'
  rw [decide_eq_decide]
  simp [PS]
  omega
theorem less_end1 {a0 a1 a2 a3 b0 b1 b2 b3 : Int} (h : Hid (EQ 2 a0 a1 a2 a3 b0 b1 b2 b3)) (p0 : 0 ≤ a0 ∧ a0 < 18446744073709551616) (p1 : 0 ≤ a1 ∧ a1 < 18446744073709551616) (p2 : 0 ≤ a2 ∧ a2 < 18446744073709551616) (p3 : 0 ≤ a3 ∧ a3 < 18446744073709551616)
    (q0 : 0 ≤ b0 ∧ b0 < 18446744073709551616) (q1 : 0 ≤ b1 ∧ b1 < 18446744073709551616) (q2 : 0 ≤ b2 ∧ b2 < 18446744073709551616) (q3 : 0 ≤ b3 ∧ b3 < 18446744073709551616) (hn : ¬ a1 = b1) : decide (a1 < b1) = decide (PS 4 a0 a1 a2 a3 < PS 4 b0 b1 b2 b3) := by
  have h' := h.out
  simp [EQ] at h'
  rw [decide_eq_decide]
  simp [PS]
  omega
theorem less_end2 {a0 a1 a2 a3 b0 b1 b2 b3 : Int} (h : Hid (EQ 3 a0 a1 a2 a3 b0 b1 b2 b3)) (p0 : 0 ≤ a0 ∧ a0 < 18446744073709551616) (p1 : 0 ≤ a1 ∧ a1 < 18446744073709551616) (p2 : 0 ≤ a2 ∧ a2 < 18446744073709551616) (p3 : 0 ≤ a3 ∧ a3 < 18446744073709551616)
    (q0 : 0 ≤ b0 ∧ b0 < 18446744073709551616) (q1 : 0 ≤ b1 ∧ b1 < 18446744073709551616) (q2 : 0 ≤ b2 ∧ b2 < 18446744073709551616) (q3 : 0 ≤ b3 ∧ b3 < 18446744073709551616) (hn : ¬ a2 = b2) : decide (a2 < b2) = decide (PS 4 a0 a1 a2 a3 < PS 4 b0 b1 b2 b3) := by
  have h' := h.out
  simp [EQ] at h'
  rw [decide_eq_decide]
  simp [PS]
  omega
theorem less_end3 {a0 a1 a2 a3 b0 b1 b2 b3 : Int} (h : Hid (EQ 4 a0 a1 a2 a3 b0 b1 b2 b3)) (p0 : 0 ≤ a0 ∧ a0 < 18446744073709551616) (p1 : 0 ≤ a1 ∧ a1 < 18446744073709551616) (p2 : 0 ≤ a2 ∧ a2 < 18446744073709551616) (p3 : 0 ≤ a3 ∧ a3 < 18446744073709551616)
    (q0 : 0 ≤ b0 ∧ b0 < 18446744073709551616) (q1 : 0 ≤ b1 ∧ b1 < 18446744073709551616) (q2 : 0 ≤ b2 ∧ b2 < 18446744073709551616) (q3 : 0 ≤ b3 ∧ b3 < 18446744073709551616) (hn : ¬ a3 = b3) : decide (a3 < b3) = decide (PS 4 a0 a1 a2 a3 < PS 4 b0 b1 b2 b3) := by
  have h' := h.out
  simp [EQ] at h'
  rw [decide_eq_decide]
  simp [PS]
  omega
set_option maxHeartbeats 2000000 in
theorem less_low (a0 a1 a2 a3 b0 b1 b2 b3 : Int) (p0 : U a0) (p1 : U a1) (p2 : U a2) (p3 : U a3) (q0 : U b0) (q1 : U b1) (q2 : U b2) (q3 : U b3) (w : World) :
    Calls Try.prog 53 #[.agg #[.int .u64 a0, .int .u64 a1, .int .u64 a2, .int .u64 a3], .agg #[.int .u64 b0, .int .u64 b1, .int .u64 b2, .int .u64 b3]] w fun e w' =>
      e = .returned (.bool (decide (PS 4 a0 a1 a2 a3 < PS 4 b0 b1 b2 b3))) ∧ Below w.heap.size w w' := by
  unfold U at p0 p1 p2 p3 q0 q1 q2 q3
  generalize hL : decide (PS 4 a0 a1 a2 a3 < PS 4 b0 b1 b2 b3) = lt
  have HL : Hid (decide (PS 4 a0 a1 a2 a3 < PS 4 b0 b1 b2 b3) = lt) := hL
  clear hL
  go_enter Try.func53, Try.ntmps53
  go_wp2
  go_loopw [5] (fun v wr => ∃ (k n : Nat), k ≤ 4 ∧ v = .int .i64 ((k : Int) - 1) ∧ Hid (EQ k a0 a1 a2 a3 b0 b1 b2 b3) ∧
      wr = ((w.alloc (.cells #[.int .u64 a0, .int .u64 a1, .int .u64 a2, .int .u64 a3] 58)).alloc (.cells #[.int .u64 b0, .int .u64 b1, .int .u64 b2, .int .u64 b3] 58)).drewN n) (fun v _ => (intOf v + 1).toNat)
  case atStart => exact ⟨4, 0, by omega, rfl, by show EQ 4 a0 a1 a2 a3 b0 b1 b2 b3; simp [EQ], rfl⟩
  case round =>
    obtain ⟨k, n, hk, rfl, hinv, rfl⟩ := hrel
    match k, hk with
    | 4, _ =>
      by_cases hne : a3 = b3
      · have hne' : (a3 != b3) = false := by simpa using hne
        have HN : Hid (a3 = b3) := hne
        clear hne
        go_wp2_with fail
        go_quiet (fail)
        go_wp2
        go_roundw
        case rel => exact ⟨3, _, by omega, rfl, eq_step3 hinv HN.out, rfl⟩
        case measure => simp [intOf]
      · have hne' : (a3 != b3) = true := by simpa using hne
        clear hne
        go_wp2_with fail
        go_quiet (fail)
        go_wp2_with fail
        go_quiet (fail)
        go_wp2
        go_ret
        exact ⟨ret_bool ((less_end3 hinv p0 p1 p2 p3 q0 q1 q2 q3 (by simpa using hne')).trans HL.out), (by (repeat (with_reducible refine below_drewN ?_ _)); go_grown)⟩
    | 3, _ =>
      by_cases hne : a2 = b2
      · have hne' : (a2 != b2) = false := by simpa using hne
        have HN : Hid (a2 = b2) := hne
        clear hne
        go_wp2_with fail
        go_quiet (fail)
        go_wp2
        go_roundw
        case rel => exact ⟨2, _, by omega, rfl, eq_step2 hinv HN.out, rfl⟩
        case measure => simp [intOf]
      · have hne' : (a2 != b2) = true := by simpa using hne
        clear hne
        go_wp2_with fail
        go_quiet (fail)
        go_wp2_with fail
        go_quiet (fail)
        go_wp2
        go_ret
        exact ⟨ret_bool ((less_end2 hinv p0 p1 p2 p3 q0 q1 q2 q3 (by simpa using hne')).trans HL.out), (by (repeat (with_reducible refine below_drewN ?_ _)); go_grown)⟩
    | 2, _ =>
      by_cases hne : a1 = b1
      · have hne' : (a1 != b1) = false := by simpa using hne
        have HN : Hid (a1 = b1) := hne
        clear hne
        go_wp2_with fail
        go_quiet (fail)
        go_wp2
        go_roundw
        case rel => exact ⟨1, _, by omega, rfl, eq_step1 hinv HN.out, rfl⟩
        case measure => simp [intOf]
      · have hne' : (a1 != b1) = true := by simpa using hne
        clear hne
        go_wp2_with fail
        go_quiet (fail)
        go_wp2_with fail
        go_quiet (fail)
        go_wp2
        go_ret
        exact ⟨ret_bool ((less_end1 hinv p0 p1 p2 p3 q0 q1 q2 q3 (by simpa using hne')).trans HL.out), (by (repeat (with_reducible refine below_drewN ?_ _)); go_grown)⟩
    | 1, _ =>
      by_cases hne : a0 = b0
      · have hne' : (a0 != b0) = false := by simpa using hne
        have HN : Hid (a0 = b0) := hne
        clear hne
        go_wp2_with fail
        go_quiet (fail)
        go_wp2
        go_roundw
        case rel => exact ⟨0, _, by omega, rfl, eq_step0 hinv HN.out, rfl⟩
        case measure => simp [intOf]
      · have hne' : (a0 != b0) = true := by simpa using hne
        clear hne
        go_wp2_with fail
        go_quiet (fail)
        go_wp2_with fail
        go_quiet (fail)
        go_wp2
        go_ret
        exact ⟨ret_bool ((less_end0 hinv p0 p1 p2 p3 q0 q1 q2 q3 (by simpa using hne')).trans HL.out), (by (repeat (with_reducible refine below_drewN ?_ _)); go_grown)⟩
    | 0, _ =>
      go_wp2
      go_ret
      refine ⟨ret_bool ?_, (by (repeat (with_reducible refine below_drewN ?_ _)); go_grown)⟩
      have h' := hinv.out
      simp [EQ] at h'
      rw [← HL.out]
      obtain ⟨⟨⟨h3, h2⟩, h1⟩, h0⟩ := h'
      rw [h3, h2, h1, h0]
      simp
end Go.Proofs.Ytknadgffflhlgaa.Rf
namespace Go.Proofs.Ytknadgffflhlgaa.Rf
open Go.RowKit Fx
set_option linter.unusedVariables false
set_option linter.unusedSimpArgs false
attribute [local go_sem] setCell_drewN alloc_drewN
/-- Four words that stand for a number; a sign and four words. -/
def IsA (v : Value) (x : Int) : Prop := ∃ a0 a1 a2 a3 : Int, v = .agg #[.int .u64 a0, .int .u64 a1, .int .u64 a2, .int .u64 a3] ∧ U a0 ∧ U a1 ∧ U a2 ∧ U a3 ∧ PS 4 a0 a1 a2 a3 = x
def IsN (v : Value) (s : Bool) (x : Int) : Prop := ∃ a0 a1 a2 a3 : Int, v = .agg #[.bool s, .int .u64 a0, .int .u64 a1, .int .u64 a2, .int .u64 a3] ∧ U a0 ∧ U a1 ∧ U a2 ∧ U a3 ∧ PS 4 a0 a1 a2 a3 = x
theorem PS4 (a0 a1 a2 a3 : Int) : PS 4 a0 a1 a2 a3 = a0 + a1 * 18446744073709551616 + a2 * 340282366920938463463374607431768211456 + a3 * 6277101735386680763835789423207666416102355444464034512896 := by simp [PS]
theorem BP4 : BP 4 = 115792089237316195423570985008687907853269984665640564039457584007913129639936 := by simp [BP]
theorem IsA.rng {v : Value} {x : Int} (h : IsA v x) : 0 ≤ x ∧ x < 115792089237316195423570985008687907853269984665640564039457584007913129639936 := by
  obtain ⟨a0, a1, a2, a3, _, h0, h1, h2, h3, rfl⟩ := h
  unfold U at *
  rw [PS4]
  omega
theorem IsN.rng {v : Value} {s : Bool} {x : Int} (h : IsN v s x) : 0 ≤ x ∧ x < 115792089237316195423570985008687907853269984665640564039457584007913129639936 := by
  obtain ⟨a0, a1, a2, a3, _, h0, h1, h2, h3, rfl⟩ := h
  unfold U at *
  rw [PS4]
  omega
theorem size_ref (a x : Int) (ha : InR a) (hx : (a.natAbs : Int) = x) (w : World) :
    Calls Try.prog 55 #[.int .i64 a] w fun e w' => e = .returned (.int .u64 x) ∧ w' = w := by
  unfold InR at ha
  have H : Hid ((a.natAbs : Int) = x) := hx
  clear hx
  by_cases h : a < 0
  all_goals
    go_enter Try.func55, Try.ntmps55
    go_wp2
    go_ret
    refine ⟨ret_int ?_, rfl⟩
    have hn := H.out
    try simp only [IntKind.wrap_u64, wrap64]
    omega
theorem from_any (n : Int) (hn : InR n) (w : World) :
    Calls Try.prog 31 #[.int .i64 n] w fun e w' => ∃ v, e = .returned v ∧ IsN v (decide (n < 0)) (n.natAbs : Int) ∧ Below w.heap.size w w' := by
  obtain ⟨x, ex⟩ : ∃ x : Int, (n.natAbs : Int) = x := ⟨_, rfl⟩
  have E : Hid ((n.natAbs : Int) = x) := ex
  rw [ex]
  have hx : 0 ≤ x ∧ x ≤ 9223372036854775808 := by unfold InR at hn; omega
  clear ex
  go_enter Try.func31, Try.ntmps31
  go_wp2_with fail
  refine (size_ref n x hn E.out _).mono ?_
  rintro e w' ⟨rfl, rfl⟩
  go_wp2
  exact bodyPost_ret (v := .agg #[.bool (decide (n < 0)), .int .u64 x, .int .u64 0, .int .u64 0, .int .u64 0]) (by simp [results, Try.results31, go_sem]) rfl
    ⟨_, rfl, ⟨x, 0, 0, 0, rfl, by unfold U; omega, by unfold U; omega, by unfold U; omega, by unfold U; omega, by rw [PS4]; omega⟩, by go_grown⟩
theorem turned_any (v : Value) (s : Bool) (x : Int) (hv : IsN v s x) (w : World) :
    Calls Try.prog 32 #[v] w fun e w' => ∃ u, e = .returned u ∧ IsN u (!s) x ∧ Below w.heap.size w w' := by
  obtain ⟨a0, a1, a2, a3, rfl, h0, h1, h2, h3, hx⟩ := hv
  have H : Hid (PS 4 a0 a1 a2 a3 = x) := hx
  clear hx
  go_enter Try.func32, Try.ntmps32
  go_wp2
  exact bodyPost_ret (v := .agg #[.bool (!s), .int .u64 a0, .int .u64 a1, .int .u64 a2, .int .u64 a3]) (by simp [results, Try.results32, go_sem]) rfl
    ⟨_, rfl, ⟨a0, a1, a2, a3, rfl, h0, h1, h2, h3, H.out⟩, by go_grown⟩
end Go.Proofs.Ytknadgffflhlgaa.Rf
namespace Go.Proofs.Ytknadgffflhlgaa.Rf
open Go.RowKit Fx
set_option linter.unusedVariables false
set_option linter.unusedSimpArgs false
attribute [local go_sem] setCell_drewN alloc_drewN
theorem bcell {B : Nat} {W w1 : World} (hb : Below B W w1) : (∀ b o, b < B → w1.cell? ⟨b, o, none⟩ = W.cell? ⟨b, o, none⟩) ∧ (∀ b o, b < B → w1.frozen? ⟨b, o, none⟩ = W.frozen? ⟨b, o, none⟩) :=
  ⟨fun b o h => hb.cell (p := ⟨b, o, none⟩) h, fun b o h => hb.frozen (p := ⟨b, o, none⟩) h⟩
theorem set_same {W : World} {p : Addr} {x v : Value} (h : W.cell? p = some v) : (W.setCell p x).cell? p = some x := World.cell?_setCell_same _ _ _ h
theorem set_off {W : World} {b i j : Nat} {x : Value} (hij : j ≠ i) : (W.setCell ⟨b, i, none⟩ x).cell? ⟨b, j, none⟩ = W.cell? ⟨b, j, none⟩ := World.cell?_setCell_other _ _ _ _ (by simp; try omega)
theorem five (W : World) (b : Nat) (x0 x1 x2 x3 x4 : Value) {y0 y1 y2 y3 y4 : Value} (h0 : W.cell? ⟨b, 0, none⟩ = some y0) (h1 : W.cell? ⟨b, 1, none⟩ = some y1) (h2 : W.cell? ⟨b, 2, none⟩ = some y2) (h3 : W.cell? ⟨b, 3, none⟩ = some y3) (h4 : W.cell? ⟨b, 4, none⟩ = some y4) :
    (((((W.setCell ⟨b, 0, none⟩ x0).setCell ⟨b, 1, none⟩ x1).setCell ⟨b, 2, none⟩ x2).setCell ⟨b, 3, none⟩ x3).setCell ⟨b, 4, none⟩ x4).cell? ⟨b, 0, none⟩ = some x0 ∧
    (((((W.setCell ⟨b, 0, none⟩ x0).setCell ⟨b, 1, none⟩ x1).setCell ⟨b, 2, none⟩ x2).setCell ⟨b, 3, none⟩ x3).setCell ⟨b, 4, none⟩ x4).cell? ⟨b, 1, none⟩ = some x1 ∧
    (((((W.setCell ⟨b, 0, none⟩ x0).setCell ⟨b, 1, none⟩ x1).setCell ⟨b, 2, none⟩ x2).setCell ⟨b, 3, none⟩ x3).setCell ⟨b, 4, none⟩ x4).cell? ⟨b, 2, none⟩ = some x2 ∧
    (((((W.setCell ⟨b, 0, none⟩ x0).setCell ⟨b, 1, none⟩ x1).setCell ⟨b, 2, none⟩ x2).setCell ⟨b, 3, none⟩ x3).setCell ⟨b, 4, none⟩ x4).cell? ⟨b, 3, none⟩ = some x3 ∧
    (((((W.setCell ⟨b, 0, none⟩ x0).setCell ⟨b, 1, none⟩ x1).setCell ⟨b, 2, none⟩ x2).setCell ⟨b, 3, none⟩ x3).setCell ⟨b, 4, none⟩ x4).cell? ⟨b, 4, none⟩ = some x4 := by
  refine ⟨?_, ?_, ?_, ?_, ?_⟩
  · rw [set_off (by omega), set_off (by omega), set_off (by omega), set_off (by omega)]; exact set_same h0
  · rw [set_off (by omega), set_off (by omega), set_off (by omega)]; exact set_same (by rw [set_off (by omega)]; exact h1)
  · rw [set_off (by omega), set_off (by omega)]; exact set_same (by rw [set_off (by omega), set_off (by omega)]; exact h2)
  · rw [set_off (by omega)]; exact set_same (by rw [set_off (by omega), set_off (by omega), set_off (by omega)]; exact h3)
  · exact set_same (by rw [set_off (by omega), set_off (by omega), set_off (by omega), set_off (by omega)]; exact h4)
set_option maxHeartbeats 4000000 in
theorem Plus_same (s : Bool) (a0 a1 a2 a3 b0 b1 b2 b3 : Int) (p0 : U a0) (p1 : U a1) (p2 : U a2) (p3 : U a3) (q0 : U b0) (q1 : U b1) (q2 : U b2) (q3 : U b3) (w : World) :
    Calls Try.prog 30 #[.agg #[.bool s, .int .u64 a0, .int .u64 a1, .int .u64 a2, .int .u64 a3], .agg #[.bool s, .int .u64 b0, .int .u64 b1, .int .u64 b2, .int .u64 b3]] w fun e w' =>
      ∃ c0 c1 c2 c3 cr : Int, e = .returned (.agg #[.bool s, .int .u64 c0, .int .u64 c1, .int .u64 c2, .int .u64 c3]) ∧ U c0 ∧ U c1 ∧ U c2 ∧ U c3 ∧ Hid (0 ≤ cr ∧ cr ≤ 1 ∧ PS 4 c0 c1 c2 c3 + cr * BP 4 = PS 4 a0 a1 a2 a3 + PS 4 b0 b1 b2 b3) ∧ Below w.heap.size w w' := by
  go_enter Try.func30, Try.ntmps30
  go_wp2_with fail
  go_region_with (go_at_call 52; refine (plus_low a0 a1 a2 a3 b0 b1 b2 b3 p0 p1 p2 p3 q0 q1 q2 q3 _).mono ?_; rintro e w1 ⟨c0, c1, c2, c3, cr, rfl, u0, u1, u2, u3, hinv, hb⟩; obtain ⟨hcell, hfroz⟩ := bcell hb; have hB : Below w.heap.size w w1 := Below.trans (by go_grown) (hb.mono (by simp; try omega)); have hsz := hb.size; simp at hsz)
  all_goals
    go_wp2
    obtain ⟨f0, f1, f2, f3, f4⟩ := five w1 (w.heap.size + 1 + 1) (.bool s) (.int .u64 c0) (.int .u64 c1) (.int .u64 c2) (.int .u64 c3) (by rw [hcell _ _ (by simp)]; simp [go_sem]; rfl) (by rw [hcell _ _ (by simp)]; simp [go_sem]; rfl) (by rw [hcell _ _ (by simp)]; simp [go_sem]; rfl) (by rw [hcell _ _ (by simp)]; simp [go_sem]; rfl) (by rw [hcell _ _ (by simp)]; simp [go_sem]; rfl)
    refine bodyPost_ret (v := .agg #[.bool s, .int .u64 c0, .int .u64 c1, .int .u64 c2, .int .u64 c3]) (by simp [results, Try.results30, go_sem, f0, f1, f2, f3, f4]) rfl ⟨c0, c1, c2, c3, cr, rfl, u0, u1, u2, u3, hinv, ?_⟩
    go_grown
set_option maxHeartbeats 4000000 in
theorem Plus_lt (s t : Bool) (hst : (s == t) = false) (a0 a1 a2 a3 b0 b1 b2 b3 : Int) (p0 : U a0) (p1 : U a1) (p2 : U a2) (p3 : U a3) (q0 : U b0) (q1 : U b1) (q2 : U b2) (q3 : U b3) (hlt : Hid (decide (PS 4 a0 a1 a2 a3 < PS 4 b0 b1 b2 b3) = true)) (w : World) :
    Calls Try.prog 30 #[.agg #[.bool s, .int .u64 a0, .int .u64 a1, .int .u64 a2, .int .u64 a3], .agg #[.bool t, .int .u64 b0, .int .u64 b1, .int .u64 b2, .int .u64 b3]] w fun e w' =>
      ∃ c0 c1 c2 c3 cr : Int, e = .returned (.agg #[.bool t, .int .u64 c0, .int .u64 c1, .int .u64 c2, .int .u64 c3]) ∧ U c0 ∧ U c1 ∧ U c2 ∧ U c3 ∧ Hid (0 ≤ cr ∧ cr ≤ 1 ∧ PS 4 c0 c1 c2 c3 - cr * BP 4 = PS 4 b0 b1 b2 b3 - PS 4 a0 a1 a2 a3) ∧ Below w.heap.size w w' := by
  go_enter Try.func30, Try.ntmps30
  go_wp2_with fail
  refine (less_low a0 a1 a2 a3 b0 b1 b2 b3 p0 p1 p2 p3 q0 q1 q2 q3 _).mono ?_
  rw [hlt.out]
  rintro e w0 ⟨rfl, hb0⟩
  obtain ⟨hcell0, hfroz0⟩ := bcell hb0
  have hB0 : Below w.heap.size w w0 := Below.trans (by go_grown) (hb0.mono (by simp; try omega))
  have hsz0 := hb0.size
  simp at hsz0
  go_wp2_with fail
  go_region_with (go_at_call 54; refine (minus_low b0 b1 b2 b3 a0 a1 a2 a3 q0 q1 q2 q3 p0 p1 p2 p3 _).mono ?_; rintro e w1 ⟨c0, c1, c2, c3, cr, rfl, u0, u1, u2, u3, hinv, hb⟩; have hb3 := Below.trans (c := w1) hb0.drew (hb.mono (by simp; omega)); obtain ⟨hcell, hfroz⟩ := bcell hb3; clear hcell0 hfroz0; simp only [World.size_alloc] at hcell hfroz; have hB : Below w.heap.size w w1 := Below.trans (by go_grown) (hb.mono (by simp; try omega)); have hsz := hb.size; simp at hsz)
  all_goals
    go_wp2
    obtain ⟨f0, f1, f2, f3, f4⟩ := five w1 (w.heap.size + 1 + 1) (.bool t) (.int .u64 c0) (.int .u64 c1) (.int .u64 c2) (.int .u64 c3) (by rw [hcell _ _ (by simp)]; simp [go_sem]; rfl) (by rw [hcell _ _ (by simp)]; simp [go_sem]; rfl) (by rw [hcell _ _ (by simp)]; simp [go_sem]; rfl) (by rw [hcell _ _ (by simp)]; simp [go_sem]; rfl) (by rw [hcell _ _ (by simp)]; simp [go_sem]; rfl)
    refine bodyPost_ret (v := .agg #[.bool t, .int .u64 c0, .int .u64 c1, .int .u64 c2, .int .u64 c3]) (by simp [results, Try.results30, go_sem, f0, f1, f2, f3, f4]) rfl ⟨c0, c1, c2, c3, cr, rfl, u0, u1, u2, u3, hinv, ?_⟩
    go_grown
set_option maxHeartbeats 4000000 in
theorem Plus_ge (s t : Bool) (hst : (s == t) = false) (a0 a1 a2 a3 b0 b1 b2 b3 : Int) (p0 : U a0) (p1 : U a1) (p2 : U a2) (p3 : U a3) (q0 : U b0) (q1 : U b1) (q2 : U b2) (q3 : U b3) (hlt : Hid (decide (PS 4 a0 a1 a2 a3 < PS 4 b0 b1 b2 b3) = false)) (w : World) :
    Calls Try.prog 30 #[.agg #[.bool s, .int .u64 a0, .int .u64 a1, .int .u64 a2, .int .u64 a3], .agg #[.bool t, .int .u64 b0, .int .u64 b1, .int .u64 b2, .int .u64 b3]] w fun e w' =>
      ∃ c0 c1 c2 c3 cr : Int, e = .returned (.agg #[.bool s, .int .u64 c0, .int .u64 c1, .int .u64 c2, .int .u64 c3]) ∧ U c0 ∧ U c1 ∧ U c2 ∧ U c3 ∧ Hid (0 ≤ cr ∧ cr ≤ 1 ∧ PS 4 c0 c1 c2 c3 - cr * BP 4 = PS 4 a0 a1 a2 a3 - PS 4 b0 b1 b2 b3) ∧ Below w.heap.size w w' := by
  go_enter Try.func30, Try.ntmps30
  go_wp2_with fail
  refine (less_low a0 a1 a2 a3 b0 b1 b2 b3 p0 p1 p2 p3 q0 q1 q2 q3 _).mono ?_
  rw [hlt.out]
  rintro e w0 ⟨rfl, hb0⟩
  obtain ⟨hcell0, hfroz0⟩ := bcell hb0
  have hB0 : Below w.heap.size w w0 := Below.trans (by go_grown) (hb0.mono (by simp; try omega))
  have hsz0 := hb0.size
  simp at hsz0
  go_wp2_with fail
  go_region_with (go_at_call 54; refine (minus_low a0 a1 a2 a3 b0 b1 b2 b3 p0 p1 p2 p3 q0 q1 q2 q3 _).mono ?_; rintro e w1 ⟨c0, c1, c2, c3, cr, rfl, u0, u1, u2, u3, hinv, hb⟩; have hb3 := Below.trans (c := w1) hb0.drew (hb.mono (by simp; omega)); obtain ⟨hcell, hfroz⟩ := bcell hb3; clear hcell0 hfroz0; simp only [World.size_alloc] at hcell hfroz; have hB : Below w.heap.size w w1 := Below.trans (by go_grown) (hb.mono (by simp; try omega)); have hsz := hb.size; simp at hsz)
  all_goals
    go_wp2
    obtain ⟨f0, f1, f2, f3, f4⟩ := five w1 (w.heap.size + 1 + 1) (.bool s) (.int .u64 c0) (.int .u64 c1) (.int .u64 c2) (.int .u64 c3) (by rw [hcell _ _ (by simp)]; simp [go_sem]; rfl) (by rw [hcell _ _ (by simp)]; simp [go_sem]; rfl) (by rw [hcell _ _ (by simp)]; simp [go_sem]; rfl) (by rw [hcell _ _ (by simp)]; simp [go_sem]; rfl) (by rw [hcell _ _ (by simp)]; simp [go_sem]; rfl)
    refine bodyPost_ret (v := .agg #[.bool s, .int .u64 c0, .int .u64 c1, .int .u64 c2, .int .u64 c3]) (by simp [results, Try.results30, go_sem, f0, f1, f2, f3, f4]) rfl ⟨c0, c1, c2, c3, cr, rfl, u0, u1, u2, u3, hinv, ?_⟩
    go_grown
end Go.Proofs.Ytknadgffflhlgaa.Rf
namespace Go.Proofs.Ytknadgffflhlgaa.Rf
open Go.RowKit Fx
set_option linter.unusedVariables false
set_option linter.unusedSimpArgs false
attribute [local go_sem] setCell_drewN alloc_drewN
def sv (s : Bool) (x : Int) : Int := if s then -x else x
theorem plus_any (v u : Value) (s t : Bool) (x y : Int) (hv : IsN v s x) (hu : IsN u t y) (hxy : x + y < 115792089237316195423570985008687907853269984665640564039457584007913129639936) (w : World) :
    Calls Try.prog 30 #[v, u] w fun e w' => ∃ z r m, e = .returned z ∧ IsN z r m ∧ sv r m = sv s x + sv t y ∧ Below w.heap.size w w' := by
  have hx := hv.rng
  have hy := hu.rng
  obtain ⟨a0, a1, a2, a3, rfl, p0, p1, p2, p3, hX⟩ := hv
  obtain ⟨b0, b1, b2, b3, rfl, q0, q1, q2, q3, hY⟩ := hu
  by_cases hst : s = t
  · subst hst
    refine (Plus_same s a0 a1 a2 a3 b0 b1 b2 b3 p0 p1 p2 p3 q0 q1 q2 q3 w).mono ?_
    rintro e w' ⟨c0, c1, c2, c3, cr, rfl, u0, u1, u2, u3, hinv, hb⟩
    refine ⟨_, s, x + y, rfl, ⟨c0, c1, c2, c3, rfl, u0, u1, u2, u3, ?_⟩, ?_, hb⟩
    · have h := hinv.out
      rw [hX, hY, BP4] at h
      have hc : 0 ≤ PS 4 c0 c1 c2 c3 := by rw [PS4]; unfold U at *; omega
      omega
    · unfold sv; split <;> omega
  · have hst' : (s == t) = false := by simpa using hst
    by_cases hlt : x < y
    · refine (Plus_lt s t hst' a0 a1 a2 a3 b0 b1 b2 b3 p0 p1 p2 p3 q0 q1 q2 q3 (by show decide _ = true; rw [hX, hY]; simpa using hlt) w).mono ?_
      rintro e w' ⟨c0, c1, c2, c3, cr, rfl, u0, u1, u2, u3, hinv, hb⟩
      refine ⟨_, t, y - x, rfl, ⟨c0, c1, c2, c3, rfl, u0, u1, u2, u3, ?_⟩, ?_, hb⟩
      · have h := hinv.out
        rw [hX, hY, BP4] at h
        have hc : PS 4 c0 c1 c2 c3 < 115792089237316195423570985008687907853269984665640564039457584007913129639936 := by rw [PS4]; unfold U at *; omega
        omega
      · unfold sv; cases s <;> cases t <;> simp at * <;> omega
    · refine (Plus_ge s t hst' a0 a1 a2 a3 b0 b1 b2 b3 p0 p1 p2 p3 q0 q1 q2 q3 (by show decide _ = false; rw [hX, hY]; simpa using hlt) w).mono ?_
      rintro e w' ⟨c0, c1, c2, c3, cr, rfl, u0, u1, u2, u3, hinv, hb⟩
      refine ⟨_, s, x - y, rfl, ⟨c0, c1, c2, c3, rfl, u0, u1, u2, u3, ?_⟩, ?_, hb⟩
      · have h := hinv.out
        rw [hX, hY, BP4] at h
        have hc : PS 4 c0 c1 c2 c3 < 115792089237316195423570985008687907853269984665640564039457584007913129639936 := by rw [PS4]; unfold U at *; omega
        omega
      · unfold sv; cases s <;> cases t <;> simp at * <;> omega
theorem or_zero (a b : Int) (ha : U a) (hb : U b) : U (bits .or .u64 a b) ∧ (bits .or .u64 a b = 0 ↔ a = 0 ∧ b = 0) := by
  obtain ⟨a, rfl⟩ := Int.eq_ofNat_of_zero_le ha.1
  obtain ⟨b, rfl⟩ := Int.eq_ofNat_of_zero_le hb.1
  unfold U at *
  have h : a ||| b < 2 ^ 64 := Nat.or_lt_two_pow (by omega) (by omega)
  rw [bits_or_u64_nat a b (by omega) (by omega)]
  refine ⟨by omega, ?_⟩
  have := @Nat.or_eq_zero_iff a b
  omega
theorem held_ref (v : Value) (s : Bool) (x : Int) (hv : IsN v s x) (w : World) :
    Calls Try.prog 29 #[v] w fun e w' => e = .returned (.int .i64 (hold (sv s x))) ∧ Below w.heap.size w w' := by
  have hx := hv.rng
  obtain ⟨a0, a1, a2, a3, rfl, p0, p1, p2, p3, hX⟩ := hv
  have o1 := or_zero a1 a2 p1 p2
  have o2 := or_zero _ a3 o1.1 p3
  obtain ⟨o, eo⟩ : ∃ o, bits .or .u64 (bits .or .u64 a1 a2) a3 = o := ⟨_, rfl⟩
  rw [eo] at o2
  rw [PS4] at hX
  obtain ⟨z, ez⟩ : ∃ z, hold (sv s x) = z := ⟨_, rfl⟩
  rw [ez]
  have key : ((o != 0) = true ∧ lim s = z) ∨ ((o != 0) = false ∧ 9223372036854775808 ≤ a0 ∧ lim s = z) ∨ ((o != 0) = false ∧ a0 < 9223372036854775808 ∧ 0 ≤ a0 ∧ (if s then -a0 else a0) = z) := by
    unfold U at *
    rw [o1.2] at o2
    by_cases h0 : o = 0
    · have hz := o2.2.1 h0
      by_cases h1 : 9223372036854775808 ≤ a0
      · refine Or.inr (Or.inl ⟨by simpa using h0, h1, ?_⟩)
        rw [← ez]
        cases s
        · rw [hold_hi (by simp [sv]; omega)]; rfl
        · rw [hold_lo (by simp [sv]; omega)]; rfl
      · refine Or.inr (Or.inr ⟨by simpa using h0, by omega, by omega, ?_⟩)
        rw [← ez]
        have e : x = a0 := by omega
        subst e
        cases s
        · rw [hold_in (by simp [sv]; omega) (by simp [sv]; omega)]; rfl
        · rw [hold_in (by simp [sv]; omega) (by simp [sv]; omega)]; rfl
    · refine Or.inl ⟨by simpa using h0, ?_⟩
      have hz : ¬ ((a1 = 0 ∧ a2 = 0) ∧ a3 = 0) := fun h => h0 (o2.2.2 h)
      rw [← ez]
      cases s
      · rw [hold_hi (by simp [sv]; omega)]; rfl
      · rw [hold_lo (by simp [sv]; omega)]; rfl
  clear ez hX hx o1 o2
  unfold U at p0 p1 p2 p3
  rcases key with ⟨k1, k2⟩ | ⟨k1, k2, k3⟩ | ⟨k1, k2, k3, k4⟩
  all_goals
    cases s
  all_goals
    go_enter Try.func29, Try.ntmps29
    go_wp2
    go_ret
    exact ⟨ret_int (by assumption), by go_grown⟩
end Go.Proofs.Ytknadgffflhlgaa.Rf
