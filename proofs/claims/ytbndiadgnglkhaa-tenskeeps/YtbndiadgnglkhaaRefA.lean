/- What the reference's own small functions hand back: bits, sums, differences of numbers of four words. -/
import Derived.Test.YtbndiadgnglkhaaProg
import Derived.Test.YtbndiadgnglkhaaMath
import Derived.WalkKit
import Derived.ProofKit
import Derived.WalkSpells
import Derived.BigQuiet
import Derived.Deep.QuietTactic
import Derived.WalkSmall
import Derived.Below
import Derived.Handy
namespace Go.Proofs.Ytbndiadgnglkhaa.Rf
open Go.RowKit Fx
set_option linter.unusedVariables false
set_option linter.unusedSimpArgs false
theorem setCell_drewN (w : World) (n : Nat) (a : Addr) (v : Value) : (w.drewN n).setCell a v = (w.setCell a v).drewN n := rfl
theorem alloc_drewN (w : World) (n : Nat) (o : Obj) : (w.drewN n).alloc o = (w.alloc o).drewN n := rfl
attribute [local go_sem] setCell_drewN alloc_drewN
def U (a : Int) : Prop := 0 ≤ a ∧ a < 18446744073709551616
def pk (a : Int) (r : Nat) : Int := a / 2 ^ r % 2
theorem ret_int {k : IntKind} {a b : Int} (h : a = b) : Ending.returned (.int k a) = .returned (.int k b) := by rw [h]
theorem div_rng (a : Int) (r : Nat) (h : 0 ≤ a ∧ a < 18446744073709551616) : 0 ≤ a / 2 ^ r ∧ a / 2 ^ r ≤ 18446744073709551615 := by
  have hp : (0 : Int) < 2 ^ r := Int.pow_pos (by decide)
  have := Int.ediv_nonneg h.1 (Int.le_of_lt hp)
  have := Int.ediv_le_self (2 ^ r : Int) h.1
  omega
theorem bit_at (j : Nat) (hj : j < 4) (a0 a1 a2 a3 i aj : Int) (r : Nat) (h0 : U a0) (h1 : U a1) (h2 : U a2) (h3 : U a3) (hr : r < 64) (hi : i = 64 * (j : Int) + (r : Int)) (ha : [a0, a1, a2, a3][j]? = some aj) (w : World) :
    Calls Try.prog 77 #[.agg #[.int .u64 a0, .int .u64 a1, .int .u64 a2, .int .u64 a3], .int .i64 i] w fun e w' => e = .returned (.int .u64 (pk aj r)) ∧ Below w.heap.size w w' := by
  have hr' : i % 64 = (r : Int) := by omega
  have hi0 : 0 ≤ i ∧ i < 256 := by omega
  unfold U at h0 h1 h2 h3
  have HI : Hid (i = 64 * (j : Int) + (r : Int)) := hi
  have hq : i / 64 = (j : Int) := by omega
  clear hi
  match j, hj with
  | 0, _ =>
    simp at ha hq
    subst ha
    go_enter Try.func77, Try.ntmps77
    go_wp2
    go_ret
    refine ⟨ret_int ?_, (Below.refl _ _).alloc (Nat.le_refl _) _⟩
    have hd0 := div_rng a0 r h0
    rw [and_one_u64 _ hd0.1 hd0.2]
    rfl
  | 1, _ =>
    simp at ha hq
    subst ha
    go_enter Try.func77, Try.ntmps77
    go_wp2
    go_ret
    refine ⟨ret_int ?_, (Below.refl _ _).alloc (Nat.le_refl _) _⟩
    have hd0 := div_rng a1 r h1
    rw [and_one_u64 _ hd0.1 hd0.2]
    rfl
  | 2, _ =>
    simp at ha hq
    subst ha
    go_enter Try.func77, Try.ntmps77
    go_wp2
    go_ret
    refine ⟨ret_int ?_, (Below.refl _ _).alloc (Nat.le_refl _) _⟩
    have hd0 := div_rng a2 r h2
    rw [and_one_u64 _ hd0.1 hd0.2]
    rfl
  | 3, _ =>
    simp at ha hq
    subst ha
    go_enter Try.func77, Try.ntmps77
    go_wp2
    go_ret
    refine ⟨ret_int ?_, (Below.refl _ _).alloc (Nat.le_refl _) _⟩
    have hd0 := div_rng a3 r h3
    rw [and_one_u64 _ hd0.1 hd0.2]
    rfl
def PS (k : Nat) (a0 a1 a2 a3 : Int) : Int :=
  if k = 0 then 0 else if k = 1 then a0 else if k = 2 then a0 + a1 * 18446744073709551616 else if k = 3 then a0 + a1 * 18446744073709551616 + a2 * 340282366920938463463374607431768211456
  else a0 + a1 * 18446744073709551616 + a2 * 340282366920938463463374607431768211456 + a3 * 6277101735386680763835789423207666416102355444464034512896
def BP (k : Nat) : Int :=
  if k = 0 then 1 else if k = 1 then 18446744073709551616 else if k = 2 then 340282366920938463463374607431768211456 else if k = 3 then 6277101735386680763835789423207666416102355444464034512896
  else 115792089237316195423570985008687907853269984665640564039457584007913129639936
def A4 (a0 a1 a2 a3 : Int) : Array Value := #[.int .u64 a0, .int .u64 a1, .int .u64 a2, .int .u64 a3]
theorem wr_U (n : Int) : U (IntKind.u64.wrap n) := by unfold U; rw [IntKind.wrap_u64]; omega
theorem c_yes (a b cr : Int) (ha : 0 ≤ a ∧ a < 18446744073709551616) (hb : 0 ≤ b ∧ b < 18446744073709551616) (h0 : 0 ≤ cr) (h1 : cr ≤ 1) (h : IntKind.u64.wrap (a + b) < a ∨ IntKind.u64.wrap (IntKind.u64.wrap (a + b) + cr) < IntKind.u64.wrap (a + b)) :
    IntKind.u64.wrap (IntKind.u64.wrap (a + b) + cr) + 1 * 18446744073709551616 = a + b + cr := by
  simp only [IntKind.wrap_u64] at *
  omega
theorem c_no (a b cr : Int) (ha : 0 ≤ a ∧ a < 18446744073709551616) (hb : 0 ≤ b ∧ b < 18446744073709551616) (h0 : 0 ≤ cr) (h1 : cr ≤ 1) (h : a ≤ IntKind.u64.wrap (a + b) ∧ IntKind.u64.wrap (a + b) ≤ IntKind.u64.wrap (IntKind.u64.wrap (a + b) + cr)) :
    IntKind.u64.wrap (IntKind.u64.wrap (a + b) + cr) + 0 * 18446744073709551616 = a + b + cr := by
  simp only [IntKind.wrap_u64] at *
  omega
theorem plus_step0 {a0 a1 a2 a3 b0 b1 b2 b3 c0 c1 c2 c3 cr t d : Int} (h : Hid (PS 0 c0 c1 c2 c3 + cr * BP 0 = PS 0 a0 a1 a2 a3 + PS 0 b0 b1 b2 b3)) (e : t + d * 18446744073709551616 = a0 + b0 + cr) :
    Hid (PS 1 t c1 c2 c3 + d * BP 1 = PS 1 a0 a1 a2 a3 + PS 1 b0 b1 b2 b3) := by
  have h' := h.out
  show PS 1 t c1 c2 c3 + d * BP 1 = PS 1 a0 a1 a2 a3 + PS 1 b0 b1 b2 b3
  simp [PS, BP] at h' ⊢
  omega
theorem plus_step1 {a0 a1 a2 a3 b0 b1 b2 b3 c0 c1 c2 c3 cr t d : Int} (h : Hid (PS 1 c0 c1 c2 c3 + cr * BP 1 = PS 1 a0 a1 a2 a3 + PS 1 b0 b1 b2 b3)) (e : t + d * 18446744073709551616 = a1 + b1 + cr) :
    Hid (PS 2 c0 t c2 c3 + d * BP 2 = PS 2 a0 a1 a2 a3 + PS 2 b0 b1 b2 b3) := by
  have h' := h.out
  show PS 2 c0 t c2 c3 + d * BP 2 = PS 2 a0 a1 a2 a3 + PS 2 b0 b1 b2 b3
  simp [PS, BP] at h' ⊢
  omega
theorem plus_step2 {a0 a1 a2 a3 b0 b1 b2 b3 c0 c1 c2 c3 cr t d : Int} (h : Hid (PS 2 c0 c1 c2 c3 + cr * BP 2 = PS 2 a0 a1 a2 a3 + PS 2 b0 b1 b2 b3)) (e : t + d * 18446744073709551616 = a2 + b2 + cr) :
    Hid (PS 3 c0 c1 t c3 + d * BP 3 = PS 3 a0 a1 a2 a3 + PS 3 b0 b1 b2 b3) := by
  have h' := h.out
  show PS 3 c0 c1 t c3 + d * BP 3 = PS 3 a0 a1 a2 a3 + PS 3 b0 b1 b2 b3
  simp [PS, BP] at h' ⊢
  omega
theorem plus_step3 {a0 a1 a2 a3 b0 b1 b2 b3 c0 c1 c2 c3 cr t d : Int} (h : Hid (PS 3 c0 c1 c2 c3 + cr * BP 3 = PS 3 a0 a1 a2 a3 + PS 3 b0 b1 b2 b3)) (e : t + d * 18446744073709551616 = a3 + b3 + cr) :
    Hid (PS 4 c0 c1 c2 t + d * BP 4 = PS 4 a0 a1 a2 a3 + PS 4 b0 b1 b2 b3) := by
  have h' := h.out
  show PS 4 c0 c1 c2 t + d * BP 4 = PS 4 a0 a1 a2 a3 + PS 4 b0 b1 b2 b3
  simp [PS, BP] at h' ⊢
  omega
set_option maxHeartbeats 2000000 in
theorem plus_low (a0 a1 a2 a3 b0 b1 b2 b3 : Int) (p0 : U a0) (p1 : U a1) (p2 : U a2) (p3 : U a3) (q0 : U b0) (q1 : U b1) (q2 : U b2) (q3 : U b3) (w : World) :
    Calls Try.prog 73 #[.agg #[.int .u64 a0, .int .u64 a1, .int .u64 a2, .int .u64 a3], .agg #[.int .u64 b0, .int .u64 b1, .int .u64 b2, .int .u64 b3]] w fun e w' =>
      ∃ c0 c1 c2 c3 cr : Int, e = .returned (.agg #[.int .u64 c0, .int .u64 c1, .int .u64 c2, .int .u64 c3]) ∧ U c0 ∧ U c1 ∧ U c2 ∧ U c3 ∧ Hid (0 ≤ cr ∧ cr ≤ 1 ∧ PS 4 c0 c1 c2 c3 + cr * BP 4 = PS 4 a0 a1 a2 a3 + PS 4 b0 b1 b2 b3) ∧ Below w.heap.size w w' := by
  unfold U at p0 p1 p2 p3 q0 q1 q2 q3
  go_enter Try.func73, Try.ntmps73
  go_wp2
  go_loopw [6, 7] (fun u v wr => ∃ (k n : Nat) (cr c0 c1 c2 c3 : Int), k ≤ 4 ∧ v = .int .i64 (k : Int) ∧ u = .int .u64 cr ∧ 0 ≤ cr ∧ cr ≤ 1 ∧ U c0 ∧ U c1 ∧ U c2 ∧ U c3 ∧ Hid (PS k c0 c1 c2 c3 + cr * BP k = PS k a0 a1 a2 a3 + PS k b0 b1 b2 b3) ∧
      wr = ((((w.alloc (.cells #[.int .u64 a0, .int .u64 a1, .int .u64 a2, .int .u64 a3] 75)).alloc (.cells #[.int .u64 b0, .int .u64 b1, .int .u64 b2, .int .u64 b3] 75)).alloc (.cells #[.int .u64 0, .int .u64 0, .int .u64 0, .int .u64 0] 75)).alloc (.cells #[.int .u64 c0, .int .u64 c1, .int .u64 c2, .int .u64 c3] 75)).drewN n) (fun _ v _ => 4 - (intOf v).toNat)
  case atStart => exact ⟨0, 0, 0, 0, 0, 0, 0, by omega, rfl, rfl, by omega, by omega, by unfold U; omega, by unfold U; omega, by unfold U; omega, by unfold U; omega, by show PS 0 0 0 0 0 + 0 * BP 0 = PS 0 a0 a1 a2 a3 + PS 0 b0 b1 b2 b3; simp [PS, BP], rfl⟩
  case round =>
    obtain ⟨k, n, cr, c0, c1, c2, c3, hk, rfl, rfl, hc0, hc1, u0, u1, u2, u3, hinv, rfl⟩ := hrel
    match k, hk with
    | 0, _ =>
      go_wp2_with fail
      go_quiet (fail)
      go_wp2
      all_goals
        go_roundw
        case rel =>
          first
          | exact ⟨1, _, 1, _, c1, c2, c3, by omega, rfl, rfl, by omega, by omega, (wr_U _), u1, u2, u3, plus_step0 hinv (c_yes _ _ _ p0 q0 hc0 hc1 ‹_›), rfl⟩
          | exact ⟨1, _, 1, _, c1, c2, c3, by omega, rfl, rfl, by omega, by omega, (wr_U _), u1, u2, u3, plus_step0 hinv (c_yes _ _ _ p0 q0 hc0 hc1 (Or.inl (by omega))), rfl⟩
          | exact ⟨1, _, 0, _, c1, c2, c3, by omega, rfl, rfl, by omega, by omega, (wr_U _), u1, u2, u3, plus_step0 hinv (c_no _ _ _ p0 q0 hc0 hc1 ‹_›), rfl⟩
        case measure => simp [intOf]
    | 1, _ =>
      go_wp2_with fail
      go_quiet (fail)
      go_wp2
      all_goals
        go_roundw
        case rel =>
          first
          | exact ⟨2, _, 1, c0, _, c2, c3, by omega, rfl, rfl, by omega, by omega, u0, (wr_U _), u2, u3, plus_step1 hinv (c_yes _ _ _ p1 q1 hc0 hc1 ‹_›), rfl⟩
          | exact ⟨2, _, 1, c0, _, c2, c3, by omega, rfl, rfl, by omega, by omega, u0, (wr_U _), u2, u3, plus_step1 hinv (c_yes _ _ _ p1 q1 hc0 hc1 (Or.inl (by omega))), rfl⟩
          | exact ⟨2, _, 0, c0, _, c2, c3, by omega, rfl, rfl, by omega, by omega, u0, (wr_U _), u2, u3, plus_step1 hinv (c_no _ _ _ p1 q1 hc0 hc1 ‹_›), rfl⟩
        case measure => simp [intOf]
    | 2, _ =>
      go_wp2_with fail
      go_quiet (fail)
      go_wp2
      all_goals
        go_roundw
        case rel =>
          first
          | exact ⟨3, _, 1, c0, c1, _, c3, by omega, rfl, rfl, by omega, by omega, u0, u1, (wr_U _), u3, plus_step2 hinv (c_yes _ _ _ p2 q2 hc0 hc1 ‹_›), rfl⟩
          | exact ⟨3, _, 1, c0, c1, _, c3, by omega, rfl, rfl, by omega, by omega, u0, u1, (wr_U _), u3, plus_step2 hinv (c_yes _ _ _ p2 q2 hc0 hc1 (Or.inl (by omega))), rfl⟩
          | exact ⟨3, _, 0, c0, c1, _, c3, by omega, rfl, rfl, by omega, by omega, u0, u1, (wr_U _), u3, plus_step2 hinv (c_no _ _ _ p2 q2 hc0 hc1 ‹_›), rfl⟩
        case measure => simp [intOf]
    | 3, _ =>
      go_wp2_with fail
      go_quiet (fail)
      go_wp2
      all_goals
        go_roundw
        case rel =>
          first
          | exact ⟨4, _, 1, c0, c1, c2, _, by omega, rfl, rfl, by omega, by omega, u0, u1, u2, (wr_U _), plus_step3 hinv (c_yes _ _ _ p3 q3 hc0 hc1 ‹_›), rfl⟩
          | exact ⟨4, _, 1, c0, c1, c2, _, by omega, rfl, rfl, by omega, by omega, u0, u1, u2, (wr_U _), plus_step3 hinv (c_yes _ _ _ p3 q3 hc0 hc1 (Or.inl (by omega))), rfl⟩
          | exact ⟨4, _, 0, c0, c1, c2, _, by omega, rfl, rfl, by omega, by omega, u0, u1, u2, (wr_U _), plus_step3 hinv (c_no _ _ _ p3 q3 hc0 hc1 ‹_›), rfl⟩
        case measure => simp [intOf]
    | 4, _ =>
      go_wp2
      exact bodyPost_ret (v := .agg #[.int .u64 c0, .int .u64 c1, .int .u64 c2, .int .u64 c3]) (by simp [results, Try.results73, go_sem]) rfl
        ⟨c0, c1, c2, c3, cr, rfl, u0, u1, u2, u3, ⟨hc0, hc1, hinv.out⟩, below_drewN (by go_grown) _⟩
theorem b_yes (a b cr : Int) (ha : 0 ≤ a ∧ a < 18446744073709551616) (hb : 0 ≤ b ∧ b < 18446744073709551616) (h0 : 0 ≤ cr) (h1 : cr ≤ 1) (h : a < b ∨ IntKind.u64.wrap (a - b) < cr) :
    IntKind.u64.wrap (IntKind.u64.wrap (a - b) - cr) - 1 * 18446744073709551616 = a - b - cr := by
  simp only [IntKind.wrap_u64] at *
  omega
theorem b_no (a b cr : Int) (ha : 0 ≤ a ∧ a < 18446744073709551616) (hb : 0 ≤ b ∧ b < 18446744073709551616) (h0 : 0 ≤ cr) (h1 : cr ≤ 1) (h : b ≤ a) (h' : cr ≤ IntKind.u64.wrap (a - b)) :
    IntKind.u64.wrap (IntKind.u64.wrap (a - b) - cr) - 0 * 18446744073709551616 = a - b - cr := by
  simp only [IntKind.wrap_u64] at *
  omega
theorem minus_step0 {a0 a1 a2 a3 b0 b1 b2 b3 c0 c1 c2 c3 cr t d : Int} (h : Hid (PS 0 c0 c1 c2 c3 - cr * BP 0 = PS 0 a0 a1 a2 a3 - PS 0 b0 b1 b2 b3)) (e : t - d * 18446744073709551616 = a0 - b0 - cr) :
    Hid (PS 1 t c1 c2 c3 - d * BP 1 = PS 1 a0 a1 a2 a3 - PS 1 b0 b1 b2 b3) := by
  have h' := h.out
  show PS 1 t c1 c2 c3 - d * BP 1 = PS 1 a0 a1 a2 a3 - PS 1 b0 b1 b2 b3
  simp [PS, BP] at h' ⊢
  omega
theorem minus_step1 {a0 a1 a2 a3 b0 b1 b2 b3 c0 c1 c2 c3 cr t d : Int} (h : Hid (PS 1 c0 c1 c2 c3 - cr * BP 1 = PS 1 a0 a1 a2 a3 - PS 1 b0 b1 b2 b3)) (e : t - d * 18446744073709551616 = a1 - b1 - cr) :
    Hid (PS 2 c0 t c2 c3 - d * BP 2 = PS 2 a0 a1 a2 a3 - PS 2 b0 b1 b2 b3) := by
  have h' := h.out
  show PS 2 c0 t c2 c3 - d * BP 2 = PS 2 a0 a1 a2 a3 - PS 2 b0 b1 b2 b3
  simp [PS, BP] at h' ⊢
  omega
theorem minus_step2 {a0 a1 a2 a3 b0 b1 b2 b3 c0 c1 c2 c3 cr t d : Int} (h : Hid (PS 2 c0 c1 c2 c3 - cr * BP 2 = PS 2 a0 a1 a2 a3 - PS 2 b0 b1 b2 b3)) (e : t - d * 18446744073709551616 = a2 - b2 - cr) :
    Hid (PS 3 c0 c1 t c3 - d * BP 3 = PS 3 a0 a1 a2 a3 - PS 3 b0 b1 b2 b3) := by
  have h' := h.out
  show PS 3 c0 c1 t c3 - d * BP 3 = PS 3 a0 a1 a2 a3 - PS 3 b0 b1 b2 b3
  simp [PS, BP] at h' ⊢
  omega
theorem minus_step3 {a0 a1 a2 a3 b0 b1 b2 b3 c0 c1 c2 c3 cr t d : Int} (h : Hid (PS 3 c0 c1 c2 c3 - cr * BP 3 = PS 3 a0 a1 a2 a3 - PS 3 b0 b1 b2 b3)) (e : t - d * 18446744073709551616 = a3 - b3 - cr) :
    Hid (PS 4 c0 c1 c2 t - d * BP 4 = PS 4 a0 a1 a2 a3 - PS 4 b0 b1 b2 b3) := by
  have h' := h.out
  show PS 4 c0 c1 c2 t - d * BP 4 = PS 4 a0 a1 a2 a3 - PS 4 b0 b1 b2 b3
  simp [PS, BP] at h' ⊢
  omega
set_option maxHeartbeats 2000000 in
theorem minus_low (a0 a1 a2 a3 b0 b1 b2 b3 : Int) (p0 : U a0) (p1 : U a1) (p2 : U a2) (p3 : U a3) (q0 : U b0) (q1 : U b1) (q2 : U b2) (q3 : U b3) (w : World) :
    Calls Try.prog 75 #[.agg #[.int .u64 a0, .int .u64 a1, .int .u64 a2, .int .u64 a3], .agg #[.int .u64 b0, .int .u64 b1, .int .u64 b2, .int .u64 b3]] w fun e w' =>
      ∃ c0 c1 c2 c3 cr : Int, e = .returned (.agg #[.int .u64 c0, .int .u64 c1, .int .u64 c2, .int .u64 c3]) ∧ U c0 ∧ U c1 ∧ U c2 ∧ U c3 ∧ Hid (0 ≤ cr ∧ cr ≤ 1 ∧ PS 4 c0 c1 c2 c3 - cr * BP 4 = PS 4 a0 a1 a2 a3 - PS 4 b0 b1 b2 b3) ∧ Below w.heap.size w w' := by
  unfold U at p0 p1 p2 p3 q0 q1 q2 q3
  go_enter Try.func75, Try.ntmps75
  go_wp2
  go_loopw [6, 7] (fun u v wr => ∃ (k n : Nat) (cr c0 c1 c2 c3 : Int), k ≤ 4 ∧ v = .int .i64 (k : Int) ∧ u = .int .u64 cr ∧ 0 ≤ cr ∧ cr ≤ 1 ∧ U c0 ∧ U c1 ∧ U c2 ∧ U c3 ∧ Hid (PS k c0 c1 c2 c3 - cr * BP k = PS k a0 a1 a2 a3 - PS k b0 b1 b2 b3) ∧
      wr = ((((w.alloc (.cells #[.int .u64 a0, .int .u64 a1, .int .u64 a2, .int .u64 a3] 75)).alloc (.cells #[.int .u64 b0, .int .u64 b1, .int .u64 b2, .int .u64 b3] 75)).alloc (.cells #[.int .u64 0, .int .u64 0, .int .u64 0, .int .u64 0] 75)).alloc (.cells #[.int .u64 c0, .int .u64 c1, .int .u64 c2, .int .u64 c3] 75)).drewN n) (fun _ v _ => 4 - (intOf v).toNat)
  case atStart => exact ⟨0, 0, 0, 0, 0, 0, 0, by omega, rfl, rfl, by omega, by omega, by unfold U; omega, by unfold U; omega, by unfold U; omega, by unfold U; omega, by show PS 0 0 0 0 0 - 0 * BP 0 = PS 0 a0 a1 a2 a3 - PS 0 b0 b1 b2 b3; simp [PS, BP], rfl⟩
  case round =>
    obtain ⟨k, n, cr, c0, c1, c2, c3, hk, rfl, rfl, hc0, hc1, u0, u1, u2, u3, hinv, rfl⟩ := hrel
    match k, hk with
    | 0, _ =>
      go_wp2_with fail
      go_quiet (fail)
      go_wp2_with fail
      by_cases hlt : a0 < b0
      · go_quiet (fail)
        go_wp2
        all_goals
          go_roundw
          case rel => exact ⟨1, _, 1, _, c1, c2, c3, by omega, rfl, rfl, by omega, by omega, (wr_U _), u1, u2, u3, minus_step0 hinv (b_yes _ _ _ p0 q0 hc0 hc1 (Or.inl (by omega))), rfl⟩
          case measure => simp [intOf]
      · have hlt' : decide (a0 < b0) = false := by simpa using hlt
        go_quiet (fail)
        go_wp2
        all_goals
          go_roundw
          case rel =>
            first
            | exact ⟨1, _, 1, _, c1, c2, c3, by omega, rfl, rfl, by omega, by omega, (by unfold U; (try simp only [IntKind.wrap_u64]); omega), u1, u2, u3, minus_step0 hinv (by (try simp only [IntKind.wrap_u64]); omega), rfl⟩
            | exact ⟨1, _, 0, _, c1, c2, c3, by omega, rfl, rfl, by omega, by omega, (by unfold U; (try simp only [IntKind.wrap_u64]); omega), u1, u2, u3, minus_step0 hinv (by (try simp only [IntKind.wrap_u64]); omega), rfl⟩
          case measure => simp [intOf]
    | 1, _ =>
      go_wp2_with fail
      go_quiet (fail)
      go_wp2_with fail
      by_cases hlt : a1 < b1
      · go_quiet (fail)
        go_wp2
        all_goals
          go_roundw
          case rel => exact ⟨2, _, 1, c0, _, c2, c3, by omega, rfl, rfl, by omega, by omega, u0, (wr_U _), u2, u3, minus_step1 hinv (b_yes _ _ _ p1 q1 hc0 hc1 (Or.inl (by omega))), rfl⟩
          case measure => simp [intOf]
      · have hlt' : decide (a1 < b1) = false := by simpa using hlt
        go_quiet (fail)
        go_wp2
        all_goals
          go_roundw
          case rel =>
            first
            | exact ⟨2, _, 1, c0, _, c2, c3, by omega, rfl, rfl, by omega, by omega, u0, (by unfold U; (try simp only [IntKind.wrap_u64]); omega), u2, u3, minus_step1 hinv (by (try simp only [IntKind.wrap_u64]); omega), rfl⟩
            | exact ⟨2, _, 0, c0, _, c2, c3, by omega, rfl, rfl, by omega, by omega, u0, (by unfold U; (try simp only [IntKind.wrap_u64]); omega), u2, u3, minus_step1 hinv (by (try simp only [IntKind.wrap_u64]); omega), rfl⟩
          case measure => simp [intOf]
    | 2, _ =>
      go_wp2_with fail
      go_quiet (fail)
      go_wp2_with fail
      by_cases hlt : a2 < b2
      · go_quiet (fail)
        go_wp2
        all_goals
          go_roundw
          case rel => exact ⟨3, _, 1, c0, c1, _, c3, by omega, rfl, rfl, by omega, by omega, u0, u1, (wr_U _), u3, minus_step2 hinv (b_yes _ _ _ p2 q2 hc0 hc1 (Or.inl (by omega))), rfl⟩
          case measure => simp [intOf]
      · have hlt' : decide (a2 < b2) = false := by simpa using hlt
        go_quiet (fail)
        go_wp2
        all_goals
          go_roundw
          case rel =>
            first
            | exact ⟨3, _, 1, c0, c1, _, c3, by omega, rfl, rfl, by omega, by omega, u0, u1, (by unfold U; (try simp only [IntKind.wrap_u64]); omega), u3, minus_step2 hinv (by (try simp only [IntKind.wrap_u64]); omega), rfl⟩
            | exact ⟨3, _, 0, c0, c1, _, c3, by omega, rfl, rfl, by omega, by omega, u0, u1, (by unfold U; (try simp only [IntKind.wrap_u64]); omega), u3, minus_step2 hinv (by (try simp only [IntKind.wrap_u64]); omega), rfl⟩
          case measure => simp [intOf]
    | 3, _ =>
      go_wp2_with fail
      go_quiet (fail)
      go_wp2_with fail
      by_cases hlt : a3 < b3
      · go_quiet (fail)
        go_wp2
        all_goals
          go_roundw
          case rel => exact ⟨4, _, 1, c0, c1, c2, _, by omega, rfl, rfl, by omega, by omega, u0, u1, u2, (wr_U _), minus_step3 hinv (b_yes _ _ _ p3 q3 hc0 hc1 (Or.inl (by omega))), rfl⟩
          case measure => simp [intOf]
      · have hlt' : decide (a3 < b3) = false := by simpa using hlt
        go_quiet (fail)
        go_wp2
        all_goals
          go_roundw
          case rel =>
            first
            | exact ⟨4, _, 1, c0, c1, c2, _, by omega, rfl, rfl, by omega, by omega, u0, u1, u2, (by unfold U; (try simp only [IntKind.wrap_u64]); omega), minus_step3 hinv (by (try simp only [IntKind.wrap_u64]); omega), rfl⟩
            | exact ⟨4, _, 0, c0, c1, c2, _, by omega, rfl, rfl, by omega, by omega, u0, u1, u2, (by unfold U; (try simp only [IntKind.wrap_u64]); omega), minus_step3 hinv (by (try simp only [IntKind.wrap_u64]); omega), rfl⟩
          case measure => simp [intOf]
    | 4, _ =>
      go_wp2
      exact bodyPost_ret (v := .agg #[.int .u64 c0, .int .u64 c1, .int .u64 c2, .int .u64 c3]) (by simp [results, Try.results75, go_sem]) rfl
        ⟨c0, c1, c2, c3, cr, rfl, u0, u1, u2, u3, ⟨hc0, hc1, hinv.out⟩, below_drewN (by go_grown) _⟩
end Go.Proofs.Ytbndiadgnglkhaa.Rf
