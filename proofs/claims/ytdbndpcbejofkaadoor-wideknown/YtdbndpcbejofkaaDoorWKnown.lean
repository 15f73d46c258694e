/- The law WideKnown: what the chapter says at the ends. -/
import Derived.Test.YtdbndpcbejofkaaDoorWAwake
import Derived.Test.YtdbndpcbejofkaaDoorWideG
import Derived.Deep.RegionHeld3
namespace Go.Proofs.YtdbndpcbejofkaaDoor.Wd
open Go.RowKit Fx
set_option linter.unusedVariables false
set_option linter.unusedSimpArgs false
attribute [local go_sem] fld_hi fld_lo
theorem below_up5 {w W W1 : World} (h : Below w.heap.size w W) (hb : Below W.heap.size W W1) : Below w.heap.size w W1 := h.trans (hb.mono h.size)
theorem upk {W W1 : World} {b : Nat} {x0 x1 : Value} (hb : Below W.heap.size W W1) (h : W.cell? ⟨b, 0, none⟩ = some x0 ∧ W.cell? ⟨b, 1, none⟩ = some x1) : W1.cell? ⟨b, 0, none⟩ = some x0 ∧ W1.cell? ⟨b, 1, none⟩ = some x1 :=
  ⟨keep hb h.1, keep hb h.2⟩
theorem mk15 (W : World) : Sem.run Tryd.prog (Instr.makeSlice 29 (.int .i64 15) (.int .i64 15)) W = .ok (.slice (some ⟨W.heap.size, 0, none⟩) 15 15) (W.alloc (.cells #[.int .u8 0, .int .u8 0, .int .u8 0, .int .u8 0, .int .u8 0, .int .u8 0, .int .u8 0, .int .u8 0, .int .u8 0, .int .u8 0, .int .u8 0, .int .u8 0, .int .u8 0, .int .u8 0, .int .u8 0] 5)) := by
  kernel_rfl
attribute [local go_sem] mk15
set_option maxHeartbeats 1000000 in
theorem get_bad (p : Option Addr) (n c : Nat) (hn : n ≠ 16) (h0 : n < 4611686018427387904) (w : World) :
    Calls Tryd.prog 10 #[.slice p n c] w fun e w' => e = .returned (.tuple #[.agg #[.int .i64 0, .int .u64 0], .int .i64 3]) ∧ Below w.heap.size w w' := by
  have h1 : ((n : Int) == 16) = false := by
    simp; omega
  go_enter Tryd.func10, Tryd.ntmps10
  go_wp2
  exact bodyPost_ret (v := .tuple #[.agg #[.int .i64 0, .int .u64 0], .int .i64 3]) (by simp [results, Tryd.results10, go_sem]) rfl ⟨rfl, by go_grown⟩
theorem wd_low : wd (-170141183460469231731687303715884105728) = .agg #[.int .i64 (-9223372036854775808), .int .u64 0] := (wd_eq (by decide) (by decide)).symm
theorem wd_up : wd (18446744073709551616) = .agg #[.int .i64 1, .int .u64 0] := (wd_eq (by decide) (by decide)).symm
theorem wd_dn : wd (-36893488147419103232) = .agg #[.int .i64 (-2), .int .u64 0] := (wd_eq (by decide) (by decide)).symm
theorem wd_seven : wd (7) = .agg #[.int .i64 0, .int .u64 7] := (wd_eq (by decide) (by decide)).symm
theorem wd_five : wd (5) = .agg #[.int .i64 0, .int .u64 5] := (wd_eq (by decide) (by decide)).symm
theorem wd_mseven : wd (-7) = .agg #[.int .i64 (-1), .int .u64 18446744073709551609] := (wd_eq (by decide) (by decide)).symm
theorem wd_nil : wd (0) = .agg #[.int .i64 0, .int .u64 0] := (wd_eq (by decide) (by decide)).symm
set_option maxHeartbeats 8000000 in
set_option maxRecDepth 20000 in
theorem known_any (w : World) (hT : Hid (Tz w)) :
    Calls Tryd.prog 3 #[] w fun e w' => e = .returned (.bool true) ∧ Below w.heap.size w w' := by
  have s0 : ∀ W : World, Below w.heap.size w W → Calls Tryd.prog 9 #[] W fun e w' => e = .returned (.bool true) ∧ Below W.heap.size W w' := fun W h => awake_any W (hT.out.up h)
  have n1 : ∀ W : World, Calls Tryd.prog 11 #[.agg #[.int .i64 (-9223372036854775808), .int .u64 0]] W fun e w' => e = .returned (.agg #[.int .i64 (-9223372036854775808), .int .u64 0]) ∧ Below W.heap.size W w' := by
    intro W
    have := neg_any (-170141183460469231731687303715884105728) (by unfold InW; omega) W
    rw [show wr (-(-170141183460469231731687303715884105728)) = -170141183460469231731687303715884105728 by decide, wd_low] at this
    exact this
  have f1 : ∀ W : World, Calls Tryd.prog 12 #[.agg #[.int .i64 1, .int .u64 0]] W fun e w' => e = .returned (.int .i64 9223372036854775807) ∧ Below W.heap.size W w' := by
    intro W
    have := fix_any (18446744073709551616) (by unfold InW; omega) W
    rw [show hold (18446744073709551616) = 9223372036854775807 by decide, wd_up] at this
    exact this
  have f2 : ∀ W : World, Calls Tryd.prog 12 #[.agg #[.int .i64 (-2), .int .u64 0]] W fun e w' => e = .returned (.int .i64 (-9223372036854775808)) ∧ Below W.heap.size W w' := by
    intro W
    have := fix_any (-36893488147419103232) (by unfold InW; omega) W
    rw [show hold (-36893488147419103232) = -9223372036854775808 by decide, wd_dn] at this
    exact this
  have o7 : ∀ W : World, Calls Tryd.prog 14 #[.int .i64 7] W fun e w' => e = .returned (.agg #[.int .i64 0, .int .u64 7]) ∧ Below W.heap.size W w' := by
    intro W
    have := of_any 7 (by unfold InR; omega) W
    rw [wd_seven] at this
    exact this
  have o5 : ∀ W : World, Calls Tryd.prog 14 #[.int .i64 5] W fun e w' => e = .returned (.agg #[.int .i64 0, .int .u64 5]) ∧ Below W.heap.size W w' := by
    intro W
    have := of_any 5 (by unfold InR; omega) W
    rw [wd_five] at this
    exact this
  have om : ∀ W : World, Calls Tryd.prog 14 #[.int .i64 (-7)] W fun e w' => e = .returned (.agg #[.int .i64 (-1), .int .u64 18446744073709551609]) ∧ Below W.heap.size W w' := by
    intro W
    have := of_any (-7) (by unfold InR; omega) W
    rw [wd_mseven] at this
    exact this
  have o0 : ∀ W : World, Calls Tryd.prog 14 #[.int .i64 0] W fun e w' => e = .returned (.agg #[.int .i64 0, .int .u64 0]) ∧ Below W.heap.size W w' := by
    intro W
    have := of_any 0 (by unfold InR; omega) W
    rw [wd_nil] at this
    exact this
  have o2 : ∀ W : World, Calls Tryd.prog 14 #[.int .i64 2] W fun e w' => e = .returned (.agg #[.int .i64 0, .int .u64 2]) ∧ Below W.heap.size W w' := by
    intro W
    have := of_any 2 (by unfold InR; omega) W
    rw [wd_two] at this
    exact this
  have v1 : ∀ W : World, Calls Tryd.prog 13 #[.agg #[.int .i64 0, .int .u64 7], .int .i64 0] W fun e w' => e = .returned (.int .i64 9223372036854775807) ∧ Below W.heap.size W w' := by
    intro W
    have := over_any 7 0 (by unfold InW; omega) (by unfold InR; omega) W
    rw [show ovI 7 0 = 9223372036854775807 by decide, wd_seven] at this
    exact this
  have v2 : ∀ W : World, Calls Tryd.prog 13 #[.agg #[.int .i64 0, .int .u64 5], .int .i64 2] W fun e w' => e = .returned (.int .i64 2) ∧ Below W.heap.size W w' := by
    intro W
    have := over_any 5 2 (by unfold InW; omega) (by unfold InR; omega) W
    rw [show ovI 5 2 = 2 by decide, wd_five] at this
    exact this
  have v3 : ∀ W : World, Calls Tryd.prog 13 #[.agg #[.int .i64 (-1), .int .u64 18446744073709551609], .int .i64 2] W fun e w' => e = .returned (.int .i64 (-4)) ∧ Below W.heap.size W w' := by
    intro W
    have := over_any (-7) 2 (by unfold InW; omega) (by unfold InR; omega) W
    rw [show ovI (-7) 2 = -4 by decide, wd_mseven] at this
    exact this
  have h1 : ∀ W : World, Below w.heap.size w W → Calls Tryd.prog 15 #[.agg #[.int .i64 0, .int .u64 5], .int .i64 1] W fun e w' => e = .returned (.agg #[.int .i64 0, .int .u64 2]) ∧ Below W.heap.size W w' := by
    intro W hbl
    have := shift_any 5 1 (by unfold InW; omega) (by unfold InR; omega) W (hT.out.up hbl)
    rw [show (if (1 : Int) < 1 ∨ (126 : Int) < 1 then (5 : Int) else rqI 5 (2 ^ (1 : Int).toNat)) = 2 by decide, wd_two, wd_five] at this
    exact this
  have h0 : ∀ W : World, Below w.heap.size w W → Calls Tryd.prog 15 #[.agg #[.int .i64 0, .int .u64 5], .int .i64 0] W fun e w' => e = .returned (.agg #[.int .i64 0, .int .u64 5]) ∧ Below W.heap.size W w' := by
    intro W hbl
    have := shift_any 5 0 (by unfold InW; omega) (by unfold InR; omega) W (hT.out.up hbl)
    rw [show (if (0 : Int) < 1 ∨ (126 : Int) < 0 then (5 : Int) else rqI 5 (2 ^ (0 : Int).toNat)) = 5 by decide, wd_five] at this
    exact this
  have k1 : ∀ W : World, Calls Tryd.prog 16 #[.agg #[.int .i64 (-9223372036854775808), .int .u64 0], .agg #[.int .i64 0, .int .u64 0]] W fun e w' => e = .returned (.int .i64 (-1)) ∧ Below W.heap.size W w' := by
    intro W
    have := cmp_any (-170141183460469231731687303715884105728) 0 (by unfold InW; omega) (by unfold InW; omega) W
    rw [show cmpI (-170141183460469231731687303715884105728) 0 = -1 by decide, wd_low, wd_nil] at this
    exact this
  go_enter Tryd.func3, Tryd.ntmps3
  go_wp2_with fail
  refine (s0 _ (by go_grown)).mono ?_
  rintro e' w1 ⟨rfl, hb1⟩
  have B1 : Below w.heap.size w w1 := hb1
  have sz1 : w.heap.size ≤ w1.heap.size := B1.size
  clear hb1 s0
  go_wp2_with fail
  refine (get_bad _ 15 15 (by decide) (by decide) _).mono ?_
  rintro e' w2 ⟨rfl, hb2⟩
  have B2 : Below w.heap.size w w2 := Below.trans (by go_grown) (hb2.mono (by first | omega | (simp; try omega)))
  have sz2 : w.heap.size ≤ w2.heap.size := B2.size
  clear hb2
  go_wp2_with fail
  go_region_held3 (fun W => W.cell? ⟨w2.heap.size + 1, 0, none⟩ = some (.int .i64 (-9223372036854775808)) ∧ W.cell? ⟨w2.heap.size + 1, 1, none⟩ = some (.int .u64 0)) (first | assumption | (go_keep; done))
    (first
      | (go_at_call 11; (first | (with_reducible refine (n1 _).mono ?_)); rintro e' w' ⟨rfl, hbb⟩; have hS := upk (b := w2.heap.size + 1) (x0 := .int .i64 (-9223372036854775808)) (x1 := .int .u64 0) hbb (by first | assumption | go_keep); have hBB := below_up5 (w := w) (by first | assumption | go_grown) hbb; clear hbb)
      | (go_at_call 12; (first | (with_reducible refine (f1 _).mono ?_) | (with_reducible refine (f2 _).mono ?_)); rintro e' w' ⟨rfl, hbb⟩; have hS := upk (b := w2.heap.size + 1) (x0 := .int .i64 (-9223372036854775808)) (x1 := .int .u64 0) hbb (by first | assumption | go_keep); have hBB := below_up5 (w := w) (by first | assumption | go_grown) hbb; clear hbb)
      | (go_at_call 14; (first | (with_reducible refine (o7 _).mono ?_) | (with_reducible refine (o5 _).mono ?_) | (with_reducible refine (om _).mono ?_) | (with_reducible refine (o0 _).mono ?_) | (with_reducible refine (o2 _).mono ?_)); rintro e' w' ⟨rfl, hbb⟩; have hS := upk (b := w2.heap.size + 1) (x0 := .int .i64 (-9223372036854775808)) (x1 := .int .u64 0) hbb (by first | assumption | go_keep); have hBB := below_up5 (w := w) (by first | assumption | go_grown) hbb; clear hbb)
      | (go_at_call 13; (first | (with_reducible refine (v1 _).mono ?_) | (with_reducible refine (v2 _).mono ?_) | (with_reducible refine (v3 _).mono ?_)); rintro e' w' ⟨rfl, hbb⟩; have hS := upk (b := w2.heap.size + 1) (x0 := .int .i64 (-9223372036854775808)) (x1 := .int .u64 0) hbb (by first | assumption | go_keep); have hBB := below_up5 (w := w) (by first | assumption | go_grown) hbb; clear hbb)
      | (go_at_call 15; (first | (with_reducible refine (h1 _ (by first | assumption | go_grown)).mono ?_) | (with_reducible refine (h0 _ (by first | assumption | go_grown)).mono ?_)); rintro e' w' ⟨rfl, hbb⟩; have hS := upk (b := w2.heap.size + 1) (x0 := .int .i64 (-9223372036854775808)) (x1 := .int .u64 0) hbb (by first | assumption | go_keep); have hBB := below_up5 (w := w) (by first | assumption | go_grown) hbb; clear hbb)
      | (go_at_call 16; (first | (with_reducible refine (k1 _).mono ?_)); rintro e' w' ⟨rfl, hbb⟩; have hS := upk (b := w2.heap.size + 1) (x0 := .int .i64 (-9223372036854775808)) (x1 := .int .u64 0) hbb (by first | assumption | go_keep); have hBB := below_up5 (w := w) (by first | assumption | go_grown) hbb; clear hbb))
  all_goals
    go_wp2
    go_ret
    exact ⟨rfl, by first | assumption | go_grown⟩
end Go.Proofs.YtdbndpcbejofkaaDoor.Wd
