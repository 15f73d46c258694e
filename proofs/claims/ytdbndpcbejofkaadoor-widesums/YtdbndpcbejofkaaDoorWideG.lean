/- What the functions of package wide hand back: the order. -/
import Derived.Test.YtdbndpcbejofkaaDoorWideF
import Derived.Deep.RegionHeld3
namespace Go.Proofs.YtdbndpcbejofkaaDoor.Wd
open Go.RowKit Fx
set_option linter.unusedVariables false
set_option linter.unusedSimpArgs false
attribute [local go_sem] fld_hi fld_lo
def cmpI (a b : Int) : Int := if a < b then -1 else if b < a then 1 else 0
theorem nan_i (x : Int) (w : World) :
    Calls Tryd.prog 69 #[.int .i64 x] w fun e w' => e = .returned (.bool false) ∧ w' = w := by
  go_enter Tryd.func69, Tryd.ntmps69
  go_wp2
  go_ret
  exact ⟨rfl, rfl⟩
theorem nan_u (x : Int) (w : World) :
    Calls Tryd.prog 70 #[.int .u64 x] w fun e w' => e = .returned (.bool false) ∧ w' = w := by
  go_enter Tryd.func70, Tryd.ntmps70
  go_wp2
  go_ret
  exact ⟨rfl, rfl⟩
theorem compare_i (x y : Int) (w : World) :
    Calls Tryd.prog 44 #[.int .i64 x, .int .i64 y] w fun e w' => e = .returned (.int .i64 (cmpI x y)) ∧ w' = w := by
  go_enter Tryd.func44, Tryd.ntmps44
  go_wp2_with (go_at_call 69; refine (nan_i _ _).mono ?_; rintro e' w1 ⟨rfl, rfl⟩)
  all_goals
    go_ret
    refine ⟨ret_int ?_, rfl⟩
    unfold cmpI
    split <;> (try split) <;> omega
theorem compare_u (x y : Int) (w : World) :
    Calls Tryd.prog 45 #[.int .u64 x, .int .u64 y] w fun e w' => e = .returned (.int .i64 (cmpI x y)) ∧ w' = w := by
  go_enter Tryd.func45, Tryd.ntmps45
  go_wp2_with (go_at_call 70; refine (nan_u _ _).mono ?_; rintro e' w1 ⟨rfl, rfl⟩)
  all_goals
    go_ret
    refine ⟨ret_int ?_, rfl⟩
    unfold cmpI
    split <;> (try split) <;> omega
theorem or_any (b : Nat) (x y : Int) (w : World) (h0 : w.cell? ⟨b, 0, none⟩ = some (.int .i64 x)) (h1 : w.cell? ⟨b, 1, none⟩ = some (.int .i64 y)) :
    Calls Tryd.prog 43 #[.slice (some ⟨b, 0, none⟩) 2 2] w fun e w' => e = .returned (.int .i64 (if x = 0 then y else x)) ∧ w' = w := by
  obtain ⟨z, ez⟩ : ∃ z, (if x = 0 then y else x) = z := ⟨_, rfl⟩
  have E : Hid ((if x = 0 then y else x) = z) := ez
  rw [ez]
  clear ez
  go_enter Tryd.func43, Tryd.ntmps43
  go_wp2_with fail
  go_loopw [8] (fun v wr => ∃ k : Nat, k ≤ 2 ∧ v = .int .i64 (k : Int) ∧ Hid ((1 ≤ k → x = 0) ∧ (2 ≤ k → y = 0)) ∧ wr = w) (fun v _ => (2 - intOf v).toNat)
  case atStart => exact ⟨0, by omega, rfl, ⟨by omega, by omega⟩, rfl⟩
  case round =>
    obtain ⟨k, hk, rfl, hinv, rfl⟩ := hrel
    match k, hk with
    | 0, _ =>
      by_cases hx : x = 0
      · go_wp2
        go_roundw
        case rel => exact ⟨1, by omega, rfl, ⟨fun _ => hx, by omega⟩, trivial⟩
        case measure => simp [intOf]
      · have hx' : (x == 0) = false := by simpa using hx
        go_wp2
        go_ret
        refine ⟨ret_int ?_, rfl⟩
        rw [← E.out, if_neg hx]
    | 1, _ =>
      have hx := hinv.out.1 (by omega)
      have HX : Hid (x = 0) := hx
      clear hx
      by_cases hy : y = 0
      · go_wp2
        go_roundw
        case rel => exact ⟨2, by omega, rfl, ⟨fun _ => HX.out, fun _ => hy⟩, trivial⟩
        case measure => simp [intOf]
      · have hy' : (y == 0) = false := by simpa using hy
        go_wp2
        go_ret
        refine ⟨ret_int ?_, rfl⟩
        rw [← E.out, if_pos HX.out]
    | 2, _ =>
      have HX : Hid (x = 0 ∧ y = 0) := ⟨hinv.out.1 (by omega), hinv.out.2 (by omega)⟩
      go_wp2
      go_ret
      refine ⟨ret_int ?_, rfl⟩
      rw [← E.out, if_pos HX.out.1, HX.out.2]
theorem cmp_words (ah al bh bl : Int) (a3 : 0 ≤ al) (a4 : al ≤ 18446744073709551615) (b3 : 0 ≤ bl) (b4 : bl ≤ 18446744073709551615) :
    (if cmpI ah bh = 0 then cmpI al bl else cmpI ah bh) = cmpI (ah * 18446744073709551616 + al) (bh * 18446744073709551616 + bl) := by
  unfold cmpI
  by_cases c1 : ah < bh
  · simp [c1]; omega
  · by_cases c2 : bh < ah
    · simp [c1, c2]; omega
    · have : ah = bh := by omega
      subst this
      simp
set_option maxHeartbeats 2000000 in
theorem cmp_any (a b : Int) (ha : InW a) (hb : InW b) (w : World) :
    Calls Tryd.prog 16 #[wd a, wd b] w fun e w' => e = .returned (.int .i64 (cmpI a b)) ∧ Below w.heap.size w w' := by
  obtain ⟨ah, al, ea, a1, a2, a3, a4, Ha⟩ := words ha
  obtain ⟨bh, bl, eb, b1, b2, b3, b4, Hb⟩ := words hb
  obtain ⟨x, ex⟩ : ∃ x, cmpI ah bh = x := ⟨_, rfl⟩
  obtain ⟨y, ey⟩ : ∃ y, cmpI al bl = y := ⟨_, rfl⟩
  have s1 := compare_i ah bh
  have s2 := compare_u al bl
  rw [ex] at s1
  rw [ey] at s2
  rw [ea, eb]
  obtain ⟨z, ez⟩ : ∃ z, (if x = 0 then y else x) = z := ⟨_, rfl⟩
  have s3 : ∀ (b : Nat) (W : World), W.cell? ⟨b, 0, none⟩ = some (.int .i64 x) → W.cell? ⟨b, 1, none⟩ = some (.int .i64 y) → Calls Tryd.prog 43 #[.slice (some ⟨b, 0, none⟩) 2 2] W fun e w' => e = .returned (.int .i64 z) ∧ w' = W := by
    intro b W h0 h1
    rw [← ez]
    exact or_any b x y W h0 h1
  have EZ : Hid ((if x = 0 then y else x) = z) := ez
  clear ez
  have EE : Hid (z = cmpI a b) := by
    have h1 := Ha.out
    have h2 := Hb.out
    show z = cmpI a b
    rw [← EZ.out, ← ex, ← ey, h1, h2]
    exact cmp_words ah al bh bl a3 a4 b3 b4
  clear ea eb ex ey EZ Ha Hb ha hb
  go_enter Tryd.func16, Tryd.ntmps16
  go_wp2_with fail
  go_region_held3 (fun W => W.cell? ⟨w.heap.size, 0, none⟩ = some (.int .i64 ah) ∧ W.cell? ⟨w.heap.size, 1, none⟩ = some (.int .u64 al) ∧ W.cell? ⟨w.heap.size + 1, 0, none⟩ = some (.int .i64 bh) ∧ W.cell? ⟨w.heap.size + 1, 1, none⟩ = some (.int .u64 bl)) (go_keep)
    (first | (go_at_call 44; refine (s1 _).mono ?_; rintro e' w1 ⟨rfl, rfl⟩) | (go_at_call 45; refine (s2 _).mono ?_; rintro e' w1 ⟨rfl, rfl⟩) | (go_at_call 43; refine (s3 _ _ (by simp [go_sem]) (by simp [go_sem])).mono ?_; rintro e' w1 ⟨rfl, rfl⟩))
  all_goals
    go_wp2
    go_ret
    exact ⟨ret_int EE.out, by go_grown⟩
end Go.Proofs.YtdbndpcbejofkaaDoor.Wd
