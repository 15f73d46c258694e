/- What the functions of package wide hand back: quotients by powers of two. -/
import Derived.Test.YtdbndpcbejofkaaDoorWideB
namespace Go.Proofs.YtdbndpcbejofkaaDoor.Wd
open Go.RowKit Fx
set_option linter.unusedVariables false
set_option linter.unusedSimpArgs false
theorem shr_rng (h : Int) (k : Nat) (h1 : -9223372036854775808 ≤ h) (h2 : h ≤ 9223372036854775807) : InR (h / 2 ^ k) := by
  have hp : (0 : Int) < 2 ^ k := Int.pow_pos (by decide)
  unfold InR
  constructor
  · rw [Int.le_ediv_iff_mul_le hp]
    have : (-9223372036854775808 : Int) * 2 ^ k ≤ -9223372036854775808 * 1 := Int.mul_le_mul_of_nonpos_left (by decide) (by omega)
    omega
  · have : h / 2 ^ k < 9223372036854775808 := Int.ediv_lt_of_lt_mul hp (by
      have : (9223372036854775808 : Int) * 1 ≤ 9223372036854775808 * 2 ^ k := Int.mul_le_mul_of_nonneg_left (by omega) (by decide)
      omega)
    omega
set_option maxHeartbeats 1000000 in
theorem floor_any (a : Int) (n : Nat) (ha : InW a) (hn : n ≤ 126) (nn : Int) (en : nn = (n : Int)) (w : World) :
    Calls Tryd.prog 41 #[wd a, .int .i64 nn] w fun e w' => e = .returned (wd (a / 2 ^ n)) ∧ Below w.heap.size w w' := by
  obtain ⟨ah, al, ea, a1, a2, a3, a4, Ha⟩ := words ha
  have hn1 : 0 ≤ nn ∧ nn ≤ 126 := by omega
  have En : Hid (nn = (n : Int)) := en
  rw [ea]
  clear ea en
  by_cases h : 64 ≤ nn
  · have hr := shr_rng ah (nn - 64).toNat a1 a2
    have ev : a / 2 ^ n = ah / 2 ^ (nn - 64).toNat := by
      have h1 := Ha.out
      have h2 := En.out
      rw [fl_far a n (by omega)]
      have : a / 18446744073709551616 = ah := by omega
      rw [this]
      congr 2
      omega
    have hs : ∀ W : World, Calls Tryd.prog 14 #[.int .i64 (ah / 2 ^ (nn - 64).toNat)] W fun e w' => e = .returned (wd (a / 2 ^ n)) ∧ Below W.heap.size W w' := by
      intro W
      rw [ev]
      exact of_any _ hr W
    have hw := InR.w hr
    rw [← ev] at hw
    obtain ⟨h', l, e, h1, h2, l1, l2, H⟩ := words hw
    rw [e] at hs ⊢
    clear e ev hr hw
    go_enter Tryd.func41, Tryd.ntmps41
    go_wp2_with fail
    refine (hs _).mono ?_
    rintro e' w1 ⟨rfl, hb⟩
    obtain ⟨hcell, hfroz⟩ := bcell hb
    have hB : Below w.heap.size w w1 := Below.trans (by go_grown) (hb.mono (by simp; try omega))
    have hsz := hb.size
    simp at hsz
    go_wp2
    obtain ⟨f0, f1⟩ := two w1 (w.heap.size + 1) (.int .i64 h') (.int .u64 l) (by rw [hcell _ _ (by simp)]; simp [go_sem]; rfl) (by rw [hcell _ _ (by simp)]; simp [go_sem]; rfl)
    refine bodyPost_ret (v := .agg #[.int .i64 h', .int .u64 l]) (by simp [results, Tryd.results41, go_sem, f0, f1]) rfl ⟨rfl, by go_grown⟩
  · go_enter Tryd.func41, Tryd.ntmps41
    go_wp2
    go_region
    go_wp2
    refine bodyPost_ret (v := .agg #[.int .i64 (ah / 2 ^ nn.toNat), .int .u64 (bits .or .u64 (IntKind.u64.wrap (IntKind.u64.wrap ah * 2 ^ (64 - nn).toNat)) (al / 2 ^ nn.toNat))]) (by simp [results, Tryd.results41, go_sem]) rfl ⟨?_, by go_grown⟩
    have h1 := Ha.out
    have h2 := En.out
    have e1 : nn.toNat = n := by omega
    have e2 : (64 - nn).toNat = 64 - n := by omega
    rw [e1, e2]
    apply ret_wd
    · rw [fl_hi, show a / 18446744073709551616 = ah by omega]
    · rw [IntKind.wrap_u64, IntKind.wrap_u64, h1, ← fl_lo ah al n (by omega) (by omega)]
      congr 1
      rw [Int.mul_emod, Int.emod_emod, ← Int.mul_emod]
/-- The table of the lowest bits' places, as its variable holds it. -/
def Tz (w : World) : Prop := ∀ j, j < 64 → w.cell? ⟨2, j, none⟩ = some (.int .u8 (Lib.deBruijn64tab.getD j 0))
theorem cell_lt {w : World} {b o : Nat} {v : Value} (h : w.cell? ⟨b, o, none⟩ = some v) : b < w.heap.size := by
  by_cases c : b < w.heap.size
  · exact c
  · exfalso
    unfold World.cell? at h
    rw [show w.heap[b]? = none from by simp; omega] at h
    simp at h
theorem keep {W w1 : World} {b o : Nat} {v : Value} (hb : Below W.heap.size W w1) (h : W.cell? ⟨b, o, none⟩ = some v) : w1.cell? ⟨b, o, none⟩ = some v := by
  rw [(bcell hb).1 _ _ (cell_lt h)]
  exact h
theorem keepf {W w1 : World} {b o : Nat} {v : Value} (hb : Below W.heap.size W w1) (h : W.cell? ⟨b, o, none⟩ = some v) (hf : W.frozen? ⟨b, o, none⟩ = false) : w1.frozen? ⟨b, o, none⟩ = false := by
  rw [(bcell hb).2 _ _ (cell_lt h)]
  exact hf
theorem keepl {W w1 : World} {b : Nat} (hb : Below W.heap.size W w1) (h : b < W.heap.size) : b < w1.heap.size := Nat.lt_of_lt_of_le h hb.size
theorem Tz.up {w w1 : World} (h : Tz w) (hb : Below w.heap.size w w1) : Tz w1 := by
  intro j hj
  have h0 := h j hj
  rw [(bcell hb).1 _ _ (cell_lt h0)]
  exact h0
theorem Tz.drew {w : World} (h : Tz w) : Tz w.drew := fun j hj => h j hj
theorem tz_zero (w : World) :
    Calls Tryd.prog 68 #[.int .u64 0] w fun e w' => e = .returned (.int .i64 64) ∧ w' = w := by
  go_enter Tryd.func68, Tryd.ntmps68
  go_wp2
  go_ret
  exact ⟨rfl, rfl⟩
theorem tz_core (x k idx : Nat) (w : World) (hx0 : ((x : Int) == 0) = false)
    (key : IntKind.u64.wrap (bits BinOp.and IntKind.u64 (x : Int) (IntKind.u64.wrap (-(x : Int))) * 285870213051353865) / 288230376151711744 = (idx : Int))
    (hi : idx < 64) (hk : k < 64) (hcell : w.cell? ⟨2, idx, none⟩ = some (.int .u8 k)) :
    Calls Tryd.prog 68 #[.int .u64 x] w fun e w' => e = .returned (.int .i64 k) ∧ w' = w := by
  go_enter Tryd.func68, Tryd.ntmps68
  go_wp2_with (simp only [key])
  go_ret
  exact ⟨rfl, rfl⟩
theorem tz_any (x : Nat) (hx : x < 18446744073709551616) (w : World) (hT : Tz w) :
    Calls Tryd.prog 68 #[.int .u64 x] w fun e w' => e = .returned (.int .i64 (Lib.ctz 64 x)) ∧ w' = w := by
  by_cases hx0 : x = 0
  · subst hx0
    exact tz_zero w
  · obtain ⟨hlow, hk⟩ := Lib.lowest_bit 64 x hx0 hx
    obtain ⟨hi, htab⟩ := Lib.deBruijn64_at _ hk
    have hcell := hT _ hi
    rw [htab] at hcell
    exact tz_core x _ _ w (by simpa using hx0) (tz64_key x _ hx hx0 hlow) hi hk hcell
/-- How many of the lowest bits of both words are 0. -/
theorem ctz_hi (h l : Int) (k : Nat) (hk : k ≤ 127) (h1 : -9223372036854775808 ≤ h) (h2 : h ≤ 9223372036854775807) (hl : l = 0) (x : Nat) (hx : (x : Int) = h % 18446744073709551616) :
    (64 + (Lib.ctz 64 x : Int) < (k : Int)) ↔ (h * 18446744073709551616 + l) % 2 ^ k ≠ 0 := by
  subst hl
  by_cases c : k ≤ 64
  · have : (h * 18446744073709551616 + 0) % 2 ^ k = 0 := by
      have e : (18446744073709551616 : Int) = 2 ^ (64 - k) * 2 ^ k := by rw [← Int.pow_add, show 64 - k + k = 64 by omega]; rfl
      rw [Int.add_zero, e, ← Int.mul_assoc]
      exact Int.mul_emod_left ..
    omega
  · have e : (h * 18446744073709551616 + 0) % 2 ^ k = 18446744073709551616 * (h % 2 ^ (k - 64)) := by
      rw [Int.add_zero, Int.mul_comm, show (2 : Int) ^ k = 18446744073709551616 * 2 ^ (k - 64) by
        rw [show (18446744073709551616 : Int) = 2 ^ 64 by rfl, ← Int.pow_add, show 64 + (k - 64) = k by omega]]
      exact Int.mul_emod_mul_of_pos _ _ (by decide)
    rw [e]
    have e2 : h % 2 ^ (k - 64) = ((x % 2 ^ (k - 64) : Nat) : Int) := by
      rw [Int.natCast_emod, hx, Int.natCast_pow]
      exact (Int.emod_emod_of_dvd h (by
        refine ⟨2 ^ (64 - (k - 64)), ?_⟩
        show (18446744073709551616 : Int) = 2 ^ (k - 64) * 2 ^ (64 - (k - 64))
        rw [← Int.pow_add, show k - 64 + (64 - (k - 64)) = 64 by omega]; rfl)).symm
    rw [e2]
    by_cases hx0 : x = 0
    · subst hx0
      have : Lib.ctz 64 0 = 64 := rfl
      rw [this]
      simp
      omega
    · have := ctz_lt x (k - 64) (by omega) (by omega)
      omega
theorem ctz_lo (h l : Int) (k : Nat) (x : Nat) (hx0 : 0 < x) (hx : (x : Int) = l) (hl : l ≤ 18446744073709551615) :
    ((Lib.ctz 64 x : Int) < (k : Int)) ↔ (h * 18446744073709551616 + l) % 2 ^ k ≠ 0 := by
  have h0 := ctz_lt x k hx0 (by omega)
  by_cases c : k ≤ 64
  · have e : (h * 18446744073709551616 + l) % 2 ^ k = ((x % 2 ^ k : Nat) : Int) := by
      have e : (18446744073709551616 : Int) = 2 ^ (64 - k) * 2 ^ k := by rw [← Int.pow_add, show 64 - k + k = 64 by omega]; rfl
      rw [e, ← Int.mul_assoc, Int.add_comm, Int.add_mul_emod_self_right, ← hx, Int.natCast_emod, Int.natCast_pow]
      rfl
    rw [e]
    omega
  · have h2 : Lib.ctz 64 x < 64 := (Lib.lowest_bit 64 x (by omega) (by omega)).2
    constructor
    · intro _ h3
      have e : ((h * 18446744073709551616 + l) % 2 ^ k) % 18446744073709551616 = l := by
        rw [Int.emod_emod_of_dvd _ (by
          refine ⟨2 ^ (k - 64), ?_⟩
          rw [show (18446744073709551616 : Int) = 2 ^ 64 by rfl, ← Int.pow_add, show 64 + (k - 64) = k by omega])]
        omega
      rw [h3] at e
      omega
    · intro _
      omega
set_option maxHeartbeats 1000000 in
theorem zeros_any (a : Int) (ha : InW a) (w : World) (hT : Hid (Tz w)) :
    Calls Tryd.prog 42 #[wd a] w fun e w' => ∃ z : Int, e = .returned (.int .i64 z) ∧ 0 ≤ z ∧ z ≤ 128 ∧ Hid (∀ k : Nat, k ≤ 127 → (z < (k : Int) ↔ a % 2 ^ k ≠ 0)) ∧ Below w.heap.size w w' := by
  obtain ⟨ah, al, ea, a1, a2, a3, a4, Ha⟩ := words ha
  rw [ea]
  clear ea
  by_cases h : al = 0
  · subst h
    obtain ⟨x, hx⟩ := Int.eq_ofNat_of_zero_le (Int.emod_nonneg ah (show (18446744073709551616 : Int) ≠ 0 by decide))
    obtain ⟨z, ez⟩ : ∃ z : Int, (Lib.ctz 64 x : Int) = z := ⟨_, rfl⟩
    have hz : 0 ≤ z ∧ z ≤ 64 := by
      by_cases c : x = 0
      · subst c
        have : Lib.ctz 64 0 = 64 := rfl
        omega
      · have := (Lib.lowest_bit 64 x c (by omega)).2
        omega
    have hs : ∀ W : World, Below w.heap.size w W → Calls Tryd.prog 68 #[.int .u64 (IntKind.u64.wrap ah)] W fun e w' => e = .returned (.int .i64 z) ∧ w' = W := by
      intro W hb
      have := tz_any x (by omega) W (hT.out.up hb)
      rw [ez] at this
      rw [IntKind.wrap_u64, hx]
      exact this
    have HH : Hid (∀ k : Nat, k ≤ 127 → (64 + z < (k : Int) ↔ a % 2 ^ k ≠ 0)) := by
      intro k hk
      rw [Ha.out, ← ez]
      exact ctz_hi ah 0 k hk a1 a2 rfl x hx.symm
    clear ez hx
    go_enter Tryd.func42, Tryd.ntmps42
    go_wp2_with (go_at_call 68; refine (hs _ (by go_grown)).mono ?_; rintro e' w2 ⟨rfl, rfl⟩)
    go_ret
    exact ⟨_, rfl, by omega, by omega, HH, by go_grown⟩
  · have h' : (al == 0) = false := by simpa using h
    obtain ⟨x, hx⟩ := Int.eq_ofNat_of_zero_le a3
    obtain ⟨z, ez⟩ : ∃ z : Int, (Lib.ctz 64 x : Int) = z := ⟨_, rfl⟩
    have hz : 0 ≤ z ∧ z ≤ 64 := by
      have := (Lib.lowest_bit 64 x (by omega) (by omega)).2
      omega
    have hs : ∀ W : World, Below w.heap.size w W → Calls Tryd.prog 68 #[.int .u64 al] W fun e w' => e = .returned (.int .i64 z) ∧ w' = W := by
      intro W hb
      have := tz_any x (by omega) W (hT.out.up hb)
      rw [ez] at this
      rw [hx]
      exact this
    have HH : Hid (∀ k : Nat, k ≤ 127 → (z < (k : Int) ↔ a % 2 ^ k ≠ 0)) := by
      intro k hk
      rw [Ha.out, ← ez]
      exact ctz_lo ah al k x (by omega) hx.symm a4
    clear ez hx
    go_enter Tryd.func42, Tryd.ntmps42
    go_wp2_with (go_at_call 68; refine (hs _ (by go_grown)).mono ?_; rintro e' w2 ⟨rfl, rfl⟩)
    go_ret
    exact ⟨_, rfl, by omega, by omega, HH, by go_grown⟩
end Go.Proofs.YtdbndpcbejofkaaDoor.Wd
