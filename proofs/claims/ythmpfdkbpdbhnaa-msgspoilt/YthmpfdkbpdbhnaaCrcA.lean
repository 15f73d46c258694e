/- What package crc's functions and the reference's sums hand back. -/
import Derived.Test.YthmpfdkbpdbhnaaPkE
import Derived.Test.YthmpfdkbpdbhnaaCrcM
namespace Go.Proofs.Ythmpfdkbpdbhnaa.Wd
open Go.RowKit
set_option linter.unusedVariables false
set_option linter.unusedSimpArgs false
theorem nosign32 : (if IntKind.u32.signed = true then (-1 : Int) else IntKind.u32.max) = 4294967295 := rfl
theorem xor_32 (x y : Nat) (hx : x < 4294967296) (hy : y < 4294967296) : bits .xor .u32 (x : Int) (y : Int) = ((x ^^^ y : Nat) : Int) := by
  show IntKind.u32.wrap ((BitVec.ofInt 32 (x : Int) ^^^ BitVec.ofInt 32 (y : Int)).toNat : Int) = _
  have h1 : (BitVec.ofInt 32 (x : Int)).toNat = x := by
    rw [BitVec.ofInt_natCast, BitVec.toNat_ofNat]; exact Nat.mod_eq_of_lt (by omega)
  have h2 : (BitVec.ofInt 32 (y : Int)).toNat = y := by
    rw [BitVec.ofInt_natCast, BitVec.toNat_ofNat]; exact Nat.mod_eq_of_lt (by omega)
  have h3 := xor_lt hx hy
  rw [BitVec.toNat_xor, h1, h2, IntKind.wrap_u32]
  omega
theorem xor_8 (x y : Nat) (hx : x < 256) (hy : y < 256) : bits .xor .u8 (x : Int) (y : Int) = ((x ^^^ y : Nat) : Int) := by
  show IntKind.u8.wrap ((BitVec.ofInt 8 (x : Int) ^^^ BitVec.ofInt 8 (y : Int)).toNat : Int) = _
  have h1 : (BitVec.ofInt 8 (x : Int)).toNat = x := by
    rw [BitVec.ofInt_natCast, BitVec.toNat_ofNat]; exact Nat.mod_eq_of_lt (by omega)
  have h2 : (BitVec.ofInt 8 (y : Int)).toNat = y := by
    rw [BitVec.ofInt_natCast, BitVec.toNat_ofNat]; exact Nat.mod_eq_of_lt (by omega)
  have h3 : x ^^^ y < 2 ^ 8 := Nat.xor_lt_two_pow (n := 8) hx hy
  rw [BitVec.toNat_xor, h1, h2, IntKind.wrap_u8]
  omega
theorem tk_succ (k x : Nat) : tk (k + 1) x = tN (tk k x) := by rw [tk_add k 1]; rfl
/-- The bits that a shift drops and keeps. -/
theorem step_odd (x : Int) (m : Nat) (e : x = (m : Int)) (hm : m < 4294967296) (h : m % 2 = 1) : bits .and .u32 x 1 = 1 ∧ bits .xor .u32 (x / 2) 3988292384 = ((tN m : Nat) : Int) := by
  subst e
  constructor
  · rw [u32_and (m : Int) 1 (by omega) (by omega) (by decide) (by decide), show (1 : Int).toNat = 2 ^ 1 - 1 from rfl, Nat.and_two_pow_sub_one_eq_mod]
    omega
  · have := xor_32 (m / 2) 3988292384 (by omega) (by omega)
    unfold tN
    rw [if_pos h, ← this]
    simp
theorem step_even (x : Int) (m : Nat) (e : x = (m : Int)) (hm : m < 4294967296) (h : m % 2 = 0) : bits .and .u32 x 1 = 0 ∧ x / 2 = ((tN m : Nat) : Int) := by
  subst e
  constructor
  · rw [u32_and (m : Int) 1 (by omega) (by omega) (by decide) (by decide), show (1 : Int).toNat = 2 ^ 1 - 1 from rfl, Nat.and_two_pow_sub_one_eq_mod]
    omega
  · unfold tN
    rw [if_neg (by omega)]
    simp
set_option maxHeartbeats 1000000 in
theorem shift_any (s : Nat) (hs : s < 4294967296) (w : World) :
    Calls Try.prog 63 #[.int .u32 (s : Int)] w fun e w' => e = .returned (.int .u32 ((tk 8 s : Nat) : Int)) ∧ w' = w := by
  obtain ⟨s', es⟩ : ∃ s' : Int, (s : Int) = s' := ⟨_, rfl⟩
  have hs' : 0 ≤ s' ∧ s' < 4294967296 := by omega
  have Hs : Hid (s' = ((tk 0 s : Nat) : Int)) := es.symm
  rw [es]
  clear es
  go_enter Try.func63, Try.ntmps63
  go_wp2_with fail
  go_loopg [0, 4] 8 (fun gg u v wr => ∃ (k : Nat) (x : Int), k ≤ 8 ∧ gg = 8 - k ∧ u = .int .u32 x ∧ v = .int .i64 (k : Int) ∧ Hid (x = ((tk k s : Nat) : Int)) ∧ 0 ≤ x ∧ x < 4294967296 ∧ wr = w)
  case atStart => exact ⟨0, s', by omega, by omega, rfl, rfl, Hs, hs'.1, hs'.2, rfl⟩
  case round =>
    obtain ⟨k, x, hk, hg, rfl, rfl, Hx, hx0, hx1, rfl⟩ := hrel
    by_cases hk8 : k < 8
    · have hk' : (k : Int) < 8 := by omega
      have hm := tk_lt k hs
      have ht := tN_lt hm
      rcases Nat.mod_two_eq_zero_or_one (tk k s) with h | h
      · obtain ⟨ea, ex⟩ := step_even x _ Hx.out hm h
        obtain ⟨y, ey⟩ : ∃ y, x / 2 = y := ⟨_, rfl⟩
        rw [ey] at ex
        have Hy : Hid (y = ((tk (k + 1) s : Nat) : Int)) := by show _ = _; rw [tk_succ]; exact ex
        have hy : 0 ≤ y ∧ y < 4294967296 := by omega
        clear ex h hm ht
        go_wp2
        go_roundg (8 - (k + 1))
        case measure => omega
        case rel => exact ⟨k + 1, y, by omega, rfl, by first | rfl | simp [ey], by first | rfl | simp, Hy, hy.1, hy.2, rfl⟩
      · obtain ⟨ea, ex⟩ := step_odd x _ Hx.out hm h
        obtain ⟨y, ey⟩ : ∃ y, ((tN (tk k s) : Nat) : Int) = y := ⟨_, rfl⟩
        rw [ey] at ex
        have Hy : Hid (y = ((tk (k + 1) s : Nat) : Int)) := by show _ = _; rw [tk_succ]; exact ey.symm
        have hy : 0 ≤ y ∧ y < 4294967296 := by omega
        clear ey h hm ht
        go_wp2
        go_roundg (8 - (k + 1))
        case measure => omega
        case rel => exact ⟨k + 1, y, by omega, rfl, by first | rfl | simp [ex], by first | rfl | simp, Hy, hy.1, hy.2, rfl⟩
    · obtain rfl : k = 8 := by omega
      have e := Hx.out
      subst e
      go_wp2
      go_ret
      exact ⟨rfl, rfl⟩
end Go.Proofs.Ythmpfdkbpdbhnaa.Wd
