/- What the reference's own words of 128 bits are: a number's two words, and back. -/
import Derived.Test.YtknadgffflhlgaaRefJ
import Derived.Test.YtknadgffflhlgaaWideG
namespace Go.Proofs.Ytknadgffflhlgaa.Wd
open Go.RowKit Fx Rf
set_option linter.unusedVariables false
set_option linter.unusedSimpArgs false
attribute [local go_sem] fld_hi fld_lo setCell_drewN alloc_drewN
theorem nosign : (if IntKind.u64.signed = true then (-1 : Int) else IntKind.u64.max) = IntKind.u64.max := rfl
attribute [local go_sem] nosign
theorem wr_mod (y k : Int) : wr (y + k * 340282366920938463463374607431768211456) = wr y := by unfold wr; omega
/-- The words of a number turned round. -/
theorem turn_words (a0 a1 oh ol n1 l0 n0 : Int) (p0 : 0 ≤ a0 ∧ a0 < 18446744073709551616) (p1 : 0 ≤ a1 ∧ a1 < 18446744073709551616) (h1 : -9223372036854775808 ≤ oh) (h2 : oh ≤ 9223372036854775807) (l1 : 0 ≤ ol) (l2 : ol ≤ 18446744073709551615)
    (q : wr (-(a0 + a1 * 18446744073709551616)) = oh * 18446744073709551616 + ol) (r0 : n0 = 18446744073709551615 - a0) (r1 : n1 = 18446744073709551615 - a1) (r2 : l0 = (n0 + 1) % 18446744073709551616) :
    l0 = ol ∧ (l0 = 0 → wrap64 ((n1 + 1) % 18446744073709551616) = oh) ∧ (l0 ≠ 0 → wrap64 n1 = oh) := by
  unfold wr at q
  unfold wrap64
  have e : l0 = ol := by omega
  refine ⟨e, fun h => ?_, fun h => ?_⟩
  · have : a0 = 0 := by omega
    subst this
    have : ol = 0 := by omega
    subst this
    omega
  · omega
theorem compl_u (a : Int) (h : 0 ≤ a ∧ a < 18446744073709551616) : bits .xor .u64 IntKind.u64.max a = 18446744073709551615 - a := by
  obtain ⟨n, rfl⟩ := Int.eq_ofNat_of_zero_le h.1
  show IntKind.u64.wrap ((BitVec.ofInt 64 IntKind.u64.max ^^^ BitVec.ofInt 64 (n : Int)).toNat : Int) = _
  have e : BitVec.ofInt 64 IntKind.u64.max = BitVec.allOnes 64 := by decide
  have h1 : (BitVec.ofInt 64 (n : Int)).toNat = n := by
    rw [BitVec.ofInt_natCast, BitVec.toNat_ofNat]; exact Nat.mod_eq_of_lt (by omega)
  rw [e, BitVec.allOnes_xor, BitVec.toNat_not, h1, IntKind.wrap_u64]
  omega
set_option maxHeartbeats 1000000 in
theorem num_up (a : Int) (ha : InW a) (h0 : 0 ≤ a) (w : World) :
    Calls Try.prog 46 #[wd a] w fun e w' => ∃ v, e = .returned v ∧ IsN v false a ∧ Below w.heap.size w w' := by
  obtain ⟨ah, al, ea, a1, a2, a3, a4, Ha⟩ := words ha
  have q := Ha.out
  have hh : 0 ≤ ah := by omega
  rw [ea]
  clear ea q
  go_enter Try.func46, Try.ntmps46
  go_wp2
  exact bodyPost_ret (v := .agg #[.bool false, .int .u64 al, .int .u64 ah, .int .u64 0, .int .u64 0]) (by simp [results, Try.results46, go_sem]) rfl
    ⟨_, rfl, ⟨al, ah, 0, 0, rfl, by unfold U; omega, by unfold U; omega, by unfold U; omega, by unfold U; omega, by rw [PS4]; have := Ha.out; omega⟩, by go_grown⟩
set_option maxHeartbeats 1000000 in
theorem num_down (a : Int) (ha : InW a) (h0 : a < 0) (w : World) :
    Calls Try.prog 46 #[wd a] w fun e w' => ∃ v, e = .returned v ∧ IsN v true (-a) ∧ Below w.heap.size w w' := by
  obtain ⟨ah, al, ea, a1, a2, a3, a4, Ha⟩ := words ha
  have q := Ha.out
  have hh : ah < 0 := by omega
  rw [ea]
  clear ea q
  obtain ⟨n0, en0⟩ : ∃ n0, bits .xor .u64 IntKind.u64.max al = n0 := ⟨_, rfl⟩
  obtain ⟨uh, eu⟩ : ∃ uh, IntKind.u64.wrap ah = uh := ⟨_, rfl⟩
  have k3 := eu.symm.trans (IntKind.wrap_u64 ah)
  have b3 : 0 ≤ uh ∧ uh < 18446744073709551616 := by omega
  obtain ⟨n1, en1⟩ : ∃ n1, bits .xor .u64 IntKind.u64.max uh = n1 := ⟨_, rfl⟩
  obtain ⟨l0, el0⟩ : ∃ l0, IntKind.u64.wrap (n0 + 1) = l0 := ⟨_, rfl⟩
  have k0 := en0.symm.trans (compl_u al (by omega))
  have k1 := en1.symm.trans (compl_u uh b3)
  have k2 := el0.symm.trans (IntKind.wrap_u64 (n0 + 1))
  have b0 : 0 ≤ n0 ∧ n0 < 18446744073709551616 := by omega
  have b1 : 0 ≤ n1 ∧ n1 < 9223372036854775808 := by omega
  have b2 : 0 ≤ l0 ∧ l0 < 18446744073709551616 := by omega
  have K0 : Hid (n0 = 18446744073709551615 - al) := k0
  have K1 : Hid (n1 = 18446744073709551615 - uh) := k1
  have K2 : Hid (l0 = (n0 + 1) % 18446744073709551616) := k2
  have K3 : Hid (uh = ah % 18446744073709551616) := k3
  clear k0 k1 k2 k3
  by_cases c : l0 = 0
  · have c' : (l0 == 0) = true := by simpa using c
    have C : Hid (l0 = 0) := c
    clear c
    go_enter Try.func46, Try.ntmps46
    go_wp2_with fail
    go_quiet (fail)
    go_wp2
    exact bodyPost_ret (v := .agg #[.bool true, .int .u64 l0, .int .u64 (n1 + 1), .int .u64 0, .int .u64 0]) (by simp [results, Try.results46, go_sem]) rfl
      ⟨_, rfl, ⟨l0, n1 + 1, 0, 0, rfl, by unfold U; omega, by unfold U; omega, by unfold U; omega, by unfold U; omega, by rw [PS4]; have := Ha.out; have := K0.out; have := K1.out; have := K2.out; have := K3.out; have := C.out; omega⟩, below_drewN (by go_grown) _⟩
  · have c' : (l0 == 0) = false := by simpa using c
    have C : Hid (l0 ≠ 0) := c
    clear c
    go_enter Try.func46, Try.ntmps46
    go_wp2_with fail
    go_quiet (fail)
    go_wp2
    exact bodyPost_ret (v := .agg #[.bool true, .int .u64 l0, .int .u64 n1, .int .u64 0, .int .u64 0]) (by simp [results, Try.results46, go_sem]) rfl
      ⟨_, rfl, ⟨l0, n1, 0, 0, rfl, by unfold U; omega, by unfold U; omega, by unfold U; omega, by unfold U; omega, by rw [PS4]; have := Ha.out; have := K0.out; have := K1.out; have := K2.out; have := K3.out; have := C.out; omega⟩, below_drewN (by go_grown) _⟩
theorem num_ref (a : Int) (ha : InW a) (w : World) :
    Calls Try.prog 46 #[wd a] w fun e w' => ∃ v, e = .returned v ∧ IsN v (decide (a < 0)) (a.natAbs : Int) ∧ Below w.heap.size w w' := by
  by_cases h : a < 0
  · have := num_down a ha h w
    rw [show (a.natAbs : Int) = -a by omega, decide_eq_true h]
    exact this
  · have := num_up a ha (by omega) w
    rw [show (a.natAbs : Int) = a by omega, decide_eq_false h]
    exact this
end Go.Proofs.Ytknadgffflhlgaa.Wd
