/- What the reference's own words of 128 bits are: a number's two words, and back. -/
import Derived.Test.YtdbndpcbejofkaaDoorRefJ
import Derived.Test.YtdbndpcbejofkaaDoorWideG
namespace Go.Proofs.YtdbndpcbejofkaaDoor.Wd
open Go.RowKit Fx Rf
set_option linter.unusedVariables false
set_option linter.unusedSimpArgs false
attribute [local go_sem] fld_hi fld_lo setCell_drewN alloc_drewN
theorem nosign : (if IntKind.u64.signed = true then (-1 : Int) else IntKind.u64.max) = IntKind.u64.max := rfl
attribute [local go_sem] nosign
theorem wr_mod (y k : Int) : wr (y + k * 340282366920938463463374607431768211456) = wr y := by unfold wr; omega
/-- The words of a number turned round. -/
theorem turn_words (a0 a1 oh ol n1 l0 n0 : Int) (p0 : 0 ≤ a0 ∧ a0 < 18446744073709551616) (p1 : 0 ≤ a1 ∧ a1 < 18446744073709551616) (h1 : -9223372036854775808 ≤ oh) (h2 : oh ≤ 9223372036854775807) (l1 : 0 ≤ ol) (l2 : ol ≤ 18446744073709551615)
    (q : wr (-(a0 + a1 * 18446744073709551616)) = oh * 18446744073709551616 + ol) (r0 : n0 = 18446744073709551615 - a0) (r1 : n1 = 18446744073709551615 - a1) (r2 : l0 = (n0 + 1) % 18446744073709551616) :
    l0 = ol ∧ (l0 = 0 → wrap64 ((n1 + 1) % 18446744073709551616) = oh) ∧ (l0 ≠ 0 → wrap64 n1 = oh) := by
  unfold wr at q
  unfold wrap64
  have e : l0 = ol := by omega
  refine ⟨e, fun h => ?_, fun h => ?_⟩
  · have : a0 = 0 := by omega
    subst this
    have : ol = 0 := by omega
    subst this
    omega
  · omega
theorem compl_u (a : Int) (h : 0 ≤ a ∧ a < 18446744073709551616) : bits .xor .u64 IntKind.u64.max a = 18446744073709551615 - a := by
  obtain ⟨n, rfl⟩ := Int.eq_ofNat_of_zero_le h.1
  show IntKind.u64.wrap ((BitVec.ofInt 64 IntKind.u64.max ^^^ BitVec.ofInt 64 (n : Int)).toNat : Int) = _
  have e : BitVec.ofInt 64 IntKind.u64.max = BitVec.allOnes 64 := by decide
  have h1 : (BitVec.ofInt 64 (n : Int)).toNat = n := by
    rw [BitVec.ofInt_natCast, BitVec.toNat_ofNat]; exact Nat.mod_eq_of_lt (by omega)
  rw [e, BitVec.allOnes_xor, BitVec.toNat_not, h1, IntKind.wrap_u64]
  omega
set_option maxHeartbeats 1000000 in
theorem wide_up (a0 a1 a2 a3 : Int) (p0 : U a0) (p1 : U a1) (p2 : U a2) (p3 : U a3) (x : Int) (hx : PS 4 a0 a1 a2 a3 = x) (w : World) :
    Calls Tryd.prog 29 #[.agg #[.bool false, .int .u64 a0, .int .u64 a1, .int .u64 a2, .int .u64 a3]] w fun e w' => e = .returned (wd (wr x)) ∧ Below w.heap.size w w' := by
  have H : Hid (PS 4 a0 a1 a2 a3 = x) := hx
  clear hx
  unfold U at p0 p1 p2 p3
  obtain ⟨h, l, e, h1, h2, l1, l2, HH⟩ := words (wr_rng x)
  rw [e]
  clear e
  go_enter Tryd.func29, Tryd.ntmps29
  go_wp2_with fail
  go_quiet (fail)
  go_wp2
  refine bodyPost_ret (v := .agg #[.int .i64 h, .int .u64 l]) ?_ rfl ⟨rfl, below_drewN (by go_grown) _⟩
  have q1 := H.out
  have q2 := HH.out
  rw [PS4] at q1
  unfold wr at q2
  simp [results, Tryd.results29, go_sem]
  simp only [IntKind.wrap_i64, wrap64]
  constructor <;> omega
set_option maxHeartbeats 1000000 in
theorem wide_down (a0 a1 a2 a3 : Int) (p0 : U a0) (p1 : U a1) (p2 : U a2) (p3 : U a3) (x : Int) (hx : PS 4 a0 a1 a2 a3 = x) (w : World) :
    Calls Tryd.prog 29 #[.agg #[.bool true, .int .u64 a0, .int .u64 a1, .int .u64 a2, .int .u64 a3]] w fun e w' => e = .returned (wd (wr (-x))) ∧ Below w.heap.size w w' := by
  have H : Hid (PS 4 a0 a1 a2 a3 = x) := hx
  clear hx
  unfold U at p0 p1 p2 p3
  obtain ⟨oh, ol, e, h1, h2, l1, l2, HH⟩ := words (wr_rng (-x))
  rw [e]
  clear e
  obtain ⟨n0, en0⟩ : ∃ n0, bits .xor .u64 IntKind.u64.max a0 = n0 := ⟨_, rfl⟩
  obtain ⟨n1, en1⟩ : ∃ n1, bits .xor .u64 IntKind.u64.max a1 = n1 := ⟨_, rfl⟩
  obtain ⟨l0, el0⟩ : ∃ l0, IntKind.u64.wrap (n0 + 1) = l0 := ⟨_, rfl⟩
  have k0 := en0.symm.trans (compl_u a0 p0)
  have k1 := en1.symm.trans (compl_u a1 p1)
  have k2 := el0.symm.trans (IntKind.wrap_u64 (n0 + 1))
  have b0 : 0 ≤ n0 ∧ n0 < 18446744073709551616 := by omega
  have b1 : 0 ≤ n1 ∧ n1 < 18446744073709551616 := by omega
  have b2 : 0 ≤ l0 ∧ l0 < 18446744073709551616 := by omega
  have K0 : Hid (n0 = 18446744073709551615 - a0) := k0
  have K1 : Hid (n1 = 18446744073709551615 - a1) := k1
  have K2 : Hid (l0 = (n0 + 1) % 18446744073709551616) := k2
  have TW : Hid (l0 = ol ∧ (l0 = 0 → wrap64 ((n1 + 1) % 18446744073709551616) = oh) ∧ (l0 ≠ 0 → wrap64 n1 = oh)) := by
    have q1 := H.out
    have q2 := HH.out
    rw [PS4] at q1
    have e : -x = -(a0 + a1 * 18446744073709551616) + (-(a2 + a3 * 18446744073709551616)) * 340282366920938463463374607431768211456 := by omega
    rw [e, wr_mod] at q2
    exact turn_words a0 a1 oh ol n1 l0 n0 p0 p1 h1 h2 l1 l2 q2 k0 k1 k2
  clear k0 k1 k2
  by_cases c : l0 = 0
  · have c' : (l0 == 0) = true := by simpa using c
    have C : Hid (l0 = 0) := c
    clear c
    go_enter Tryd.func29, Tryd.ntmps29
    go_wp2_with fail
    go_quiet (fail)
    go_wp2
    refine bodyPost_ret (v := .agg #[.int .i64 oh, .int .u64 ol]) ?_ rfl ⟨rfl, below_drewN (by go_grown) _⟩
    have T := TW.out
    have r3 := C.out
    simp [results, Tryd.results29, go_sem]
    try simp only [IntKind.wrap_i64, IntKind.wrap_u64]
    exact ⟨by first | exact T.2.1 r3 | exact T.2.2 r3, by first | exact T.1 | (rw [← T.1, r3]) | (have := T.1; omega)⟩
  · have c' : (l0 == 0) = false := by simpa using c
    have C : Hid (l0 ≠ 0) := c
    clear c
    go_enter Tryd.func29, Tryd.ntmps29
    go_wp2_with fail
    go_quiet (fail)
    go_wp2
    refine bodyPost_ret (v := .agg #[.int .i64 oh, .int .u64 ol]) ?_ rfl ⟨rfl, below_drewN (by go_grown) _⟩
    have T := TW.out
    have r3 := C.out
    simp [results, Tryd.results29, go_sem]
    try simp only [IntKind.wrap_i64, IntKind.wrap_u64]
    exact ⟨by first | exact T.2.1 r3 | exact T.2.2 r3, by first | exact T.1 | (rw [← T.1, r3]) | (have := T.1; omega)⟩
theorem wide_ref (v : Value) (s : Bool) (x : Int) (hv : IsN v s x) (w : World) :
    Calls Tryd.prog 29 #[v] w fun e w' => e = .returned (wd (wr (sv s x))) ∧ Below w.heap.size w w' := by
  obtain ⟨a0, a1, a2, a3, rfl, p0, p1, p2, p3, hX⟩ := hv
  cases s
  · exact wide_up a0 a1 a2 a3 p0 p1 p2 p3 x hX w
  · exact wide_down a0 a1 a2 a3 p0 p1 p2 p3 x hX w
set_option maxHeartbeats 1000000 in
theorem num_up (a : Int) (ha : InW a) (h0 : 0 ≤ a) (w : World) :
    Calls Tryd.prog 25 #[wd a] w fun e w' => ∃ v, e = .returned v ∧ IsN v false a ∧ Below w.heap.size w w' := by
  obtain ⟨ah, al, ea, a1, a2, a3, a4, Ha⟩ := words ha
  have q := Ha.out
  have hh : 0 ≤ ah := by omega
  rw [ea]
  clear ea q
  go_enter Tryd.func25, Tryd.ntmps25
  go_wp2
  exact bodyPost_ret (v := .agg #[.bool false, .int .u64 al, .int .u64 ah, .int .u64 0, .int .u64 0]) (by simp [results, Tryd.results25, go_sem]) rfl
    ⟨_, rfl, ⟨al, ah, 0, 0, rfl, by unfold U; omega, by unfold U; omega, by unfold U; omega, by unfold U; omega, by rw [PS4]; have := Ha.out; omega⟩, by go_grown⟩
set_option maxHeartbeats 1000000 in
theorem num_down (a : Int) (ha : InW a) (h0 : a < 0) (w : World) :
    Calls Tryd.prog 25 #[wd a] w fun e w' => ∃ v, e = .returned v ∧ IsN v true (-a) ∧ Below w.heap.size w w' := by
  obtain ⟨ah, al, ea, a1, a2, a3, a4, Ha⟩ := words ha
  have q := Ha.out
  have hh : ah < 0 := by omega
  rw [ea]
  clear ea q
  obtain ⟨n0, en0⟩ : ∃ n0, bits .xor .u64 IntKind.u64.max al = n0 := ⟨_, rfl⟩
  obtain ⟨uh, eu⟩ : ∃ uh, IntKind.u64.wrap ah = uh := ⟨_, rfl⟩
  have k3 := eu.symm.trans (IntKind.wrap_u64 ah)
  have b3 : 0 ≤ uh ∧ uh < 18446744073709551616 := by omega
  obtain ⟨n1, en1⟩ : ∃ n1, bits .xor .u64 IntKind.u64.max uh = n1 := ⟨_, rfl⟩
  obtain ⟨l0, el0⟩ : ∃ l0, IntKind.u64.wrap (n0 + 1) = l0 := ⟨_, rfl⟩
  have k0 := en0.symm.trans (compl_u al (by omega))
  have k1 := en1.symm.trans (compl_u uh b3)
  have k2 := el0.symm.trans (IntKind.wrap_u64 (n0 + 1))
  have b0 : 0 ≤ n0 ∧ n0 < 18446744073709551616 := by omega
  have b1 : 0 ≤ n1 ∧ n1 < 9223372036854775808 := by omega
  have b2 : 0 ≤ l0 ∧ l0 < 18446744073709551616 := by omega
  have K0 : Hid (n0 = 18446744073709551615 - al) := k0
  have K1 : Hid (n1 = 18446744073709551615 - uh) := k1
  have K2 : Hid (l0 = (n0 + 1) % 18446744073709551616) := k2
  have K3 : Hid (uh = ah % 18446744073709551616) := k3
  clear k0 k1 k2 k3
  by_cases c : l0 = 0
  · have c' : (l0 == 0) = true := by simpa using c
    have C : Hid (l0 = 0) := c
    clear c
    go_enter Tryd.func25, Tryd.ntmps25
    go_wp2_with fail
    go_quiet (fail)
    go_wp2
    exact bodyPost_ret (v := .agg #[.bool true, .int .u64 l0, .int .u64 (n1 + 1), .int .u64 0, .int .u64 0]) (by simp [results, Tryd.results25, go_sem]) rfl
      ⟨_, rfl, ⟨l0, n1 + 1, 0, 0, rfl, by unfold U; omega, by unfold U; omega, by unfold U; omega, by unfold U; omega, by rw [PS4]; have := Ha.out; have := K0.out; have := K1.out; have := K2.out; have := K3.out; have := C.out; omega⟩, below_drewN (by go_grown) _⟩
  · have c' : (l0 == 0) = false := by simpa using c
    have C : Hid (l0 ≠ 0) := c
    clear c
    go_enter Tryd.func25, Tryd.ntmps25
    go_wp2_with fail
    go_quiet (fail)
    go_wp2
    exact bodyPost_ret (v := .agg #[.bool true, .int .u64 l0, .int .u64 n1, .int .u64 0, .int .u64 0]) (by simp [results, Tryd.results25, go_sem]) rfl
      ⟨_, rfl, ⟨l0, n1, 0, 0, rfl, by unfold U; omega, by unfold U; omega, by unfold U; omega, by unfold U; omega, by rw [PS4]; have := Ha.out; have := K0.out; have := K1.out; have := K2.out; have := K3.out; have := C.out; omega⟩, below_drewN (by go_grown) _⟩
theorem num_ref (a : Int) (ha : InW a) (w : World) :
    Calls Tryd.prog 25 #[wd a] w fun e w' => ∃ v, e = .returned v ∧ IsN v (decide (a < 0)) (a.natAbs : Int) ∧ Below w.heap.size w w' := by
  by_cases h : a < 0
  · have := num_down a ha h w
    rw [show (a.natAbs : Int) = -a by omega, decide_eq_true h]
    exact this
  · have := num_up a ha (by omega) w
    rw [show (a.natAbs : Int) = a by omega, decide_eq_false h]
    exact this
theorem prod_ref (a b : Int) (ha : InR a) (hb : InR b) (w : World) :
    Calls Tryd.prog 28 #[.int .i64 a, .int .i64 b] w fun e w' => e = .returned (wd (a * b)) ∧ Below w.heap.size w w' := by
  have hw : InW (a * b) := by
    have h1 := prod_size a b ha hb
    have h2 := prod_sign a b
    rw [h2]; unfold InW sg; split <;> omega
  have hs : sv (Fx.differ a b) ((a.natAbs * b.natAbs : Nat) : Int) = a * b := by
    rw [prod_sign a b]; unfold sv sg; rfl
  obtain ⟨h, l, e, h1, h2, l1, l2, H⟩ := words hw
  rw [e]
  have s2 : ∀ (v : Value), IsN v (Fx.differ a b) ((a.natAbs * b.natAbs : Nat) : Int) → ∀ W : World, Calls Tryd.prog 29 #[v] W fun e w' => e = .returned (.agg #[.int .i64 h, .int .u64 l]) ∧ Below W.heap.size W w' := by
    intro v hv W
    have := wide_ref v _ _ hv W
    rw [hs, wr_in hw, e] at this
    exact this
  clear e
  go_enter Tryd.func28, Tryd.ntmps28
  go_wp2_with fail
  refine (times_any a b ha hb _).mono ?_
  rintro e' w1 ⟨v, rfl, hv, hb1⟩
  have hB1 : Below w.heap.size w w1 := Below.trans (by go_grown) (hb1.mono (by first | omega | (simp; try omega)))
  go_wp2_with fail
  refine (s2 v hv _).mono ?_
  rintro e' w2 ⟨rfl, hb2⟩
  have q0 : w1.cell? ⟨w.heap.size, 0, none⟩ = some (.int .i64 0) := keep hb1 (by simp [go_sem])
  have q1 : w1.cell? ⟨w.heap.size, 1, none⟩ = some (.int .u64 0) := keep hb1 (by simp [go_sem])
  have z0 : w1.frozen? ⟨w.heap.size, 0, none⟩ = false := keepf hb1 (v := .int .i64 0) (by simp [go_sem]) (by simp [go_sem])
  have z1 : w1.frozen? ⟨w.heap.size, 1, none⟩ = false := keepf hb1 (v := .int .u64 0) (by simp [go_sem]) (by simp [go_sem])
  have q0' := keep hb2 q0
  have q1' := keep hb2 q1
  have z0' := keepf hb2 q0 z0
  have z1' := keepf hb2 q1 z1
  have hB2 : Below w.heap.size w w2 := hB1.trans (hb2.mono hB1.size)
  clear hb1 hb2
  go_wp2
  obtain ⟨f0, f1⟩ := two w2 w.heap.size (.int .i64 h) (.int .u64 l) q0' q1'
  exact bodyPost_ret (v := .agg #[.int .i64 h, .int .u64 l]) (by simp [results, Tryd.results28, go_sem, f0, f1]) rfl ⟨rfl, by go_grown⟩
end Go.Proofs.YtdbndpcbejofkaaDoor.Wd
