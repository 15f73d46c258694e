/- The reference's sum, difference, product, quotient of two Fix: as whole numbers. -/
import Derived.Test.YtknadgffflhlgaaRefA
import Derived.Test.YtknadgffflhlgaaRefH
import Derived.Test.YtknadgffflhlgaaRefI
import Derived.Test.YtknadgffflhlgaaDiv64
import Derived.Test.YtknadgffflhlgaaFacts
namespace Go.Proofs.Ytknadgffflhlgaa.Rf
open Go.RowKit Fx
set_option linter.unusedVariables false
set_option linter.unusedSimpArgs false
theorem rqI_nat (x d : Nat) : rqI (x : Int) (d : Int) = ((rq x d : Nat) : Int) := by
  unfold rqI rq
  rw [← Int.natCast_emod, ← Int.natCast_ediv]
  generalize x % d = r
  generalize x / d = q
  split <;> split <;> omega
theorem times_any (a b : Int) (ha : InR a) (hb : InR b) (w : World) :
    Calls Try.prog 51 #[.int .i64 a, .int .i64 b] w fun e w' => ∃ v, e = .returned v ∧ IsN v (Fx.differ a b) ((a.natAbs * b.natAbs : Nat) : Int) ∧ Below w.heap.size w w' := by
  obtain ⟨x, ex⟩ : ∃ x : Int, (a.natAbs : Int) = x := ⟨_, rfl⟩
  obtain ⟨y, ey⟩ : ∃ y : Int, (b.natAbs : Int) = y := ⟨_, rfl⟩
  have hx : 0 ≤ x ∧ x ≤ 9223372036854775808 := by unfold InR at ha; omega
  have hy : 0 ≤ y ∧ y ≤ 9223372036854775808 := by unfold InR at hb; omega
  have hsp := times_split x y (x % 4294967296) (x / 4294967296) (y % 4294967296) (y / 4294967296) (by omega) (by omega)
  have hxy : x * y ≤ 9223372036854775808 * 9223372036854775808 := Int.mul_le_mul hx.2 hy.2 hy.1 (by omega)
  rw [Int.natCast_mul, ex, ey]
  exact Times_low a b x y (x % 4294967296) (x / 4294967296) (y % 4294967296) (y / 4294967296) _ _ _ _ (x * y) (Fx.differ a b) ha hb ⟨ex, ey⟩ (by show _ = _; unfold Fx.differ; cases decide (a < 0) <;> cases decide (b < 0) <;> rfl)
    (Kn.maskI x (by omega) (by omega)) rfl (Kn.maskI y (by omega) (by omega)) rfl hx hy (by omega) (by omega) (by omega) (by omega) rfl rfl rfl rfl
    (half_mul _ _ (by omega) (by omega)) (half_mul _ _ (by omega) (by omega)) (half_mul _ _ (by omega) (by omega)) (half_mul _ _ (by omega) (by omega)) ⟨hsp.symm, by omega⟩ w
theorem divided_any (v : Value) (s : Bool) (x by_ : Int) (hv : IsN v s x) (hby : InR by_) (h0 : by_ ≠ 0) (w : World) :
    Calls Try.prog 49 #[v, .int .i64 by_] w fun e w' => ∃ u, e = .returned u ∧ IsN u (s != decide (by_ < 0)) (rqI x (by_.natAbs : Int)) ∧ Below w.heap.size w w' := by
  have hr := hv.rng
  obtain ⟨a0, a1, a2, a3, rfl, p0, p1, p2, p3, hX⟩ := hv
  exact Divided_low s a0 a1 a2 a3 p0 p1 p2 p3 by_ (by_.natAbs : Int) hby (by unfold InR at hby; omega) rfl x ⟨hX, hr.1, hr.2⟩ _ (by show _ = _; cases s <;> cases decide (by_ < 0) <;> rfl) w
theorem halved_any (v : Value) (s : Bool) (x : Int) (hv : IsN v s x) (w : World) :
    Calls Try.prog 50 #[v, .int .i64 32] w fun e w' => ∃ u, e = .returned u ∧ IsN u s (rqI x 4294967296) ∧ Below w.heap.size w w' := by
  have hr := hv.rng
  obtain ⟨a0, a1, a2, a3, rfl, p0, p1, p2, p3, hX⟩ := hv
  exact Halved_low s a0 a1 a2 a3 p0 p1 p2 p3 32 32 ⟨rfl, by omega⟩ (by omega) x ⟨hX, hr.1, hr.2⟩ w
theorem sv_from (a : Int) : sv (decide (a < 0)) (a.natAbs : Int) = a := by
  unfold sv
  by_cases h : a < 0
  · rw [if_pos (by simpa using h)]; omega
  · rw [if_neg (by simpa using h)]; omega
theorem sv_turn (s : Bool) (x : Int) : sv (!s) x = -sv s x := by
  unfold sv; cases s <;> simp
theorem add_ref (a b : Int) (ha : InR a) (hb : InR b) (y : Int) (ey : hold (a + b) = y) (w : World) :
    Calls Try.prog 27 #[.int .i64 a, .int .i64 b] w fun e w' => e = .returned (.int .i64 y) ∧ Below w.heap.size w w' := by
  have E : Hid (hold (a + b) = y) := ey
  clear ey
  go_enter Try.func27, Try.ntmps27
  go_wp2_with fail
  refine (from_any a ha _).mono ?_
  rintro e w1 ⟨v, rfl, hv, hb1⟩
  go_wp2_with fail
  refine (from_any b hb _).mono ?_
  rintro e w2 ⟨u, rfl, hu, hb2⟩
  have hsm : (a.natAbs : Int) + (b.natAbs : Int) < 115792089237316195423570985008687907853269984665640564039457584007913129639936 := by unfold InR at ha hb; omega
  go_wp2_with fail
  refine (plus_any v u _ _ _ _ hv hu hsm _).mono ?_
  rintro e w3 ⟨z, r, m, rfl, hz, hs, hb3⟩
  clear hsm
  go_wp2_with fail
  refine (held_ref z r m hz _).mono ?_
  rintro e w4 ⟨rfl, hb4⟩
  go_wp2
  go_ret
  refine ⟨ret_int ?_, ?_⟩
  · rw [sv_from, sv_from]; exact E.out
  · have c1 := hb1.trans (hb2.mono hb1.size)
    have c2 := c1.trans (hb3.mono c1.size)
    exact c2.trans (hb4.mono c2.size)
theorem sub_ref (a b : Int) (ha : InR a) (hb : InR b) (y : Int) (ey : hold (a - b) = y) (w : World) :
    Calls Try.prog 18 #[.int .i64 a, .int .i64 b] w fun e w' => e = .returned (.int .i64 y) ∧ Below w.heap.size w w' := by
  have E : Hid (hold (a - b) = y) := ey
  clear ey
  go_enter Try.func18, Try.ntmps18
  go_wp2_with fail
  refine (from_any a ha _).mono ?_
  rintro e w1 ⟨v, rfl, hv, hb1⟩
  go_wp2_with fail
  refine (from_any b hb _).mono ?_
  rintro e w2 ⟨u, rfl, hu, hb2⟩
  go_wp2_with fail
  refine (turned_any u _ _ hu _).mono ?_
  rintro e w5 ⟨t, rfl, ht, hb5⟩
  have hsm : (a.natAbs : Int) + (b.natAbs : Int) < 115792089237316195423570985008687907853269984665640564039457584007913129639936 := by unfold InR at ha hb; omega
  go_wp2_with fail
  refine (plus_any v t _ _ _ _ hv ht hsm _).mono ?_
  rintro e w3 ⟨z, r, m, rfl, hz, hs, hb3⟩
  clear hsm
  go_wp2_with fail
  refine (held_ref z r m hz _).mono ?_
  rintro e w4 ⟨rfl, hb4⟩
  go_wp2
  go_ret
  refine ⟨ret_int ?_, ?_⟩
  · rw [sv_turn, sv_from, sv_from, ← Int.sub_eq_add_neg]; exact E.out
  · have c1 := hb1.trans (hb2.mono hb1.size)
    have c2 := c1.trans (hb5.mono c1.size)
    have c3 := c2.trans (hb3.mono c2.size)
    exact c3.trans (hb4.mono c3.size)
theorem mul_ref (a b : Int) (ha : InR a) (hb : InR b) (y : Int) (ey : mulI a b = y) (w : World) :
    Calls Try.prog 28 #[.int .i64 a, .int .i64 b] w fun e w' => e = .returned (.int .i64 y) ∧ Below w.heap.size w w' := by
  have E : Hid (mulI a b = y) := ey
  clear ey
  go_enter Try.func28, Try.ntmps28
  go_wp2_with fail
  refine (times_any a b ha hb _).mono ?_
  rintro e w1 ⟨v, rfl, hv, hb1⟩
  go_wp2_with fail
  refine (halved_any v _ _ hv _).mono ?_
  rintro e w2 ⟨u, rfl, hu, hb2⟩
  go_wp2_with fail
  refine (held_ref u _ _ hu _).mono ?_
  rintro e w3 ⟨rfl, hb3⟩
  go_wp2
  go_ret
  refine ⟨ret_int ?_, ?_⟩
  · rw [← E.out, show (4294967296 : Int) = ((4294967296 : Nat) : Int) from rfl, ← Int.natCast_mul, rqI_nat]
    rfl
  · have c1 := hb1.trans (hb2.mono hb1.size)
    exact c1.trans (hb3.mono c1.size)
theorem nought_ref (n z : Bool) (w : World) :
    Calls Try.prog 47 #[.bool n, .bool z] w fun e w' => e = .returned (.int .i64 (if z then 0 else lim n)) ∧ w' = w := by
  cases n <;> cases z
  all_goals
    go_enter Try.func47, Try.ntmps47
    go_wp2
    go_ret
    exact ⟨rfl, rfl⟩
end Go.Proofs.Ytknadgffflhlgaa.Rf
