/- The law FixWhole: whole numbers that are not too great are reckoned as whole numbers: for all such numbers. -/
import Derived.Test.YtokjokgmmkancabDoorNamed
namespace Go.Proofs.YtokjokgmmkancabDoor.Fx
open Go.RowKit Kn
set_option linter.unusedVariables false
def cmpI (a b : Int) : Int := if a < b then -1 else if b < a then 1 else 0
theorem ofI (x : Int) (h : -2147483648 ≤ x ∧ x ≤ 2147483647) : hold (x * 4294967296) = x * 4294967296 := hold_in (by omega) (by omega)
theorem compare_any (a b c : Int) (hc : cmpI a b = c) (w : World) :
    Calls Tryd.prog 22 #[.int .i64 a, .int .i64 b] w fun e w' => e = .returned (.int .i64 c) ∧ w' = w := by
  have H : Hid (cmpI a b = c) := hc
  clear hc
  rcases Int.lt_or_le a b with h | h
  all_goals
    go_enter Tryd.func22, Tryd.ntmps22
    go_wp2
    all_goals
      go_ret
      refine ⟨ret_int ?_, rfl⟩
      rw [← H.out]
      unfold cmpI
      split <;> (try split) <;> omega
theorem cmp_at (a b c : Int) (hc : cmpI a b = c) (w : World) :
    Calls Tryd.prog 11 #[.int .i64 a, .int .i64 b] w fun e w' => e = .returned (.int .i64 c) ∧ w' = w := by
  have H : Hid (cmpI a b = c) := hc
  clear hc
  go_enter Tryd.func11, Tryd.ntmps11
  go_wp2_with (go_at_call 22; refine (compare_any a b c H.out _).mono ?_; rintro e w' ⟨rfl, rfl⟩)
  go_ret
  exact ⟨rfl, rfl⟩
theorem lawcmp_at (a b c : Int) (hc : cmpI a b = c) (w : World) :
    Calls Tryd.prog 12 #[.int .i64 a, .int .i64 b] w fun e w' => e = .returned (.int .i64 c) ∧ w' = w := by
  have H : Hid (cmpI a b = c) := hc
  clear hc
  go_enter Tryd.func12, Tryd.ntmps12
  go_wp2
  all_goals
    go_ret
    refine ⟨ret_int ?_, rfl⟩
    rw [← H.out]
    unfold cmpI
    split <;> (try split) <;> omega
theorem whole_at (x y p X Y S D P c : Int) (hx : -32768 ≤ x ∧ x ≤ 32767) (hy : -32768 ≤ y ∧ y ≤ 32767) (ep : x * y = p) (hp : -1073741824 ≤ p ∧ p ≤ 1073741824)
    (hX : InR X) (hY : InR Y) (hP : InR P)
    (E : Hid (hold (x * 4294967296) = X ∧ hold (y * 4294967296) = Y ∧ hold ((x + y) * 4294967296) = S ∧ hold ((x - y) * 4294967296) = D ∧ hold (p * 4294967296) = P ∧ hold (X + Y) = S ∧ hold (X - Y) = D ∧ mulI X Y = P ∧ (y ≠ 0 → divI P Y = X) ∧ cmpI X Y = c ∧ cmpI x y = c)) (w : World) :
    Calls Tryd.prog 4 #[.int .i16 x, .int .i16 y] w fun e w' => e = .returned (.bool true) ∧ Below w.heap.size w w' := by
  have hx' : InR x := by unfold InR; omega
  have hy' : InR y := by unfold InR; omega
  have hs' : InR (x + y) := by unfold InR; omega
  have hd' : InR (x - y) := by unfold InR; omega
  have hp' : InR p := by unfold InR; omega
  by_cases hz : y = 0
  · have hz' : (y == 0) = true := by simpa using hz
    clear hz
    go_enter Tryd.func4, Tryd.ntmps4
    go_wp2_with fail
    refine (awake_any _).mono ?_
    rintro e w1 ⟨rfl, hb1⟩
    go_wp2_with fail
    refine (of_at x X hx' E.out.1 _).mono ?_
    rintro e w2 ⟨rfl, rfl⟩
    go_wp2_with fail
    refine (of_at y Y hy' E.out.2.1 _).mono ?_
    rintro e w2 ⟨rfl, rfl⟩
    go_wp2_with fail
    refine (add_at X Y S hX hY E.out.2.2.2.2.2.1 _).mono ?_
    rintro e w2 ⟨rfl, rfl⟩
    go_wp2_with fail
    refine (of_at (x + y) S hs' E.out.2.2.1 _).mono ?_
    rintro e w2 ⟨rfl, rfl⟩
    go_wp2_with fail
    refine (of_at x X hx' E.out.1 _).mono ?_
    rintro e w2 ⟨rfl, rfl⟩
    go_wp2_with fail
    refine (of_at y Y hy' E.out.2.1 _).mono ?_
    rintro e w2 ⟨rfl, rfl⟩
    go_wp2_with fail
    refine (sub_at X Y D hX hY E.out.2.2.2.2.2.2.1 _).mono ?_
    rintro e w2 ⟨rfl, rfl⟩
    go_wp2_with fail
    refine (of_at (x - y) D hd' E.out.2.2.2.1 _).mono ?_
    rintro e w2 ⟨rfl, rfl⟩
    go_wp2_with fail
    refine (of_at x X hx' E.out.1 _).mono ?_
    rintro e w2 ⟨rfl, rfl⟩
    go_wp2_with fail
    refine (of_at y Y hy' E.out.2.1 _).mono ?_
    rintro e w2 ⟨rfl, rfl⟩
    go_wp2_with fail
    refine (mul_at X Y P hX hY E.out.2.2.2.2.2.2.2.1 _).mono ?_
    rintro e w2 ⟨rfl, rfl⟩
    go_wp2_with fail
    refine (of_at p P hp' E.out.2.2.2.2.1 _).mono ?_
    rintro e w2 ⟨rfl, rfl⟩
    go_wp2_with fail
    refine (of_at x X hx' E.out.1 _).mono ?_
    rintro e w2 ⟨rfl, rfl⟩
    go_wp2_with fail
    refine (of_at y Y hy' E.out.2.1 _).mono ?_
    rintro e w2 ⟨rfl, rfl⟩
    go_wp2_with fail
    refine (cmp_at X Y c E.out.2.2.2.2.2.2.2.2.2.1 _).mono ?_
    rintro e w2 ⟨rfl, rfl⟩
    go_wp2_with fail
    refine (lawcmp_at x y c E.out.2.2.2.2.2.2.2.2.2.2 _).mono ?_
    rintro e w2 ⟨rfl, rfl⟩
    go_wp2
    go_ret
    exact ⟨rfl, hb1⟩
  · have hz' : (y == 0) = false := by simpa using hz
    have hz : Hid (y ≠ 0) := hz
    go_enter Tryd.func4, Tryd.ntmps4
    go_wp2_with fail
    refine (awake_any _).mono ?_
    rintro e w1 ⟨rfl, hb1⟩
    go_wp2_with fail
    refine (of_at x X hx' E.out.1 _).mono ?_
    rintro e w2 ⟨rfl, rfl⟩
    go_wp2_with fail
    refine (of_at y Y hy' E.out.2.1 _).mono ?_
    rintro e w2 ⟨rfl, rfl⟩
    go_wp2_with fail
    refine (add_at X Y S hX hY E.out.2.2.2.2.2.1 _).mono ?_
    rintro e w2 ⟨rfl, rfl⟩
    go_wp2_with fail
    refine (of_at (x + y) S hs' E.out.2.2.1 _).mono ?_
    rintro e w2 ⟨rfl, rfl⟩
    go_wp2_with fail
    refine (of_at x X hx' E.out.1 _).mono ?_
    rintro e w2 ⟨rfl, rfl⟩
    go_wp2_with fail
    refine (of_at y Y hy' E.out.2.1 _).mono ?_
    rintro e w2 ⟨rfl, rfl⟩
    go_wp2_with fail
    refine (sub_at X Y D hX hY E.out.2.2.2.2.2.2.1 _).mono ?_
    rintro e w2 ⟨rfl, rfl⟩
    go_wp2_with fail
    refine (of_at (x - y) D hd' E.out.2.2.2.1 _).mono ?_
    rintro e w2 ⟨rfl, rfl⟩
    go_wp2_with fail
    refine (of_at x X hx' E.out.1 _).mono ?_
    rintro e w2 ⟨rfl, rfl⟩
    go_wp2_with fail
    refine (of_at y Y hy' E.out.2.1 _).mono ?_
    rintro e w2 ⟨rfl, rfl⟩
    go_wp2_with fail
    refine (mul_at X Y P hX hY E.out.2.2.2.2.2.2.2.1 _).mono ?_
    rintro e w2 ⟨rfl, rfl⟩
    go_wp2_with fail
    refine (of_at p P hp' E.out.2.2.2.2.1 _).mono ?_
    rintro e w2 ⟨rfl, rfl⟩
    go_wp2_with fail
    refine (of_at p P hp' E.out.2.2.2.2.1 _).mono ?_
    rintro e w2 ⟨rfl, rfl⟩
    go_wp2_with fail
    refine (of_at y Y hy' E.out.2.1 _).mono ?_
    rintro e w2 ⟨rfl, rfl⟩
    go_wp2_with fail
    refine (div_at P Y X hP hY (E.out.2.2.2.2.2.2.2.2.1 hz.out) _).mono ?_
    rintro e w3 ⟨rfl, k, rfl⟩
    go_wp2_with fail
    refine (of_at x X hx' E.out.1 _).mono ?_
    rintro e w2 ⟨rfl, rfl⟩
    go_wp2_with fail
    refine (of_at x X hx' E.out.1 _).mono ?_
    rintro e w2 ⟨rfl, rfl⟩
    go_wp2_with fail
    refine (of_at y Y hy' E.out.2.1 _).mono ?_
    rintro e w2 ⟨rfl, rfl⟩
    go_wp2_with fail
    refine (cmp_at X Y c E.out.2.2.2.2.2.2.2.2.2.1 _).mono ?_
    rintro e w2 ⟨rfl, rfl⟩
    go_wp2_with fail
    refine (lawcmp_at x y c E.out.2.2.2.2.2.2.2.2.2.2 _).mono ?_
    rintro e w2 ⟨rfl, rfl⟩
    go_wp2
    go_ret
    exact ⟨rfl, below_drewN hb1 _⟩
theorem cmpI_scale (x y : Int) : cmpI (x * 4294967296) (y * 4294967296) = cmpI x y := by
  unfold cmpI
  split <;> split <;> (try split) <;> (try split) <;> omega
theorem divI_whole (x y : Int) (hx : -32768 ≤ x ∧ x ≤ 32767) (hy : -32768 ≤ y ∧ y ≤ 32767) (hz : y ≠ 0) : divI (x * y * 4294967296) (y * 4294967296) = x * 4294967296 := by
  have hn : (y * 4294967296).natAbs = y.natAbs * 4294967296 := Int.natAbs_mul y 4294967296
  have hr : hold (x * 4294967296) = x * 4294967296 := hold_in (by omega) (by omega)
  by_cases h : 0 < y
  · rw [divI_pos _ _ (by omega), hn]
    have e : x * y * 4294967296 * 4294967296 = (x * 4294967296) * ((y.natAbs * 4294967296 : Nat) : Int) := by
      rw [Int.natCast_mul, Int.natAbs_of_nonneg (by omega), Int.mul_assoc x y, Int.mul_comm y, ← Int.mul_assoc, Int.mul_assoc]
      rfl
    rw [e, rnd_mul _ _ (by omega), hr]
  · rw [divI_neg _ _ (by omega), hn]
    have e : -(x * y * 4294967296 * 4294967296) = (x * 4294967296) * ((y.natAbs * 4294967296 : Nat) : Int) := by
      rw [Int.natCast_mul, Int.ofNat_natAbs_of_nonpos (by omega), Int.mul_assoc x y, Int.mul_comm y, ← Int.mul_assoc, Int.mul_assoc, Int.neg_mul, Int.mul_neg]
      rfl
    rw [e, rnd_mul _ _ (by omega), hr]
theorem whole_any (x y : Int) (hx : -32768 ≤ x ∧ x ≤ 32767) (hy : -32768 ≤ y ∧ y ≤ 32767) (w : World) :
    Calls Tryd.prog 4 #[.int .i16 x, .int .i16 y] w fun e w' => e = .returned (.bool true) ∧ Below w.heap.size w w' := by
  have hp : -1073741824 ≤ x * y ∧ x * y ≤ 1073741824 := by
    have := Nat.mul_le_mul (show x.natAbs ≤ 32768 by omega) (show y.natAbs ≤ 32768 by omega)
    have := Int.natAbs_mul x y
    omega
  refine whole_at x y (x * y) (x * 4294967296) (y * 4294967296) ((x + y) * 4294967296) ((x - y) * 4294967296) (x * y * 4294967296) (cmpI x y) hx hy rfl hp (by unfold InR; omega) (by unfold InR; omega) (by unfold InR; omega) ?_ w
  refine ⟨ofI _ (by omega), ofI _ (by omega), ofI _ (by omega), ofI _ (by omega), ofI _ (by omega), ?_, ?_, ?_, fun hz => divI_whole x y hx hy hz, cmpI_scale x y, rfl⟩
  · rw [← Int.add_mul]; exact ofI _ (by omega)
  · rw [← Int.sub_mul]; exact ofI _ (by omega)
  · rw [mulI_rnd]
    have e : x * 4294967296 * (y * 4294967296) = (x * y * 4294967296) * ((4294967296 : Nat) : Int) := by
      rw [Int.mul_assoc x, Int.mul_comm 4294967296 (y * 4294967296), ← Int.mul_assoc x, ← Int.mul_assoc x]
      rfl
    rw [e, rnd_mul _ _ (by omega)]
    exact ofI _ (by omega)
end Go.Proofs.YtokjokgmmkancabDoor.Fx
