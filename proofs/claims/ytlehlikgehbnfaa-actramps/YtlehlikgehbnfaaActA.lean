/- The lines of act: what each makes of a number and how steep it is there; lineOf, Of and Slope hand these back. -/
import Derived.Test.YtlehlikgehbnfaaActM
import Derived.Test.YtlehlikgehbnfaaDiv64
import Derived.Test.YtlehlikgehbnfaaRow
import Derived.Laws.EntriesVeiled
namespace Go.Proofs.Ytlehlikgehbnfaa.Fx
open Go.RowKit
set_option linter.unusedVariables false
set_option linter.unusedSimpArgs false
theorem bst {w w1 w2 : World} (h : Below w.heap.size w w1) (h2 : Below w1.heap.size w1 w2) : Below w.heap.size w w2 := h.trans (h2.mono h.size)
theorem bdrew (W : World) (m : Nat) : Below W.heap.size W (W.drewN m) := ⟨rfl, rfl, rfl, Nat.le_refl _, fun _ _ => rfl⟩
theorem neg_any (a : Int) (ha : InR a) (w : World) :
    Calls Try.prog 67 #[.int .i64 a] w fun e w' => e = .returned (.int .i64 (hold (-a))) ∧ w' = w := by
  go_enter Try.func67, Try.ntmps67
  go_wp2_with (go_at_call 75; refine (sub_any 0 a (by unfold InR; omega) ha _).mono ?_; rintro e w' ⟨rfl, rfl⟩)
  go_ret
  exact ⟨by simp, rfl⟩
theorem max_is {P : Program} {x y z : Int} (h : (if x < y then y else x) = z) (ts : Array TypeId) (t : TypeId) (w : World) : (Builtin.max_ ts t #[.int .i64 x, .int .i64 y]).run P w = .ok (.int .i64 z) w := by
  rw [run_max_int2, ← h]
theorem min_is {P : Program} {x y z : Int} (h : (if y < x then y else x) = z) (ts : Array TypeId) (t : TypeId) (w : World) : (Builtin.min_ ts t #[.int .i64 x, .int .i64 y]).run P w = .ok (.int .i64 z) w := by
  rw [run_min_int2, ← h]
theorem b1_any (x : Int) (hx : InR x) (w : World) :
    Calls Try.prog 36 #[.int .i64 x] w fun e w' => e = .returned (.int .i64 (bendI 1 x)) ∧ ∃ n, w' = w.drewN n := by
  obtain ⟨y, ey⟩ : ∃ y, (if x < 0 then 0 else x) = y := ⟨_, rfl⟩
  have k1 := max_is (P := Try.prog) ey
  have E : Hid (bendI 1 x = y) := (bend_1 x).trans ey
  clear ey
  go_enter Try.func36, Try.ntmps36
  go_wp2
  go_ret
  exact ⟨ret_int E.out.symm, 0, rfl⟩
theorem b2_any (x : Int) (hx : InR x) (w : World) :
    Calls Try.prog 38 #[.int .i64 x] w fun e w' => e = .returned (.int .i64 (bendI 2 x)) ∧ ∃ n, w' = w.drewN n := by
  rw [bend_2]
  by_cases h : 0 < x
  · rw [if_pos h]
    go_enter Try.func38, Try.ntmps38
    go_wp2
    go_ret
    exact ⟨rfl, 0, rfl⟩
  · rw [if_neg h, ← div8 hx]
    have h' : x ≤ 0 := by omega
    have c8 : ∀ W, Calls Try.prog 65 #[.int .i64 8] W fun e w' => e = .returned (.int .i64 34359738368) ∧ w' = W := fun W => of_any 8 (by unfold InR; omega) W
    have H : Hid (InR x) := hx
    clear hx h
    go_enter Try.func38, Try.ntmps38
    go_wp2_with fail
    refine (c8 _).mono ?_
    rintro e w1 ⟨rfl, rfl⟩
    go_wp2_with fail
    refine (div_any x 34359738368 H.out (by unfold InR; omega) _).mono ?_
    rintro e w2 ⟨rfl, m, rfl⟩
    go_wp2
    go_ret
    exact ⟨rfl, m, rfl⟩
theorem b3_any (x : Int) (hx : InR x) (w : World) :
    Calls Try.prog 40 #[.int .i64 x] w fun e w' => e = .returned (.int .i64 (bendI 3 x)) ∧ ∃ n, w' = w.drewN n := by
  obtain ⟨y, ey⟩ : ∃ y, (if x < -4294967296 then -4294967296 else x) = y := ⟨_, rfl⟩
  obtain ⟨z, ez⟩ : ∃ z, (if 4294967296 < y then 4294967296 else y) = z := ⟨_, rfl⟩
  have k1 := max_is (P := Try.prog) ey
  have k2 := min_is (P := Try.prog) ez
  have E : Hid (bendI 3 x = z) := by
    show _ = _
    rw [bend_3, ← ez, ← ey]
    repeat' split
    all_goals omega
  clear ey ez
  go_enter Try.func40, Try.ntmps40
  go_wp2
  go_ret
  exact ⟨ret_int E.out.symm, 0, rfl⟩
theorem b4_any (x : Int) (hx : InR x) (w : World) :
    Calls Try.prog 42 #[.int .i64 x] w fun e w' => e = .returned (.int .i64 (bendI 4 x)) ∧ ∃ n, w' = w.drewN n := by
  rw [bend_4]
  by_cases h : x < 0
  · rw [if_pos h]
    go_enter Try.func42, Try.ntmps42
    go_wp2_with (go_at_call 67; refine (neg_any x hx _).mono ?_; rintro e w' ⟨rfl, rfl⟩)
    go_ret
    exact ⟨rfl, 0, rfl⟩
  · rw [if_neg h]
    have h' : 0 ≤ x := by omega
    go_enter Try.func42, Try.ntmps42
    go_wp2
    go_ret
    exact ⟨rfl, 0, rfl⟩
theorem b5_any (x : Int) (hx : InR x) (w : World) :
    Calls Try.prog 44 #[.int .i64 x] w fun e w' => e = .returned (.int .i64 (bendI 5 x)) ∧ ∃ n, w' = w.drewN n := by
  obtain ⟨a, ea⟩ : ∃ a, by2 x = a := ⟨_, rfl⟩
  have ha : InR a := by rw [← ea]; exact by2_rng hx
  obtain ⟨b, eb⟩ : ∃ b, hold (a + 2147483648) = b := ⟨_, rfl⟩
  obtain ⟨y, ey⟩ : ∃ y, (if b < 0 then 0 else b) = y := ⟨_, rfl⟩
  obtain ⟨z, ez⟩ : ∃ z, (if 4294967296 < y then 4294967296 else y) = z := ⟨_, rfl⟩
  have k1 := max_is (P := Try.prog) ey
  have k2 := min_is (P := Try.prog) ez
  have c2 : ∀ W, Calls Try.prog 65 #[.int .i64 2] W fun e w' => e = .returned (.int .i64 8589934592) ∧ w' = W := fun W => of_any 2 (by unfold InR; omega) W
  have cd := div_any x 8589934592 hx (by unfold InR; omega) w
  rw [div2 hx, ea] at cd
  have ca : ∀ W, Calls Try.prog 68 #[.int .i64 a, .int .i64 2147483648] W fun e w' => e = .returned (.int .i64 b) ∧ w' = W := fun W => by rw [← eb]; exact add_any a 2147483648 ha (by unfold InR; omega) W
  have E : Hid (bendI 5 x = z) := by
    show _ = _
    rw [bend_5, ea, eb, ← ez, ← ey]
    repeat' split
    all_goals omega
  clear ey ez ea eb hx ha
  go_enter Try.func44, Try.ntmps44
  go_wp2_with fail
  refine (c2 _).mono ?_
  rintro e w1 ⟨rfl, rfl⟩
  go_wp2_with fail
  refine cd.mono ?_
  rintro e w2 ⟨rfl, m, rfl⟩
  go_wp2_with fail
  refine (ca _).mono ?_
  rintro e w3 ⟨rfl, rfl⟩
  clear c2 cd ca
  go_wp2
  go_ret
  exact ⟨ret_int E.out.symm, m, rfl⟩
theorem inside_any (x : Int) (b : Bool) (hb : decide (-4294967296 < x ∧ x < 4294967296) = b) (w : World) :
    Calls Try.prog 66 #[.int .i64 x] w fun e w' => e = .returned (.bool b) ∧ w' = w := by
  by_cases h1 : -4294967296 < x
  · by_cases h2 : x < 4294967296
    · rw [decide_eq_true ⟨h1, h2⟩] at hb
      subst hb
      go_enter Try.func66, Try.ntmps66
      go_wp2
      go_ret
      exact ⟨rfl, rfl⟩
    · rw [decide_eq_false fun h => h2 h.2] at hb
      subst hb
      have h2' : 4294967296 ≤ x := by omega
      go_enter Try.func66, Try.ntmps66
      go_wp2
      go_ret
      exact ⟨rfl, rfl⟩
  · rw [decide_eq_false fun h => h1 h.1] at hb
    subst hb
    have h1' : x ≤ -4294967296 := by omega
    go_enter Try.func66, Try.ntmps66
    go_wp2
    go_ret
    exact ⟨rfl, rfl⟩
theorem s1_any (x : Int) (w : World) :
    Calls Try.prog 37 #[.int .i64 x] w fun e w' => e = .returned (.int .i64 (slopeI 1 x)) ∧ w' = w := by
  rw [slope_1]
  by_cases h : 0 < x
  · rw [if_pos h]
    go_enter Try.func37, Try.ntmps37
    go_wp2
    go_ret
    exact ⟨rfl, rfl⟩
  · rw [if_neg h]
    have h' : x ≤ 0 := by omega
    go_enter Try.func37, Try.ntmps37
    go_wp2
    go_ret
    exact ⟨rfl, rfl⟩
theorem s2_any (x : Int) (w : World) :
    Calls Try.prog 39 #[.int .i64 x] w fun e w' => e = .returned (.int .i64 (slopeI 2 x)) ∧ w' = w := by
  rw [slope_2]
  by_cases h : 0 < x
  · rw [if_pos h]
    go_enter Try.func39, Try.ntmps39
    go_wp2
    go_ret
    exact ⟨rfl, rfl⟩
  · rw [if_neg h]
    have h' : x ≤ 0 := by omega
    go_enter Try.func39, Try.ntmps39
    go_wp2
    go_ret
    exact ⟨rfl, rfl⟩
theorem s3_any (x : Int) (w : World) :
    Calls Try.prog 41 #[.int .i64 x] w fun e w' => e = .returned (.int .i64 (slopeI 3 x)) ∧ w' = w := by
  rw [slope_3]
  by_cases h : -4294967296 < x ∧ x < 4294967296
  · rw [if_pos h]
    have c := inside_any x true (decide_eq_true h)
    clear h
    go_enter Try.func41, Try.ntmps41
    go_wp2_with (go_at_call 66; refine (c _).mono ?_; rintro e w' ⟨rfl, rfl⟩)
    go_ret
    exact ⟨rfl, rfl⟩
  · rw [if_neg h]
    have c := inside_any x false (decide_eq_false h)
    clear h
    go_enter Try.func41, Try.ntmps41
    go_wp2_with (go_at_call 66; refine (c _).mono ?_; rintro e w' ⟨rfl, rfl⟩)
    go_ret
    exact ⟨rfl, rfl⟩
theorem s4_any (x : Int) (w : World) :
    Calls Try.prog 43 #[.int .i64 x] w fun e w' => e = .returned (.int .i64 (slopeI 4 x)) ∧ w' = w := by
  rw [slope_4]
  by_cases h : 0 < x
  · rw [if_pos h]
    go_enter Try.func43, Try.ntmps43
    go_wp2
    go_ret
    exact ⟨rfl, rfl⟩
  · rw [if_neg h]
    have h' : x ≤ 0 := by omega
    by_cases h2 : x < 0
    · rw [if_pos h2]
      go_enter Try.func43, Try.ntmps43
      go_wp2
      go_ret
      exact ⟨rfl, rfl⟩
    · rw [if_neg h2]
      have h2' : 0 ≤ x := by omega
      go_enter Try.func43, Try.ntmps43
      go_wp2
      go_ret
      exact ⟨rfl, rfl⟩
theorem s5_any (x : Int) (w : World) :
    Calls Try.prog 45 #[.int .i64 x] w fun e w' => e = .returned (.int .i64 (slopeI 5 x)) ∧ w' = w := by
  rw [slope_5]
  by_cases h : -4294967296 < x ∧ x < 4294967296
  · rw [if_pos h]
    have c := inside_any x true (decide_eq_true h)
    clear h
    go_enter Try.func45, Try.ntmps45
    go_wp2_with (go_at_call 66; refine (c _).mono ?_; rintro e w' ⟨rfl, rfl⟩)
    go_ret
    exact ⟨rfl, rfl⟩
  · rw [if_neg h]
    have c := inside_any x false (decide_eq_false h)
    clear h
    go_enter Try.func45, Try.ntmps45
    go_wp2_with (go_at_call 66; refine (c _).mono ?_; rintro e w' ⟨rfl, rfl⟩)
    go_ret
    exact ⟨rfl, rfl⟩
set_option maxHeartbeats 1000000 in
theorem line1 (w : World) :
    Calls Try.prog 21 #[.int .i64 1] w fun e w' => e = .returned (.tuple #[.agg #[.func (.func 36) #[] #[], .func (.func 37) #[] #[]], .bool true]) ∧ Below w.heap.size w w' := by
  go_enter Try.func21, Try.ntmps21
  go_wp2
  exact bodyPost_ret (v := .tuple #[.agg #[.func (.func 36) #[] #[], .func (.func 37) #[] #[]], .bool true]) (by simp [results, Try.results21, go_sem]) rfl ⟨rfl, by go_grown⟩
set_option maxHeartbeats 1000000 in
theorem line2 (w : World) :
    Calls Try.prog 21 #[.int .i64 2] w fun e w' => e = .returned (.tuple #[.agg #[.func (.func 38) #[] #[], .func (.func 39) #[] #[]], .bool true]) ∧ Below w.heap.size w w' := by
  go_enter Try.func21, Try.ntmps21
  go_wp2
  exact bodyPost_ret (v := .tuple #[.agg #[.func (.func 38) #[] #[], .func (.func 39) #[] #[]], .bool true]) (by simp [results, Try.results21, go_sem]) rfl ⟨rfl, by go_grown⟩
set_option maxHeartbeats 1000000 in
theorem line3 (w : World) :
    Calls Try.prog 21 #[.int .i64 3] w fun e w' => e = .returned (.tuple #[.agg #[.func (.func 40) #[] #[], .func (.func 41) #[] #[]], .bool true]) ∧ Below w.heap.size w w' := by
  go_enter Try.func21, Try.ntmps21
  go_wp2
  exact bodyPost_ret (v := .tuple #[.agg #[.func (.func 40) #[] #[], .func (.func 41) #[] #[]], .bool true]) (by simp [results, Try.results21, go_sem]) rfl ⟨rfl, by go_grown⟩
set_option maxHeartbeats 1000000 in
theorem line4 (w : World) :
    Calls Try.prog 21 #[.int .i64 4] w fun e w' => e = .returned (.tuple #[.agg #[.func (.func 42) #[] #[], .func (.func 43) #[] #[]], .bool true]) ∧ Below w.heap.size w w' := by
  go_enter Try.func21, Try.ntmps21
  go_wp2
  exact bodyPost_ret (v := .tuple #[.agg #[.func (.func 42) #[] #[], .func (.func 43) #[] #[]], .bool true]) (by simp [results, Try.results21, go_sem]) rfl ⟨rfl, by go_grown⟩
set_option maxHeartbeats 1000000 in
theorem line5 (w : World) :
    Calls Try.prog 21 #[.int .i64 5] w fun e w' => e = .returned (.tuple #[.agg #[.func (.func 44) #[] #[], .func (.func 45) #[] #[]], .bool true]) ∧ Below w.heap.size w w' := by
  go_enter Try.func21, Try.ntmps21
  go_wp2
  exact bodyPost_ret (v := .tuple #[.agg #[.func (.func 44) #[] #[], .func (.func 45) #[] #[]], .bool true]) (by simp [results, Try.results21, go_sem]) rfl ⟨rfl, by go_grown⟩
set_option maxHeartbeats 1000000 in
theorem line_no (k : Int) (hk : k < 1 ∨ 5 < k) (w : World) :
    Calls Try.prog 21 #[.int .i64 k] w fun e w' => e = .returned (.tuple #[.agg #[.nilFunc, .nilFunc], .bool false]) ∧ Below w.heap.size w w' := by
  have h1 : (k == 1) = false := by simp; omega
  have h2 : (k == 2) = false := by simp; omega
  have h3 : (k == 3) = false := by simp; omega
  have h4 : (k == 4) = false := by simp; omega
  have h5 : (k == 5) = false := by simp; omega
  clear hk
  go_enter Try.func21, Try.ntmps21
  go_wp2
  exact bodyPost_ret (v := .tuple #[.agg #[.nilFunc, .nilFunc], .bool false]) (by simp [results, Try.results21, go_sem]) rfl ⟨rfl, by go_grown⟩
theorem line_yes (k : Int) (hk : 1 ≤ k ∧ k ≤ 5) : ∃ K1 K2 : FuncId, (∀ args W, (callFunc K1 args).run Try.prog W = .ok (.enter K1 args) W) ∧ (∀ args W, (callFunc K2 args).run Try.prog W = .ok (.enter K2 args) W)
    ∧ (∀ x, InR x → ∀ W, Calls Try.prog K1 #[.int .i64 x] W fun e w' => e = .returned (.int .i64 (bendI k x)) ∧ ∃ n, w' = W.drewN n) ∧ (∀ x W, Calls Try.prog K2 #[.int .i64 x] W fun e w' => e = .returned (.int .i64 (slopeI k x)) ∧ w' = W)
    ∧ ∀ w, Calls Try.prog 21 #[.int .i64 k] w fun e w' => e = .returned (.tuple #[.agg #[.func (.func K1) #[] #[], .func (.func K2) #[] #[]], .bool true]) ∧ Below w.heap.size w w' := by
  have : k = 1 ∨ k = 2 ∨ k = 3 ∨ k = 4 ∨ k = 5 := by omega
  rcases this with rfl | rfl | rfl | rfl | rfl
  · exact ⟨_, _, fun args W => by simp [go_sem], fun args W => by simp [go_sem], b1_any, s1_any, line1⟩
  · exact ⟨_, _, fun args W => by simp [go_sem], fun args W => by simp [go_sem], b2_any, s2_any, line2⟩
  · exact ⟨_, _, fun args W => by simp [go_sem], fun args W => by simp [go_sem], b3_any, s3_any, line3⟩
  · exact ⟨_, _, fun args W => by simp [go_sem], fun args W => by simp [go_sem], b4_any, s4_any, line4⟩
  · exact ⟨_, _, fun args W => by simp [go_sem], fun args W => by simp [go_sem], b5_any, s5_any, line5⟩
def okK (k : Int) : Prop := 1 ≤ k ∧ k ≤ 5
def kE (k : Int) : Int := if 1 ≤ k ∧ k ≤ 5 then 0 else 1
def ofV (k x : Int) : Int := if 1 ≤ k ∧ k ≤ 5 then bendI k x else 0
def slV (k x : Int) : Int := if 1 ≤ k ∧ k ≤ 5 then slopeI k x else 0
set_option maxHeartbeats 1000000 in
theorem aof_any (k x : Int) (hx : InR x) (w : World) :
    Calls Try.prog 10 #[.int .i64 k, .int .i64 x] w fun e w' => e = .returned (.tuple #[.int .i64 (ofV k x), .int .i64 (kE k)]) ∧ Below w.heap.size w w' := by
  unfold ofV kE
  by_cases hk : 1 ≤ k ∧ k ≤ 5
  · rw [if_pos hk, if_pos hk]
    obtain ⟨K1, K2, e1, e2, c1, c2, cl⟩ := line_yes k hk
    have H : Hid (InR x) := hx
    clear e2 hk hx
    go_enter Try.func10, Try.ntmps10
    go_wp2_with fail
    refine (cl w).mono ?_
    rintro e w1 ⟨rfl, hB1⟩
    have HB1 : Hid (Below w.heap.size w w1) := hB1
    clear hB1 cl
    go_wp2_with fail
    refine (c1 x H.out _).mono ?_
    rintro e w2 ⟨rfl, m, rfl⟩
    clear e1 c1 c2
    go_wp2
    exact bodyPost_ret (v := .tuple #[.int .i64 (bendI k x), .int .i64 0]) (by simp [results, Try.results10, go_sem]) rfl ⟨rfl, bst (bst HB1.out (by go_grown)) (bdrew _ m)⟩
  · rw [if_neg hk, if_neg hk]
    have cl := line_no k (by omega)
    clear hk hx
    go_enter Try.func10, Try.ntmps10
    go_wp2_with fail
    refine (cl w).mono ?_
    rintro e w1 ⟨rfl, hB1⟩
    have HB1 : Hid (Below w.heap.size w w1) := hB1
    clear hB1 cl
    go_wp2
    exact bodyPost_ret (v := .tuple #[.int .i64 0, .int .i64 1]) (by simp [results, Try.results10, go_sem]) rfl ⟨rfl, bst HB1.out (by go_grown)⟩
set_option maxHeartbeats 1000000 in
theorem aslope_any (k x : Int) (hx : InR x) (w : World) :
    Calls Try.prog 11 #[.int .i64 k, .int .i64 x] w fun e w' => e = .returned (.tuple #[.int .i64 (slV k x), .int .i64 (kE k)]) ∧ Below w.heap.size w w' := by
  unfold slV kE
  by_cases hk : 1 ≤ k ∧ k ≤ 5
  · rw [if_pos hk, if_pos hk]
    obtain ⟨K1, K2, e1, e2, c1, c2, cl⟩ := line_yes k hk
    have H : Hid (InR x) := hx
    clear e1 hk hx
    go_enter Try.func11, Try.ntmps11
    go_wp2_with fail
    refine (cl w).mono ?_
    rintro e w1 ⟨rfl, hB1⟩
    have HB1 : Hid (Below w.heap.size w w1) := hB1
    clear hB1 cl
    go_wp2_with fail
    refine (c2 x _).mono ?_
    rintro e w2 ⟨rfl, rfl⟩
    clear e2 c1 c2
    go_wp2
    exact bodyPost_ret (v := .tuple #[.int .i64 (slopeI k x), .int .i64 0]) (by simp [results, Try.results11, go_sem]) rfl ⟨rfl, bst HB1.out (by go_grown)⟩
  · rw [if_neg hk, if_neg hk]
    have cl := line_no k (by omega)
    clear hk hx
    go_enter Try.func11, Try.ntmps11
    go_wp2_with fail
    refine (cl w).mono ?_
    rintro e w1 ⟨rfl, hB1⟩
    have HB1 : Hid (Below w.heap.size w w1) := hB1
    clear hB1 cl
    go_wp2
    exact bodyPost_ret (v := .tuple #[.int .i64 0, .int .i64 1]) (by simp [results, Try.results11, go_sem]) rfl ⟨rfl, bst HB1.out (by go_grown)⟩
end Go.Proofs.Ytlehlikgehbnfaa.Fx
