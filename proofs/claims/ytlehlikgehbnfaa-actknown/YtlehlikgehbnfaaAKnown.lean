/- ActKnown: what chapter 9 says at the bends. -/
import Derived.Test.YtlehlikgehbnfaaActL
namespace Go.Proofs.Ytlehlikgehbnfaa.Wd
open Go.RowKit Fx
set_option linter.unusedVariables false
set_option linter.unusedSimpArgs false
theorem back_tn {D X D' X' : List Int} {v v' : Value} {W : World} (k : Int) (h : Tn D X v W) (h' : Tn D' X' v' W) (hD : RI D) (hX : RI X) (hD' : RI D') (hX' : RI X') :
    Calls Try.prog 12 #[.int .i64 k, v, v'] W fun e w' => ∃ u, e = .returned (.tuple #[u, .int .i64 (unbE k D X D' X')]) ∧ TRes w' W.heap.size u (unbD k D X D' X') (unbV k D X D' X') ∧ Below W.heap.size W w' := by
  obtain ⟨p, n, c, p2, n2, c2, rfl, h1, h2⟩ := h
  obtain ⟨p', n', c', p2', n2', c2', rfl, h1', h2'⟩ := h'
  exact aback_any k _ _ _ _ _ _ _ _ _ _ _ _ D X D' X' hD hX hD' hX' W h1 h2 h1' h2'
theorem all_tn {D X : List Int} {v : Value} {W : World} (k : Int) (h : Tn D X v W) (hD : RI D) (hX : RI X) :
    Calls Try.prog 13 #[.int .i64 k, v] W fun e w' => ∃ u, e = .returned (.tuple #[u, .int .i64 (bentE k D X)]) ∧ TRes w' W.heap.size u (bentD k D X) (bentV k D X) ∧ Below W.heap.size W w' := by
  obtain ⟨p, n, c, p2, n2, c2, rfl, h1, h2⟩ := h
  exact aall_any k _ _ _ _ _ _ D X hD hX W h1 h2
theorem kn1 : unbE 1 [2] [-1, 1] [2] [5, 5] = 0 ∧ unbD 1 [2] [-1, 1] [2] [5, 5] = [2] ∧ unbV 1 [2] [-1, 1] [2] [5, 5] = [0, 5] := by decide +kernel
theorem kn2 : unbE 1 [2] [-1, 1] [1] [5] = 4 ∧ unbD 1 [2] [-1, 1] [1] [5] = [] ∧ unbV 1 [2] [-1, 1] [1] [5] = [] := by decide +kernel
theorem kn3 : bentE 9 [2] [-1, 1] = 1 ∧ bentD 9 [2] [-1, 1] = [] ∧ bentV 9 [2] [-1, 1] = [] := by decide +kernel
theorem tn_two {W : World} {a b n m : Nat} {D X : List Int} (hn : D.length = n) (hm : X.length = m) (h1 : ∀ j v, (vals .i64 D)[j]? = some v → W.cell? ⟨a, j, none⟩ = some v) (h2 : ∀ j v, (vals .i64 X)[j]? = some v → W.cell? ⟨b, j, none⟩ = some v) : Tn D X (.agg #[.slice (some ⟨a, 0, none⟩) n n, .slice (some ⟨b, 0, none⟩) m m]) W := by
  subst hn hm
  refine ⟨_, _, _, _, _, _, rfl, .inr ⟨_, _, rfl, fun j u hj => ?_⟩, .inr ⟨_, _, rfl, fun j u hj => ?_⟩⟩
  · rw [addr_plus, Nat.zero_add]
    exact h1 j u hj
  · rw [addr_plus, Nat.zero_add]
    exact h2 j u hj
set_option maxRecDepth 8000 in
set_option maxHeartbeats 8000000 in
theorem aknown_walk (w : World) :
    Calls Try.prog 3 #[] w fun e w' => e = .returned (.bool true) ∧ Below w.heap.size w w' := by
  have HR : Hid (RI [2] ∧ RI [-1, 1] ∧ RI [5, 5] ∧ RI [1] ∧ RI [5]) := ⟨RI_kern (by decide +kernel), RI_kern (by decide +kernel), RI_kern (by decide +kernel), RI_kern (by decide +kernel), RI_kern (by decide +kernel)⟩
  have HF : Hid (Few [2] ∧ Few [0, 5]) := ⟨by unfold Few; simp, by unfold Few; simp⟩
  have k1 : Hid (∀ W, Calls Try.prog 10 #[.int .i64 0, .int .i64 1] W fun e w' => e = .returned (.tuple #[.int .i64 0, .int .i64 1]) ∧ Below W.heap.size W w') := fun W => by
    have c := aof_any 0 1 (by unfold InR; omega) W
    rw [show ofV 0 1 = 0 by decide +kernel, show kE 0 = 1 by decide +kernel] at c
    exact c
  have k2 : Hid (∀ W, Calls Try.prog 11 #[.int .i64 6, .int .i64 1] W fun e w' => e = .returned (.tuple #[.int .i64 0, .int .i64 1]) ∧ Below W.heap.size W w') := fun W => by
    have c := aslope_any 6 1 (by unfold InR; omega) W
    rw [show slV 6 1 = 0 by decide +kernel, show kE 6 = 1 by decide +kernel] at c
    exact c
  have k3 : Hid (∀ W, Calls Try.prog 10 #[.int .i64 4, .int .i64 (-9223372036854775808)] W fun e w' => e = .returned (.tuple #[.int .i64 9223372036854775807, .int .i64 0]) ∧ Below W.heap.size W w') := fun W => by
    have c := aof_any 4 (-9223372036854775808) (by unfold InR; omega) W
    rw [show ofV 4 (-9223372036854775808) = 9223372036854775807 by decide +kernel, show kE 4 = 0 by decide +kernel] at c
    exact c
  have k4 : Hid (∀ W, Calls Try.prog 11 #[.int .i64 3, .int .i64 4294967296] W fun e w' => e = .returned (.tuple #[.int .i64 0, .int .i64 0]) ∧ Below W.heap.size W w') := fun W => by
    have c := aslope_any 3 4294967296 (by unfold InR; omega) W
    rw [show slV 3 4294967296 = 0 by decide +kernel, show kE 3 = 0 by decide +kernel] at c
    exact c
  have k5 : Hid (∀ W, Calls Try.prog 11 #[.int .i64 3, .int .i64 4294967295] W fun e w' => e = .returned (.tuple #[.int .i64 4294967296, .int .i64 0]) ∧ Below W.heap.size W w') := fun W => by
    have c := aslope_any 3 4294967295 (by unfold InR; omega) W
    rw [show slV 3 4294967295 = 4294967296 by decide +kernel, show kE 3 = 0 by decide +kernel] at c
    exact c
  have k6 : Hid (∀ W, Calls Try.prog 10 #[.int .i64 5, .int .i64 0] W fun e w' => e = .returned (.tuple #[.int .i64 2147483648, .int .i64 0]) ∧ Below W.heap.size W w') := fun W => by
    have c := aof_any 5 0 (by unfold InR; omega) W
    rw [show ofV 5 0 = 2147483648 by decide +kernel, show kE 5 = 0 by decide +kernel] at c
    exact c
  have k7 : Hid (∀ W, Calls Try.prog 10 #[.int .i64 5, .int .i64 9223372036854775807] W fun e w' => e = .returned (.tuple #[.int .i64 4294967296, .int .i64 0]) ∧ Below W.heap.size W w') := fun W => by
    have c := aof_any 5 9223372036854775807 (by unfold InR; omega) W
    rw [show ofV 5 9223372036854775807 = 4294967296 by decide +kernel, show kE 5 = 0 by decide +kernel] at c
    exact c
  have k8 : Hid (∀ W, Calls Try.prog 10 #[.int .i64 5, .int .i64 (-4294967296)] W fun e w' => e = .returned (.tuple #[.int .i64 0, .int .i64 0]) ∧ Below W.heap.size W w') := fun W => by
    have c := aof_any 5 (-4294967296) (by unfold InR; omega) W
    rw [show ofV 5 (-4294967296) = 0 by decide +kernel, show kE 5 = 0 by decide +kernel] at c
    exact c
  have k9 : Hid (∀ W, Calls Try.prog 11 #[.int .i64 4, .int .i64 0] W fun e w' => e = .returned (.tuple #[.int .i64 0, .int .i64 0]) ∧ Below W.heap.size W w') := fun W => by
    have c := aslope_any 4 0 (by unfold InR; omega) W
    rw [show slV 4 0 = 0 by decide +kernel, show kE 4 = 0 by decide +kernel] at c
    exact c
  haveI : Nonempty World := ⟨w⟩
  go_enter Try.func3, Try.ntmps3
  go_wp2_with fail
  have HB_w : Hid (Below w.heap.size w w) := Below.refl _ _
  refine (awake9_any w).mono ?_
  rintro e wa ⟨rfl, hBa⟩
  have HB_wa : Hid (Below w.heap.size w wa) := bstep HB_w.out hBa
  clear hBa
  go_wp2_with fail
  refine (k1.out wa).mono ?_
  rintro e q1 ⟨rfl, hBq1⟩
  have HB_q1 : Hid (Below w.heap.size w q1) := bstep HB_wa.out hBq1
  clear hBq1 k1
  go_wp2_with fail
  refine (k2.out q1).mono ?_
  rintro e q2 ⟨rfl, hBq2⟩
  have HB_q2 : Hid (Below w.heap.size w q2) := bstep HB_q1.out hBq2
  clear hBq2 k2
  go_wp2_with fail
  refine (k3.out q2).mono ?_
  rintro e q3 ⟨rfl, hBq3⟩
  have HB_q3 : Hid (Below w.heap.size w q3) := bstep HB_q2.out hBq3
  clear hBq3 k3
  go_wp2_with fail
  refine (k4.out q3).mono ?_
  rintro e q4 ⟨rfl, hBq4⟩
  have HB_q4 : Hid (Below w.heap.size w q4) := bstep HB_q3.out hBq4
  clear hBq4 k4
  go_wp2_with fail
  refine (k5.out q4).mono ?_
  rintro e q5 ⟨rfl, hBq5⟩
  have HB_q5 : Hid (Below w.heap.size w q5) := bstep HB_q4.out hBq5
  clear hBq5 k5
  go_wp2_with fail
  refine (k6.out q5).mono ?_
  rintro e q6 ⟨rfl, hBq6⟩
  have HB_q6 : Hid (Below w.heap.size w q6) := bstep HB_q5.out hBq6
  clear hBq6 k6
  go_wp2_with fail
  refine (k7.out q6).mono ?_
  rintro e q7 ⟨rfl, hBq7⟩
  have HB_q7 : Hid (Below w.heap.size w q7) := bstep HB_q6.out hBq7
  clear hBq7 k7
  go_wp2_with fail
  refine (k8.out q7).mono ?_
  rintro e q8 ⟨rfl, hBq8⟩
  have HB_q8 : Hid (Below w.heap.size w q8) := bstep HB_q7.out hBq8
  clear hBq8 k8
  go_wp2_with fail
  refine (k9.out q8).mono ?_
  rintro e q9 ⟨rfl, hBq9⟩
  have HB_q9 : Hid (Below w.heap.size w q9) := bstep HB_q8.out hBq9
  clear hBq9 k9
  go_wp2_with fail
  generalize hWa : World.alloc _ _ = Wa
  have hLa : Below q9.heap.size q9 Wa := by rw [← hWa]; go_grown
  have HB_Wa : Hid (Below w.heap.size w Wa) := bstep HB_q9.out hLa
  have TT_v0 : Hid (Tn [2] [-1, 1] (.agg #[.slice (some ⟨q9.heap.size, 0, none⟩) 1 1, .slice (some ⟨q9.heap.size + 1, 0, none⟩) 2 2]) Wa) := tn_two rfl rfl (fun j v hj => by
    match j, hj with
    | 0, hj =>
      simp [vals] at hj
      subst hj
      rw [← hWa]
      simp [go_sem]
    | j + 1, hj => simp [vals] at hj) (fun j v hj => by
    match j, hj with
    | 0, hj =>
      simp [vals] at hj
      subst hj
      rw [← hWa]
      simp [go_sem]
    | 1, hj =>
      simp [vals] at hj
      subst hj
      rw [← hWa]
      simp [go_sem]
    | j + 2, hj => simp [vals] at hj)
  have XT_v0 : Hid (Cel Wa (q9.heap.size + 2) (.slice (some ⟨q9.heap.size, 0, none⟩) 1 1) (.slice (some ⟨q9.heap.size + 1, 0, none⟩) 2 2)) := by show Cel _ _ _ _; unfold Cel; rw [← hWa]; simp [go_sem]
  have tg : Tn [2] [5, 5] (.agg #[.slice (some ⟨q9.heap.size + 3, 0, none⟩) 1 1, .slice (some ⟨q9.heap.size + 4, 0, none⟩) 2 2]) Wa := tn_two rfl rfl (fun j v hj => by
    match j, hj with
    | 0, hj =>
      simp [vals] at hj
      subst hj
      rw [← hWa]
      simp [go_sem]
    | j + 1, hj => simp [vals] at hj) (fun j v hj => by
    match j, hj with
    | 0, hj =>
      simp [vals] at hj
      subst hj
      rw [← hWa]
      simp [go_sem]
    | 1, hj =>
      simp [vals] at hj
      subst hj
      rw [← hWa]
      simp [go_sem]
    | j + 2, hj => simp [vals] at hj)
  clear hWa hLa
  have cb := back_tn 1 TT_v0.out tg HR.out.1 HR.out.2.1 HR.out.1 HR.out.2.2.1
  rw [kn1.1, kn1.2.1, kn1.2.2] at cb
  refine (cb).mono ?_
  rintro e w5 ⟨v5, rfl, ⟨s5, t5, rfl, hs5, ht5⟩, hB5⟩
  obtain ⟨ps5, ns5, cs5, rfl, _⟩ := hs5.nums.lst
  obtain ⟨pt5, nt5, ct5, rfl, _⟩ := ht5.nums.lst
  have HB_w5 : Hid (Below w.heap.size w w5) := bstep HB_Wa.out hB5
  have TT_v1 : Hid (Tn [2] [-1, 1] (.agg #[.slice (some ⟨q9.heap.size, 0, none⟩) 1 1, .slice (some ⟨q9.heap.size + 1, 0, none⟩) 2 2]) w5) := TT_v0.out.up hB5
  have XT_v1 : Hid (Cel w5 (q9.heap.size + 2) (.slice (some ⟨q9.heap.size, 0, none⟩) 1 1) (.slice (some ⟨q9.heap.size + 1, 0, none⟩) 2 2)) := XT_v0.out.up hB5
  clear TT_v0 XT_v0
  have T5_v1 : Hid (Tn [2] [0, 5] (.agg #[.slice ps5 ns5 cs5, .slice pt5 nt5 ct5]) w5) := ⟨_, _, _, _, _, _, rfl, hs5.nums, ht5.nums⟩
  clear hB5 hs5 ht5 tg cb
  obtain ⟨xt0, xt1, _, _⟩ := XT_v1.out
  have xtz := cell_lt xt0
  go_wp2_with fail
  generalize hWb : World.alloc _ _ = Wb
  have hLb : Below w5.heap.size w5 Wb := by rw [← hWb]; go_grown
  have HB_Wb : Hid (Below w.heap.size w Wb) := bstep HB_w5.out hLb
  have TT_v2 : Hid (Tn [2] [-1, 1] (.agg #[.slice (some ⟨q9.heap.size, 0, none⟩) 1 1, .slice (some ⟨q9.heap.size + 1, 0, none⟩) 2 2]) Wb) := TT_v1.out.up hLb
  have XT_v2 : Hid (Cel Wb (q9.heap.size + 2) (.slice (some ⟨q9.heap.size, 0, none⟩) 1 1) (.slice (some ⟨q9.heap.size + 1, 0, none⟩) 2 2)) := XT_v1.out.up hLb
  have T5_v2 : Hid (Tn [2] [0, 5] (.agg #[.slice ps5 ns5 cs5, .slice pt5 nt5 ct5]) Wb) := T5_v1.out.up hLb
  clear TT_v1 XT_v1 T5_v1
  have X5_v2 : Hid (Cel Wb w5.heap.size (.slice ps5 ns5 cs5) (.slice pt5 nt5 ct5)) := by show Cel _ _ _ _; unfold Cel; rw [← hWb]; simp [go_sem]
  have tg : Tn [1] [5] (.agg #[.slice (some ⟨w5.heap.size + 1, 0, none⟩) 1 1, .slice (some ⟨w5.heap.size + 2, 0, none⟩) 1 1]) Wb := tn_two rfl rfl (fun j v hj => by
    match j, hj with
    | 0, hj =>
      simp [vals] at hj
      subst hj
      rw [← hWb]
      simp [go_sem]
    | j + 1, hj => simp [vals] at hj) (fun j v hj => by
    match j, hj with
    | 0, hj =>
      simp [vals] at hj
      subst hj
      rw [← hWb]
      simp [go_sem]
    | j + 1, hj => simp [vals] at hj)
  clear hWb hLb xt0 xt1 xtz
  have cb := back_tn 1 TT_v2.out tg HR.out.1 HR.out.2.1 HR.out.2.2.2.1 HR.out.2.2.2.2
  rw [kn2.1, kn2.2.1, kn2.2.2] at cb
  refine (cb).mono ?_
  rintro e w6 ⟨v6, rfl, ⟨s6, t6, rfl, hs6, ht6⟩, hB6⟩
  obtain ⟨ps6, ns6, cs6, rfl, _⟩ := hs6.nums.lst
  obtain ⟨pt6, nt6, ct6, rfl, _⟩ := ht6.nums.lst
  have HB_w6 : Hid (Below w.heap.size w w6) := bstep HB_Wb.out hB6
  have TT_v3 : Hid (Tn [2] [-1, 1] (.agg #[.slice (some ⟨q9.heap.size, 0, none⟩) 1 1, .slice (some ⟨q9.heap.size + 1, 0, none⟩) 2 2]) w6) := TT_v2.out.up hB6
  have XT_v3 : Hid (Cel w6 (q9.heap.size + 2) (.slice (some ⟨q9.heap.size, 0, none⟩) 1 1) (.slice (some ⟨q9.heap.size + 1, 0, none⟩) 2 2)) := XT_v2.out.up hB6
  have T5_v3 : Hid (Tn [2] [0, 5] (.agg #[.slice ps5 ns5 cs5, .slice pt5 nt5 ct5]) w6) := T5_v2.out.up hB6
  have X5_v3 : Hid (Cel w6 w5.heap.size (.slice ps5 ns5 cs5) (.slice pt5 nt5 ct5)) := X5_v2.out.up hB6
  clear TT_v2 XT_v2 T5_v2 X5_v2
  clear hB6 hs6 ht6 tg cb
  obtain ⟨xt0, xt1, _, _⟩ := XT_v3.out
  have xtz := cell_lt xt0
  obtain ⟨x50, x51, _, _⟩ := X5_v3.out
  have x5z := cell_lt x50
  go_wp2_with fail
  generalize hWc : World.alloc _ _ = Wc
  have hLc : Below w6.heap.size w6 Wc := by rw [← hWc]; go_grown
  have HB_Wc : Hid (Below w.heap.size w Wc) := bstep HB_w6.out hLc
  have TT_v4 : Hid (Tn [2] [-1, 1] (.agg #[.slice (some ⟨q9.heap.size, 0, none⟩) 1 1, .slice (some ⟨q9.heap.size + 1, 0, none⟩) 2 2]) Wc) := TT_v3.out.up hLc
  have XT_v4 : Hid (Cel Wc (q9.heap.size + 2) (.slice (some ⟨q9.heap.size, 0, none⟩) 1 1) (.slice (some ⟨q9.heap.size + 1, 0, none⟩) 2 2)) := XT_v3.out.up hLc
  have T5_v4 : Hid (Tn [2] [0, 5] (.agg #[.slice ps5 ns5 cs5, .slice pt5 nt5 ct5]) Wc) := T5_v3.out.up hLc
  have X5_v4 : Hid (Cel Wc w5.heap.size (.slice ps5 ns5 cs5) (.slice pt5 nt5 ct5)) := X5_v3.out.up hLc
  clear TT_v3 XT_v3 T5_v3 X5_v3
  clear hWc hLc xt0 xt1 xtz x50 x51 x5z
  have cb := all_tn 9 TT_v4.out HR.out.1 HR.out.2.1
  rw [kn3.1, kn3.2.1, kn3.2.2] at cb
  refine (cb).mono ?_
  rintro e w7 ⟨v7, rfl, ⟨s7, t7, rfl, hs7, ht7⟩, hB7⟩
  obtain ⟨ps7, ns7, cs7, rfl, _⟩ := hs7.nums.lst
  obtain ⟨pt7, nt7, ct7, rfl, _⟩ := ht7.nums.lst
  have HB_w7 : Hid (Below w.heap.size w w7) := bstep HB_Wc.out hB7
  have TT_v5 : Hid (Tn [2] [-1, 1] (.agg #[.slice (some ⟨q9.heap.size, 0, none⟩) 1 1, .slice (some ⟨q9.heap.size + 1, 0, none⟩) 2 2]) w7) := TT_v4.out.up hB7
  have XT_v5 : Hid (Cel w7 (q9.heap.size + 2) (.slice (some ⟨q9.heap.size, 0, none⟩) 1 1) (.slice (some ⟨q9.heap.size + 1, 0, none⟩) 2 2)) := XT_v4.out.up hB7
  have T5_v5 : Hid (Tn [2] [0, 5] (.agg #[.slice ps5 ns5 cs5, .slice pt5 nt5 ct5]) w7) := T5_v4.out.up hB7
  have X5_v5 : Hid (Cel w7 w5.heap.size (.slice ps5 ns5 cs5) (.slice pt5 nt5 ct5)) := X5_v4.out.up hB7
  clear TT_v4 XT_v4 T5_v4 X5_v4
  clear hB7 hs7 ht7 cb
  obtain ⟨x50, x51, _, _⟩ := X5_v5.out
  have x5z := cell_lt x50
  go_wp2_with fail
  generalize hWd : World.alloc _ _ = Wd_
  have hLd : Below w7.heap.size w7 Wd_ := by rw [← hWd]; go_grown
  have HB_Wd_ : Hid (Below w.heap.size w Wd_) := bstep HB_w7.out hLd
  have TT_v6 : Hid (Tn [2] [-1, 1] (.agg #[.slice (some ⟨q9.heap.size, 0, none⟩) 1 1, .slice (some ⟨q9.heap.size + 1, 0, none⟩) 2 2]) Wd_) := TT_v5.out.up hLd
  have XT_v6 : Hid (Cel Wd_ (q9.heap.size + 2) (.slice (some ⟨q9.heap.size, 0, none⟩) 1 1) (.slice (some ⟨q9.heap.size + 1, 0, none⟩) 2 2)) := XT_v5.out.up hLd
  have T5_v6 : Hid (Tn [2] [0, 5] (.agg #[.slice ps5 ns5 cs5, .slice pt5 nt5 ct5]) Wd_) := T5_v5.out.up hLd
  have X5_v6 : Hid (Cel Wd_ w5.heap.size (.slice ps5 ns5 cs5) (.slice pt5 nt5 ct5)) := X5_v5.out.up hLd
  clear TT_v5 XT_v5 T5_v5 X5_v5
  have tg : Tn [2] [0, 5] (.agg #[.slice (some ⟨w7.heap.size + 1, 0, none⟩) 1 1, .slice (some ⟨w7.heap.size + 2, 0, none⟩) 2 2]) Wd_ := tn_two rfl rfl (fun j v hj => by
    match j, hj with
    | 0, hj =>
      simp [vals] at hj
      subst hj
      rw [← hWd]
      simp [go_sem]
    | j + 1, hj => simp [vals] at hj) (fun j v hj => by
    match j, hj with
    | 0, hj =>
      simp [vals] at hj
      subst hj
      rw [← hWd]
      simp [go_sem]
    | 1, hj =>
      simp [vals] at hj
      subst hj
      rw [← hWd]
      simp [go_sem]
    | j + 2, hj => simp [vals] at hj)
  clear hWd hLd x50 x51 x5z
  have ca := alike_tn T5_v6.out tg HF.out.1 HF.out.2
  rw [decide_eq_true ⟨rfl, rfl⟩] at ca
  refine ca.mono ?_
  rintro e wz ⟨rfl, hBz⟩
  have HB_wz : Hid (Below w.heap.size w wz) := bstep HB_Wd_.out hBz
  clear hBz ca tg
  go_wp2
  go_ret
  exact ⟨rfl, HB_wz.out⟩
end Go.Proofs.Ytlehlikgehbnfaa.Wd
