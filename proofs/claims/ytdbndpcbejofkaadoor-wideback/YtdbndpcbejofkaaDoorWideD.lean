/- What the functions of package wide hand back: a number by a power of two, rounded. -/
import Derived.Test.YtdbndpcbejofkaaDoorWideC
namespace Go.Proofs.YtdbndpcbejofkaaDoor.Wd
open Go.RowKit Fx
set_option linter.unusedVariables false
set_option linter.unusedSimpArgs false
theorem fld_hi (p q : Int) (W : World) : Sem.run Tryd.prog (Instr.field 25 (.agg #[.int .i64 p, .int .u64 q]) 0) W = .ok (.int .i64 p) W := by
  kernel_rfl
theorem fld_lo (p q : Int) (W : World) : Sem.run Tryd.prog (Instr.field 25 (.agg #[.int .i64 p, .int .u64 q]) 1) W = .ok (.int .u64 q) W := by
  kernel_rfl
attribute [local go_sem] fld_hi fld_lo
theorem wd_one : wd 1 = .agg #[.int .i64 0, .int .u64 1] := (wd_eq (by decide) (by decide)).symm
theorem pow_le (a : Int) (n : Nat) (ha : InW a) : InW (a / 2 ^ n) := by
  have hp : (0 : Int) < 2 ^ n := Int.pow_pos (by decide)
  unfold InW at *
  constructor
  · rw [Int.le_ediv_iff_mul_le hp]
    have : (-170141183460469231731687303715884105728 : Int) * 2 ^ n ≤ -170141183460469231731687303715884105728 * 1 := Int.mul_le_mul_of_nonpos_left (by decide) (by omega)
    omega
  · exact Int.ediv_lt_of_lt_mul hp (by
      have : (170141183460469231731687303715884105728 : Int) * 1 ≤ 170141183460469231731687303715884105728 * 2 ^ n := Int.mul_le_mul_of_nonneg_left (by omega) (by decide)
      omega)
theorem half_in (a : Int) (k : Nat) (ha : InW a) : InW (a / 2 ^ (k + 1) + 1) := by
  have h := pow_le a k ha
  rw [Int.pow_succ, ← dd a (Int.pow_pos (by decide))]
  unfold InW at *
  omega
theorem shift_same (a nn : Int) (ha : InW a) (hn : nn < 1 ∨ 126 < nn) (hr : InR nn) (w : World) :
    Calls Tryd.prog 15 #[wd a, .int .i64 nn] w fun e w' => e = .returned (wd a) ∧ Below w.heap.size w w' := by
  obtain ⟨ah, al, ea, a1, a2, a3, a4, Ha⟩ := words ha
  rw [ea]
  clear ea
  unfold InR at hr
  rcases hn with h | h
  all_goals
    go_enter Tryd.func15, Tryd.ntmps15
    go_wp2
    exact bodyPost_ret (v := .agg #[.int .i64 ah, .int .u64 al]) (by simp [results, Tryd.results15, go_sem]) rfl ⟨rfl, by go_grown⟩
set_option maxHeartbeats 2000000 in
set_option maxRecDepth 20000 in
theorem shift_mid (a nn : Int) (k : Nat) (ha : InW a) (hn : nn = (k : Int) + 1) (hk : k ≤ 125) (w : World) (hT : Hid (Tz w)) :
    Calls Tryd.prog 15 #[wd a, .int .i64 nn] w fun e w' => e = .returned (wd (rqI a (2 ^ (k + 1)))) ∧ Below w.heap.size w w' := by
  have hq := pow_le a (k + 1) ha
  have hp := pow_le a k ha
  have hq1 := half_in a k ha
  obtain ⟨ah, al, ea, a1, a2, a3, a4, Ha⟩ := words ha
  obtain ⟨lh, ll, el, l1, l2, l3, l4, Hl⟩ := words hq
  obtain ⟨mh, ml, em, m1, m2, m3, m4, Hm⟩ := words hp
  obtain ⟨uh, ul, eu, u1, u2, u3, u4, Hu⟩ := words hq1
  have s1 : ∀ W : World, Calls Tryd.prog 41 #[.agg #[.int .i64 ah, .int .u64 al], .int .i64 nn] W fun e w' => e = .returned (.agg #[.int .i64 lh, .int .u64 ll]) ∧ Below W.heap.size W w' := by
    intro W
    have := floor_any a (k + 1) ha (by omega) nn (by omega) W
    rw [el, ea] at this
    exact this
  have s2 : ∀ W : World, Calls Tryd.prog 41 #[.agg #[.int .i64 ah, .int .u64 al], .int .i64 (nn - 1)] W fun e w' => e = .returned (.agg #[.int .i64 mh, .int .u64 ml]) ∧ Below W.heap.size W w' := by
    intro W
    have := floor_any a k ha (by omega) (nn - 1) (by omega) W
    rw [em, ea] at this
    exact this
  have s3 : ∀ W : World, Below w.heap.size w W → Calls Tryd.prog 42 #[.agg #[.int .i64 ah, .int .u64 al]] W fun e w' => ∃ z : Int, e = .returned (.int .i64 z) ∧ 0 ≤ z ∧ z ≤ 128 ∧ Hid (z < (k : Int) ↔ a % 2 ^ k ≠ 0) ∧ Below W.heap.size W w' := by
    intro W hb
    have := zeros_any a ha W (hT.out.up hb)
    rw [ea] at this
    refine this.mono ?_
    rintro e w' ⟨z, rfl, z0, z1, hz, hb'⟩
    exact ⟨z, rfl, z0, z1, hz.out k (by omega), hb'⟩
  have s4 : ∀ W : World, Calls Tryd.prog 14 #[.int .i64 1] W fun e w' => e = .returned (.agg #[.int .i64 0, .int .u64 1]) ∧ Below W.heap.size W w' := by
    intro W
    have := of_any 1 (by unfold InR; omega) W
    rw [wd_one] at this
    exact this
  have s5 : ∀ W : World, Calls Tryd.prog 17 #[.agg #[.int .i64 lh, .int .u64 ll], .agg #[.int .i64 0, .int .u64 1]] W fun e w' => e = .returned (.agg #[.int .i64 uh, .int .u64 ul]) ∧ Below W.heap.size W w' := by
    intro W
    have := add_any (a / 2 ^ (k + 1)) 1 hq (by unfold InW; omega) W
    rw [wr_in hq1, eu, el, wd_one] at this
    exact this
  have R : Hid ((ml % 2 = 0 → rqI a (2 ^ (k + 1)) = a / 2 ^ (k + 1)) ∧ (ml % 2 = 1 → rqI a (2 ^ (k + 1)) = a / 2 ^ (k + 1) + (if ll % 2 = 1 ∨ a % 2 ^ k ≠ 0 then 1 else 0))) := by
    constructor
    · intro h
      have := Hm.out
      exact rq_down a k (by omega)
    · intro h
      have h1 := Hm.out
      have h2 := Hl.out
      have h3 : (a / 2 ^ (k + 1) % 2 = 1) ↔ ll % 2 = 1 := by omega
      rw [rq_up a k (by omega)]
      simp only [h3]
  have EL : Hid (wd (a / 2 ^ (k + 1)) = .agg #[.int .i64 lh, .int .u64 ll]) := el
  have EU : Hid (wd (a / 2 ^ (k + 1) + 1) = .agg #[.int .i64 uh, .int .u64 ul]) := eu
  have HK : Hid (nn = (k : Int) + 1) := hn
  have Rlow : Hid (∀ z : Int, (z < (k : Int) ↔ a % 2 ^ k ≠ 0) → ¬ (ml % 2 = 1 ∧ (z < nn - 1 ∨ ll % 2 = 1)) → wd (rqI a (2 ^ (k + 1))) = .agg #[.int .i64 lh, .int .u64 ll]) := by
    intro z hz hc
    rw [← el]
    congr 1
    have hR := R.out
    by_cases c : ml % 2 = 0
    · exact hR.1 c
    · rw [hR.2 (by omega), if_neg (by omega)]
      omega
  have Rup : Hid (∀ z : Int, (z < (k : Int) ↔ a % 2 ^ k ≠ 0) → (ml % 2 = 1 ∧ (z < nn - 1 ∨ ll % 2 = 1)) → wd (rqI a (2 ^ (k + 1))) = .agg #[.int .i64 uh, .int .u64 ul]) := by
    intro z hz hc
    rw [← eu]
    congr 1
    have hR := R.out
    rw [hR.2 (by omega), if_pos (by omega)]
  have hn2 : 1 ≤ nn ∧ nn ≤ 126 := by omega
  rw [ea]
  clear ea el em eu hn hk R EL EU Hl Hm Hu Ha
  go_enter Tryd.func15, Tryd.ntmps15
  go_wp2_with fail
  refine (s1 _).mono ?_
  rintro e' w1 ⟨rfl, hb1⟩
  have hB1 : Below w.heap.size w w1 := Below.trans (by go_grown) (hb1.mono (by first | omega | (simp; try omega)))
  have hz1 := hb1.size
  (try simp at hz1)
  have ltA1 : w.heap.size < w1.heap.size := (by omega)
  have qA01 : w1.cell? ⟨w.heap.size, 0, none⟩ = some (.int .i64 ah) := keep hb1 (by first | assumption | simp [go_sem, *])
  have zA01 : w1.frozen? ⟨w.heap.size, 0, none⟩ = false := keepf hb1 (v := .int .i64 ah) (by first | assumption | simp [go_sem, *]) (by first | assumption | simp [go_sem, *])
  have qA11 : w1.cell? ⟨w.heap.size, 1, none⟩ = some (.int .u64 al) := keep hb1 (by first | assumption | simp [go_sem, *])
  have zA11 : w1.frozen? ⟨w.heap.size, 1, none⟩ = false := keepf hb1 (v := .int .u64 al) (by first | assumption | simp [go_sem, *]) (by first | assumption | simp [go_sem, *])
  have ltR1 : (w.heap.size + 1) < w1.heap.size := (by omega)
  have qR01 : w1.cell? ⟨(w.heap.size + 1), 0, none⟩ = some (.int .i64 0) := keep hb1 (by first | assumption | simp [go_sem, *])
  have zR01 : w1.frozen? ⟨(w.heap.size + 1), 0, none⟩ = false := keepf hb1 (v := .int .i64 0) (by first | assumption | simp [go_sem, *]) (by first | assumption | simp [go_sem, *])
  have qR11 : w1.cell? ⟨(w.heap.size + 1), 1, none⟩ = some (.int .u64 0) := keep hb1 (by first | assumption | simp [go_sem, *])
  have zR11 : w1.frozen? ⟨(w.heap.size + 1), 1, none⟩ = false := keepf hb1 (v := .int .u64 0) (by first | assumption | simp [go_sem, *]) (by first | assumption | simp [go_sem, *])
  clear hb1
  go_wp2_with fail
  refine (s2 _).mono ?_
  rintro e' w2 ⟨rfl, hb2⟩
  have hB2 : Below w.heap.size w w2 := Below.trans (by go_grown) (hb2.mono (by first | omega | (simp; try omega)))
  have hz2 := hb2.size
  (try simp at hz2)
  have ltA2 : w.heap.size < w2.heap.size := (by omega)
  have qA02 : w2.cell? ⟨w.heap.size, 0, none⟩ = some (.int .i64 ah) := keep hb2 (by first | assumption | simp [go_sem, *])
  have zA02 : w2.frozen? ⟨w.heap.size, 0, none⟩ = false := keepf hb2 (v := .int .i64 ah) (by first | assumption | simp [go_sem, *]) (by first | assumption | simp [go_sem, *])
  have qA12 : w2.cell? ⟨w.heap.size, 1, none⟩ = some (.int .u64 al) := keep hb2 (by first | assumption | simp [go_sem, *])
  have zA12 : w2.frozen? ⟨w.heap.size, 1, none⟩ = false := keepf hb2 (v := .int .u64 al) (by first | assumption | simp [go_sem, *]) (by first | assumption | simp [go_sem, *])
  have ltR2 : (w.heap.size + 1) < w2.heap.size := (by omega)
  have qR02 : w2.cell? ⟨(w.heap.size + 1), 0, none⟩ = some (.int .i64 0) := keep hb2 (by first | assumption | simp [go_sem, *])
  have zR02 : w2.frozen? ⟨(w.heap.size + 1), 0, none⟩ = false := keepf hb2 (v := .int .i64 0) (by first | assumption | simp [go_sem, *]) (by first | assumption | simp [go_sem, *])
  have qR12 : w2.cell? ⟨(w.heap.size + 1), 1, none⟩ = some (.int .u64 0) := keep hb2 (by first | assumption | simp [go_sem, *])
  have zR12 : w2.frozen? ⟨(w.heap.size + 1), 1, none⟩ = false := keepf hb2 (v := .int .u64 0) (by first | assumption | simp [go_sem, *]) (by first | assumption | simp [go_sem, *])
  have ltL2 : w1.heap.size < w2.heap.size := (by omega)
  have qL02 : w2.cell? ⟨w1.heap.size, 0, none⟩ = some (.int .i64 lh) := keep hb2 (by first | assumption | simp [go_sem, *])
  have zL02 : w2.frozen? ⟨w1.heap.size, 0, none⟩ = false := keepf hb2 (v := .int .i64 lh) (by first | assumption | simp [go_sem, *]) (by first | assumption | simp [go_sem, *])
  have qL12 : w2.cell? ⟨w1.heap.size, 1, none⟩ = some (.int .u64 ll) := keep hb2 (by first | assumption | simp [go_sem, *])
  have zL12 : w2.frozen? ⟨w1.heap.size, 1, none⟩ = false := keepf hb2 (v := .int .u64 ll) (by first | assumption | simp [go_sem, *]) (by first | assumption | simp [go_sem, *])
  clear hb2
  clear hB1 qA01 qA11 zA01 zA11 qR01 qR11 zR01 zR11
  go_wp2_with fail
  refine (s3 _ hB2).mono ?_
  rintro e' w3 ⟨z, rfl, z0, z1, Hz, hb3⟩
  have hB3 : Below w.heap.size w w3 := Below.trans (by go_grown) (hb3.mono (by first | omega | (simp; try omega)))
  have hz3 := hb3.size
  (try simp at hz3)
  have ltA3 : w.heap.size < w3.heap.size := (by omega)
  have qA03 : w3.cell? ⟨w.heap.size, 0, none⟩ = some (.int .i64 ah) := keep hb3 (by first | assumption | simp [go_sem, *])
  have zA03 : w3.frozen? ⟨w.heap.size, 0, none⟩ = false := keepf hb3 (v := .int .i64 ah) (by first | assumption | simp [go_sem, *]) (by first | assumption | simp [go_sem, *])
  have qA13 : w3.cell? ⟨w.heap.size, 1, none⟩ = some (.int .u64 al) := keep hb3 (by first | assumption | simp [go_sem, *])
  have zA13 : w3.frozen? ⟨w.heap.size, 1, none⟩ = false := keepf hb3 (v := .int .u64 al) (by first | assumption | simp [go_sem, *]) (by first | assumption | simp [go_sem, *])
  have ltR3 : (w.heap.size + 1) < w3.heap.size := (by omega)
  have qR03 : w3.cell? ⟨(w.heap.size + 1), 0, none⟩ = some (.int .i64 0) := keep hb3 (by first | assumption | simp [go_sem, *])
  have zR03 : w3.frozen? ⟨(w.heap.size + 1), 0, none⟩ = false := keepf hb3 (v := .int .i64 0) (by first | assumption | simp [go_sem, *]) (by first | assumption | simp [go_sem, *])
  have qR13 : w3.cell? ⟨(w.heap.size + 1), 1, none⟩ = some (.int .u64 0) := keep hb3 (by first | assumption | simp [go_sem, *])
  have zR13 : w3.frozen? ⟨(w.heap.size + 1), 1, none⟩ = false := keepf hb3 (v := .int .u64 0) (by first | assumption | simp [go_sem, *]) (by first | assumption | simp [go_sem, *])
  have ltL3 : w1.heap.size < w3.heap.size := (by omega)
  have qL03 : w3.cell? ⟨w1.heap.size, 0, none⟩ = some (.int .i64 lh) := keep hb3 (by first | assumption | simp [go_sem, *])
  have zL03 : w3.frozen? ⟨w1.heap.size, 0, none⟩ = false := keepf hb3 (v := .int .i64 lh) (by first | assumption | simp [go_sem, *]) (by first | assumption | simp [go_sem, *])
  have qL13 : w3.cell? ⟨w1.heap.size, 1, none⟩ = some (.int .u64 ll) := keep hb3 (by first | assumption | simp [go_sem, *])
  have zL13 : w3.frozen? ⟨w1.heap.size, 1, none⟩ = false := keepf hb3 (v := .int .u64 ll) (by first | assumption | simp [go_sem, *]) (by first | assumption | simp [go_sem, *])
  clear hb3
  clear hB2 qA02 qA12 zA02 zA12 qR02 qR12 zR02 zR12 qL02 qL12 zL02 zL12
  have hzz := Hz.out
  by_cases c1 : ml % 2 = 1
  · by_cases c2 : z < nn - 1
    · have E : Hid _ := Rup.out z hzz (by omega)
      clear hzz
      go_wp2_with fail
      go_region_with (first | (go_at_call 14; refine (s4 _).mono ?_; rintro e' w4 ⟨rfl, hb4⟩; have hB4 : Below w.heap.size w w4 := Below.trans (by go_grown) (hb4.mono (by first | omega | (simp; try omega))); have hz4 := hb4.size; (try simp at hz4); have ltR4 : (w.heap.size + 1) < w4.heap.size := (by omega); have qR04 : w4.cell? ⟨(w.heap.size + 1), 0, none⟩ = some (.int .i64 0) := keep hb4 (by first | assumption | simp [go_sem, *]); have zR04 : w4.frozen? ⟨(w.heap.size + 1), 0, none⟩ = false := keepf hb4 (v := .int .i64 0) (by first | assumption | simp [go_sem, *]) (by first | assumption | simp [go_sem, *]); have qR14 : w4.cell? ⟨(w.heap.size + 1), 1, none⟩ = some (.int .u64 0) := keep hb4 (by first | assumption | simp [go_sem, *]); have zR14 : w4.frozen? ⟨(w.heap.size + 1), 1, none⟩ = false := keepf hb4 (v := .int .u64 0) (by first | assumption | simp [go_sem, *]) (by first | assumption | simp [go_sem, *]); have ltL4 : w1.heap.size < w4.heap.size := (by omega); have qL04 : w4.cell? ⟨w1.heap.size, 0, none⟩ = some (.int .i64 lh) := keep hb4 (by first | assumption | simp [go_sem, *]); have zL04 : w4.frozen? ⟨w1.heap.size, 0, none⟩ = false := keepf hb4 (v := .int .i64 lh) (by first | assumption | simp [go_sem, *]) (by first | assumption | simp [go_sem, *]); have qL14 : w4.cell? ⟨w1.heap.size, 1, none⟩ = some (.int .u64 ll) := keep hb4 (by first | assumption | simp [go_sem, *]); have zL14 : w4.frozen? ⟨w1.heap.size, 1, none⟩ = false := keepf hb4 (v := .int .u64 ll) (by first | assumption | simp [go_sem, *]) (by first | assumption | simp [go_sem, *]); clear hb4) | (go_at_call 17; refine (s5 _).mono ?_; rintro e' w5 ⟨rfl, hb5⟩; have hB5 : Below w.heap.size w w5 := Below.trans (by go_grown) (hb5.mono (by first | omega | (simp; try omega))); have hz5 := hb5.size; (try simp at hz5); have ltR5 : (w.heap.size + 1) < w5.heap.size := (by omega); have qR05 : w5.cell? ⟨(w.heap.size + 1), 0, none⟩ = some (.int .i64 0) := keep hb5 (by first | assumption | simp [go_sem, *]); have zR05 : w5.frozen? ⟨(w.heap.size + 1), 0, none⟩ = false := keepf hb5 (v := .int .i64 0) (by first | assumption | simp [go_sem, *]) (by first | assumption | simp [go_sem, *]); have qR15 : w5.cell? ⟨(w.heap.size + 1), 1, none⟩ = some (.int .u64 0) := keep hb5 (by first | assumption | simp [go_sem, *]); have zR15 : w5.frozen? ⟨(w.heap.size + 1), 1, none⟩ = false := keepf hb5 (v := .int .u64 0) (by first | assumption | simp [go_sem, *]) (by first | assumption | simp [go_sem, *]); clear hb5))
      all_goals
        go_wp2
        obtain ⟨f0, f1⟩ := two w5 (w.heap.size + 1) (.int .i64 uh) (.int .u64 ul) qR05 qR15
        exact bodyPost_ret (v := .agg #[.int .i64 uh, .int .u64 ul]) (by simp [results, Tryd.results15, go_sem, f0, f1]) rfl ⟨by rw [E.out], by go_grown⟩
    · by_cases c3 : ll % 2 = 1
      · have E : Hid _ := Rup.out z hzz (by omega)
        clear hzz
        go_wp2_with fail
        go_region_with (first | (go_at_call 14; refine (s4 _).mono ?_; rintro e' w4 ⟨rfl, hb4⟩; have hB4 : Below w.heap.size w w4 := Below.trans (by go_grown) (hb4.mono (by first | omega | (simp; try omega))); have hz4 := hb4.size; (try simp at hz4); have ltR4 : (w.heap.size + 1) < w4.heap.size := (by omega); have qR04 : w4.cell? ⟨(w.heap.size + 1), 0, none⟩ = some (.int .i64 0) := keep hb4 (by first | assumption | simp [go_sem, *]); have zR04 : w4.frozen? ⟨(w.heap.size + 1), 0, none⟩ = false := keepf hb4 (v := .int .i64 0) (by first | assumption | simp [go_sem, *]) (by first | assumption | simp [go_sem, *]); have qR14 : w4.cell? ⟨(w.heap.size + 1), 1, none⟩ = some (.int .u64 0) := keep hb4 (by first | assumption | simp [go_sem, *]); have zR14 : w4.frozen? ⟨(w.heap.size + 1), 1, none⟩ = false := keepf hb4 (v := .int .u64 0) (by first | assumption | simp [go_sem, *]) (by first | assumption | simp [go_sem, *]); have ltL4 : w1.heap.size < w4.heap.size := (by omega); have qL04 : w4.cell? ⟨w1.heap.size, 0, none⟩ = some (.int .i64 lh) := keep hb4 (by first | assumption | simp [go_sem, *]); have zL04 : w4.frozen? ⟨w1.heap.size, 0, none⟩ = false := keepf hb4 (v := .int .i64 lh) (by first | assumption | simp [go_sem, *]) (by first | assumption | simp [go_sem, *]); have qL14 : w4.cell? ⟨w1.heap.size, 1, none⟩ = some (.int .u64 ll) := keep hb4 (by first | assumption | simp [go_sem, *]); have zL14 : w4.frozen? ⟨w1.heap.size, 1, none⟩ = false := keepf hb4 (v := .int .u64 ll) (by first | assumption | simp [go_sem, *]) (by first | assumption | simp [go_sem, *]); clear hb4) | (go_at_call 17; refine (s5 _).mono ?_; rintro e' w5 ⟨rfl, hb5⟩; have hB5 : Below w.heap.size w w5 := Below.trans (by go_grown) (hb5.mono (by first | omega | (simp; try omega))); have hz5 := hb5.size; (try simp at hz5); have ltR5 : (w.heap.size + 1) < w5.heap.size := (by omega); have qR05 : w5.cell? ⟨(w.heap.size + 1), 0, none⟩ = some (.int .i64 0) := keep hb5 (by first | assumption | simp [go_sem, *]); have zR05 : w5.frozen? ⟨(w.heap.size + 1), 0, none⟩ = false := keepf hb5 (v := .int .i64 0) (by first | assumption | simp [go_sem, *]) (by first | assumption | simp [go_sem, *]); have qR15 : w5.cell? ⟨(w.heap.size + 1), 1, none⟩ = some (.int .u64 0) := keep hb5 (by first | assumption | simp [go_sem, *]); have zR15 : w5.frozen? ⟨(w.heap.size + 1), 1, none⟩ = false := keepf hb5 (v := .int .u64 0) (by first | assumption | simp [go_sem, *]) (by first | assumption | simp [go_sem, *]); clear hb5))
        all_goals
          go_wp2
          obtain ⟨f0, f1⟩ := two w5 (w.heap.size + 1) (.int .i64 uh) (.int .u64 ul) qR05 qR15
          exact bodyPost_ret (v := .agg #[.int .i64 uh, .int .u64 ul]) (by simp [results, Tryd.results15, go_sem, f0, f1]) rfl ⟨by rw [E.out], by go_grown⟩
      · have c3' : (ll % 2 == 1) = false := by simpa using c3
        have E : Hid _ := Rlow.out z hzz (by omega)
        clear hzz
        go_wp2
        obtain ⟨f0, f1⟩ := two w3 (w.heap.size + 1) (.int .i64 lh) (.int .u64 ll) qR03 qR13
        exact bodyPost_ret (v := .agg #[.int .i64 lh, .int .u64 ll]) (by simp [results, Tryd.results15, go_sem, f0, f1]) rfl ⟨by rw [E.out], by go_grown⟩
  · have c1' : (ml % 2 == 1) = false := by simpa using c1
    have E : Hid _ := Rlow.out z hzz (by omega)
    clear hzz
    go_wp2
    obtain ⟨f0, f1⟩ := two w3 (w.heap.size + 1) (.int .i64 lh) (.int .u64 ll) qR03 qR13
    exact bodyPost_ret (v := .agg #[.int .i64 lh, .int .u64 ll]) (by simp [results, Tryd.results15, go_sem, f0, f1]) rfl ⟨by rw [E.out], by go_grown⟩
end Go.Proofs.YtdbndpcbejofkaaDoor.Wd
