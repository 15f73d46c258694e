/- The reference's halving, rounded: as whole numbers. -/
import Derived.Test.YtknadgffflhlgaaRefF
namespace Go.Proofs.Ytknadgffflhlgaa.Rf
open Go.RowKit Fx
set_option linter.unusedVariables false
set_option linter.unusedSimpArgs false
attribute [local go_sem] setCell_drewN alloc_drewN
theorem lp_bit (y : Int) (m : Nat) : y % 2 ^ m / 2 ^ m % 2 = 0 := by
  rw [Int.ediv_eq_zero_of_lt (Int.emod_nonneg _ (Int.ne_of_gt (two_pos m))) (Int.emod_lt_of_pos _ (two_pos m))]
  rfl
theorem lp_step (y : Int) (m : Nat) : y % 2 ^ (m + 1) = y % 2 ^ m + y / 2 ^ m % 2 * 2 ^ m := by
  have h1 := Int.emod_add_mul_ediv y (2 ^ m)
  have h2 := Int.emod_add_mul_ediv y (2 ^ (m + 1))
  have e : (2 : Int) ^ (m + 1) = 2 ^ m * 2 := Int.pow_succ 2 m
  have h3 : y / 2 ^ (m + 1) = y / 2 ^ m / 2 := by rw [div_two y m 1]; rfl
  rw [h3, e] at h2
  rw [e]
  generalize (2 : Int) ^ m = P at *
  generalize y / P = q at *
  have h4 : P * 2 * (q / 2) + q % 2 * P = P * q := by
    have : q = 2 * (q / 2) + q % 2 := by omega
    conv => rhs; rw [this]
    rw [Int.mul_add, ← Int.mul_assoc, Int.mul_comm P (q % 2)]
  omega
theorem half_up (x : Int) (k : Nat) (h0 : 0 ≤ x) : x % 2 ^ (k + 1) = x % 2 ^ k + x / 2 ^ k % 2 * 2 ^ k := lp_step x k
/-- Whether a quotient by a power of two is rounded up, told by its bits. -/
theorem rq_down (x : Int) (k : Nat) (hb : x / 2 ^ k % 2 = 0) : rqI x (2 ^ (k + 1)) = x / 2 ^ (k + 1) := by
  have h := lp_step x k
  have hp := two_pos k
  have e : (2 : Int) ^ (k + 1) = 2 ^ k * 2 := Int.pow_succ 2 k
  have hl := Int.emod_lt_of_pos x hp
  have hn := Int.emod_nonneg x (Int.ne_of_gt hp)
  rw [hb] at h
  unfold rqI
  rw [if_neg (by rw [h]; omega)]
theorem rq_up (x : Int) (k : Nat) (hb : x / 2 ^ k % 2 = 1) (more : Bool) (hm : more = true ↔ (x / 2 ^ (k + 1) % 2 = 1 ∨ x % 2 ^ k ≠ 0)) : rqI x (2 ^ (k + 1)) = x / 2 ^ (k + 1) + (if more then 1 else 0) := by
  have h := lp_step x k
  have hp := two_pos k
  have e : (2 : Int) ^ (k + 1) = 2 ^ k * 2 := Int.pow_succ 2 k
  have hl := Int.emod_lt_of_pos x hp
  have hn := Int.emod_nonneg x (Int.ne_of_gt hp)
  rw [hb] at h
  unfold rqI
  cases more
  · have hm' : ¬ (x / 2 ^ (k + 1) % 2 = 1 ∨ x % 2 ^ k ≠ 0) := fun c => by simpa using hm.2 c
    rw [if_neg (by rw [h]; omega)]
    simp
  · have hm' := hm.1 rfl
    rw [if_pos (by rw [h]; omega)]
    simp
theorem half_lt (x : Int) (k : Nat) (h0 : 0 ≤ x) (h1 : x < 2 ^ 256) : x / 2 ^ (k + 1) < 2 ^ 256 - 1 := by
  have h := half_step x k
  have h2 : x / 2 ^ k ≤ x := Int.ediv_le_self _ h0
  have h3 : 0 ≤ x / 2 ^ (k + 1) := Int.ediv_nonneg h0 (Int.le_of_lt (two_pos (k + 1)))
  omega
theorem more_step {r0 x b2 : Int} {l : Nat} {mo : Bool} (h : Hid (false = true ↔ (r0 % 2 = 1 ∨ x % 2 ^ l ≠ 0))) (hb : Hid (x / 2 ^ l % 2 = b2)) (hm : mo = true ↔ b2 = 1) : Hid (mo = true ↔ (r0 % 2 = 1 ∨ x % 2 ^ (l + 1) ≠ 0)) := by
  have h' := h.out
  have hb' := hb.out
  have hp := two_pos l
  show _ ↔ _
  rw [hm, lp_step, hb']
  have hz : ¬ (r0 % 2 = 1 ∨ x % 2 ^ l ≠ 0) := fun c => by simpa using h'.2 c
  have hx0 : x % 2 ^ l = 0 := by omega
  rw [hx0]
  have hb2 : b2 = 0 ∨ b2 = 1 := by omega
  rcases hb2 with rfl | rfl <;> simp <;> omega
theorem more_stay {r0 x : Int} {l : Nat} (h : Hid (true = true ↔ (r0 % 2 = 1 ∨ x % 2 ^ l ≠ 0))) : Hid (true = true ↔ (r0 % 2 = 1 ∨ x % 2 ^ (l + 1) ≠ 0)) := by
  have h' := h.out.1 rfl
  have hp := two_pos l
  have hn := Int.emod_nonneg x (Int.ne_of_gt hp)
  have hm : 0 ≤ x / 2 ^ l % 2 * 2 ^ l := Int.mul_nonneg (by omega) (by omega)
  show _ ↔ _
  rw [lp_step]
  refine ⟨fun _ => ?_, fun _ => rfl⟩
  rcases h' with h' | h'
  · exact Or.inl h'
  · right; omega
set_option maxHeartbeats 8000000 in
set_option maxRecDepth 20000 in
theorem Halved_low (s : Bool) (a0 a1 a2 a3 : Int) (p0 : U a0) (p1 : U a1) (p2 : U a2) (p3 : U a3) (n : Nat) (nn : Int) (en : Hid (nn = (n : Int) ∧ 1 ≤ n)) (hnn : 1 ≤ nn ∧ nn ≤ 255) (x : Int) (hx : Hid (PS 4 a0 a1 a2 a3 = x ∧ 0 ≤ x ∧ x < 2 ^ 256)) (w : World) :
    Calls Try.prog 50 #[.agg #[.bool s, .int .u64 a0, .int .u64 a1, .int .u64 a2, .int .u64 a3], .int .i64 nn] w fun e w' => ∃ v, e = .returned v ∧ IsN v s (rqI x (2 ^ n)) ∧ Below w.heap.size w w' := by
  go_enter Try.func50, Try.ntmps50
  go_wp2
  go_loopw [6] (fun v wr => ∃ (m : Nat) (i r0 r1 r2 r3 : Int), v = .int .i64 i ∧ Hid (i - nn = (m : Int)) ∧ nn ≤ i ∧ i ≤ 256 ∧ m ≤ 256 ∧ Hid (PS 4 r0 r1 r2 r3 = x / 2 ^ n % 2 ^ m) ∧
      Mem (w.heap.size + 1 + 1) ((w.alloc (.cells #[.bool s, .int .u64 a0, .int .u64 a1, .int .u64 a2, .int .u64 a3] 60)).alloc (.cells #[.bool false, .int .u64 0, .int .u64 0, .int .u64 0, .int .u64 0] 60)) (w.heap.size + 1 + 1) s r0 r1 r2 r3 wr) (fun v _ => (256 - intOf v).toNat)
  case atStart =>
    refine ⟨0, nn, 0, 0, 0, 0, rfl, by show nn - nn = _; omega, by omega, by omega, by omega, ?_, ?_⟩
    · show PS 4 0 0 0 0 = x / 2 ^ n % 2 ^ 0
      rw [PS4, show (2 : Int) ^ 0 = 1 from rfl]
      omega
    · exact ⟨by go_grown, by omega, by simp, by simp [go_sem], by simp [go_sem], by simp [go_sem], by simp [go_sem], by simp [go_sem], fun o => by simp [go_sem], by unfold U; omega, by unfold U; omega, by unfold U; omega, by unfold U; omega⟩
  case round =>
    obtain ⟨m, i, r0, r1, r2, r3, rfl, hij, hni, hi, hm256, hPS, hM⟩ := hrel
    have hcell := (bcell hM.below).1
    have hfroz := (bcell hM.below).2
    have hc0 := hM.c0
    have hc1 := hM.c1
    have hc2 := hM.c2
    have hc3 := hM.c3
    have hc4 := hM.c4
    have hfz := hM.fz
    by_cases hlt : i < 256
    · obtain ⟨bt, ebt⟩ : ∃ b, b = PS 4 a0 a1 a2 a3 / 2 ^ (n + m) % 2 := ⟨_, rfl⟩
      have hbit : Hid (x / 2 ^ n / 2 ^ m % 2 = bt) := by show _ = _; rw [← div_two, ← hx.out.1, ebt]
      have HB : Hid (bt = PS 4 a0 a1 a2 a3 / 2 ^ (n + m) % 2) := ebt
      have hb01 : bt = 0 ∨ bt = 1 := by omega
      clear ebt
      go_wp2_with fail
      refine (bit_n a0 a1 a2 a3 p0 p1 p2 p3 (n + m) (by have := hij.out; have := en.out; omega) _ bt (by have := hij.out; have := en.out; omega) HB.out _).mono ?_
      rintro e w1 ⟨rfl, hb⟩
      have hM1 := hM.up hb
      clear hcell hfroz hc0 hc1 hc2 hc3 hc4 hfz
      have hcell := (bcell hM1.below).1
      have hfroz := (bcell hM1.below).2
      have hc0 := hM1.c0
      have hc1 := hM1.c1
      have hc2 := hM1.c2
      have hc3 := hM1.c3
      have hc4 := hM1.c4
      have hfz := hM1.fz
      rcases hb01 with rfl | rfl
      · go_wp2
        go_roundw
        case rel => exact ⟨m + 1, i + 1, r0, r1, r2, r3, rfl, by have := hij.out; show i + 1 - nn = _; omega, by omega, by omega, by have := hij.out; omega, (by show _ = _; rw [lp_step, hbit.out, ← hPS.out]; omega), hM1⟩
        case measure => simp [intOf]; omega
      · obtain ⟨tt, ett⟩ : ∃ tt, tt = m % 64 := ⟨_, rfl⟩
        have htt : tt < 64 := by omega
        have ETT : Hid (tt = m % 64) := ett
        clear ett
        have hmlt : m < 256 := by have := hij.out; omega
        have hq : m / 64 = 0 ∨ m / 64 = 1 ∨ m / 64 = 2 ∨ m / 64 = 3 := by omega
        rcases hq with hq | hq | hq | hq
        · have ett := ETT.out
          have hi1 : (i - nn) % 64 = (tt : Int) := by have := hij.out; omega
          have hi2 : (i - nn) / 64 = 0 := by have := hij.out; omega
          have hbz : r0 / 2 ^ tt % 2 = 0 := by
            rw [← (limb_bit r0 r1 r2 r3 hM.u0 hM.u1 hM.u2 hM.u3 tt htt).1, show 64 * 0 + tt = m by omega, hPS.out]
            exact lp_bit _ _
          have hor := or_set r0 tt hM.u0 htt hbz
          have hor1 := hor.1
          have hwp := wrap_pow tt htt
          have HM : Hid (m = 64 * 0 + tt) := by show _ = _; omega
          clear hbz ett hq
          go_wp2
          go_roundw
          case rel => exact ⟨m + 1, i + 1, (r0 + 2 ^ tt), r1, r2, r3, rfl, by have := hij.out; show i + 1 - nn = _; omega, by omega, by omega, by omega, set_num0 hPS tt m HM.out (by rw [lp_step, hbit.out]; omega), hM1.set0 hor.2⟩
          case measure => simp [intOf]; omega
        · have ett := ETT.out
          have hi1 : (i - nn) % 64 = (tt : Int) := by have := hij.out; omega
          have hi2 : (i - nn) / 64 = 1 := by have := hij.out; omega
          have hbz : r1 / 2 ^ tt % 2 = 0 := by
            rw [← (limb_bit r0 r1 r2 r3 hM.u0 hM.u1 hM.u2 hM.u3 tt htt).2.1, show 64 * 1 + tt = m by omega, hPS.out]
            exact lp_bit _ _
          have hor := or_set r1 tt hM.u1 htt hbz
          have hor1 := hor.1
          have hwp := wrap_pow tt htt
          have HM : Hid (m = 64 * 1 + tt) := by show _ = _; omega
          clear hbz ett hq
          go_wp2
          go_roundw
          case rel => exact ⟨m + 1, i + 1, r0, (r1 + 2 ^ tt), r2, r3, rfl, by have := hij.out; show i + 1 - nn = _; omega, by omega, by omega, by omega, set_num1 hPS tt m HM.out (by rw [lp_step, hbit.out]; omega), hM1.set1 hor.2⟩
          case measure => simp [intOf]; omega
        · have ett := ETT.out
          have hi1 : (i - nn) % 64 = (tt : Int) := by have := hij.out; omega
          have hi2 : (i - nn) / 64 = 2 := by have := hij.out; omega
          have hbz : r2 / 2 ^ tt % 2 = 0 := by
            rw [← (limb_bit r0 r1 r2 r3 hM.u0 hM.u1 hM.u2 hM.u3 tt htt).2.2.1, show 64 * 2 + tt = m by omega, hPS.out]
            exact lp_bit _ _
          have hor := or_set r2 tt hM.u2 htt hbz
          have hor1 := hor.1
          have hwp := wrap_pow tt htt
          have HM : Hid (m = 64 * 2 + tt) := by show _ = _; omega
          clear hbz ett hq
          go_wp2
          go_roundw
          case rel => exact ⟨m + 1, i + 1, r0, r1, (r2 + 2 ^ tt), r3, rfl, by have := hij.out; show i + 1 - nn = _; omega, by omega, by omega, by omega, set_num2 hPS tt m HM.out (by rw [lp_step, hbit.out]; omega), hM1.set2 hor.2⟩
          case measure => simp [intOf]; omega
        · have ett := ETT.out
          have hi1 : (i - nn) % 64 = (tt : Int) := by have := hij.out; omega
          have hi2 : (i - nn) / 64 = 3 := by have := hij.out; omega
          have hbz : r3 / 2 ^ tt % 2 = 0 := by
            rw [← (limb_bit r0 r1 r2 r3 hM.u0 hM.u1 hM.u2 hM.u3 tt htt).2.2.2, show 64 * 3 + tt = m by omega, hPS.out]
            exact lp_bit _ _
          have hor := or_set r3 tt hM.u3 htt hbz
          have hor1 := hor.1
          have hwp := wrap_pow tt htt
          have HM : Hid (m = 64 * 3 + tt) := by show _ = _; omega
          clear hbz ett hq
          go_wp2
          go_roundw
          case rel => exact ⟨m + 1, i + 1, r0, r1, r2, (r3 + 2 ^ tt), rfl, by have := hij.out; show i + 1 - nn = _; omega, by omega, by omega, by omega, set_num3 hPS tt m HM.out (by rw [lp_step, hbit.out]; omega), hM1.set3 hor.2⟩
          case measure => simp [intOf]; omega
    · obtain ⟨k, ek⟩ : ∃ k, n = k + 1 := ⟨n - 1, by have := en.out; omega⟩
      have hq0 : Hid (PS 4 r0 r1 r2 r3 = x / 2 ^ n ∧ n = k + 1) := by
        refine ⟨?_, ek⟩
        rw [hPS.out]
        apply Int.emod_eq_of_lt (Int.ediv_nonneg hx.out.2.1 (Int.le_of_lt (two_pos n)))
        apply Int.ediv_lt_of_lt_mul (two_pos n)
        rw [← Int.pow_add, show m + n = 256 by have := hij.out; have := en.out; omega]
        exact hx.out.2.2
      clear ek
      obtain ⟨bt, ebt⟩ : ∃ b, b = PS 4 a0 a1 a2 a3 / 2 ^ k % 2 := ⟨_, rfl⟩
      have hbit : Hid (x / 2 ^ k % 2 = bt) := by show _ = _; rw [← hx.out.1, ebt]
      have HB : Hid (bt = PS 4 a0 a1 a2 a3 / 2 ^ k % 2) := ebt
      have hb01 : bt = 0 ∨ bt = 1 := by omega
      clear ebt
      have hz : (nn == 0) = false := by simp; omega
      go_wp2_with fail
      refine (bit_n a0 a1 a2 a3 p0 p1 p2 p3 k (by have := hq0.out; have := en.out; omega) _ bt (by have := hq0.out; have := en.out; omega) HB.out _).mono ?_
      rintro e w1 ⟨rfl, hb⟩
      have hM1 := hM.up hb
      clear hcell hfroz hc0 hc1 hc2 hc3 hc4 hfz
      have hcell := (bcell hM1.below).1
      have hfroz := (bcell hM1.below).2
      have hc0 := hM1.c0
      have hc1 := hM1.c1
      have hc2 := hM1.c2
      have hc3 := hM1.c3
      have hc4 := hM1.c4
      have hfz := hM1.fz
      rcases hb01 with rfl | rfl
      · have KQ : Hid (rqI x (2 ^ n) = x / 2 ^ n) := by show _ = _; rw [hq0.out.2]; exact rq_down x k hbit.out
        go_wp2
        obtain ⟨f0, f1, f2, f3, f4⟩ := five w1 (w.heap.size + 1) (.bool s) (.int .u64 r0) (.int .u64 r1) (.int .u64 r2) (.int .u64 r3) (by rw [(bcell hM1.below).1 _ _ (by simp)]; simp [go_sem]; rfl) (by rw [(bcell hM1.below).1 _ _ (by simp)]; simp [go_sem]; rfl) (by rw [(bcell hM1.below).1 _ _ (by simp)]; simp [go_sem]; rfl) (by rw [(bcell hM1.below).1 _ _ (by simp)]; simp [go_sem]; rfl) (by rw [(bcell hM1.below).1 _ _ (by simp)]; simp [go_sem]; rfl)
        have hB : Below w.heap.size w w1 := Below.trans (by go_grown) (hM1.below.mono (by omega))
        refine bodyPost_ret (v := .agg #[.bool s, .int .u64 r0, .int .u64 r1, .int .u64 r2, .int .u64 r3]) (by simp [results, Try.results50, go_sem, f0, f1, f2, f3, f4]) rfl ⟨_, rfl, ⟨r0, r1, r2, r3, rfl, hM1.u0, hM1.u1, hM1.u2, hM1.u3, by rw [KQ.out]; exact hq0.out.1⟩, ?_⟩
        exact Below.setCell (Below.setCell (Below.setCell (Below.setCell (Below.setCell hB (by simp) _) (by simp) _) (by simp) _) (by simp) _) (by simp) _
      · have hand : bits .and .u64 r0 1 = r0 % 2 := and_one_u64 r0 hM.u0.1 (by have := hM.u0.2; omega)
        have hr0 : 0 ≤ r0 % 2 ∧ r0 % 2 ≤ 1 := by omega
        go_wp2
        go_loopw [7, 8] (fun u v wr2 => ∃ (l : Nat) (i2 : Int) (more : Bool), v = .int .i64 i2 ∧ u = .bool more ∧ Hid (i2 = (l : Int)) ∧ l ≤ k ∧ 0 ≤ i2 ∧ i2 ≤ nn - 1 ∧ Hid (more = true ↔ (r0 % 2 = 1 ∨ x % 2 ^ l ≠ 0)) ∧
          Mem (w.heap.size + 1 + 1) ((w.alloc (.cells #[.bool s, .int .u64 a0, .int .u64 a1, .int .u64 a2, .int .u64 a3] 60)).alloc (.cells #[.bool false, .int .u64 0, .int .u64 0, .int .u64 0, .int .u64 0] 60)) (w.heap.size + 1 + 1) s r0 r1 r2 r3 wr2) (fun _ v _ => (nn - intOf v).toNat)
        case atStart =>
          refine ⟨0, 0, _, rfl, rfl, rfl, by omega, by omega, by omega, ?_, hM1⟩
          show _ ↔ _
          rw [show (2 : Int) ^ 0 = 1 from rfl, Int.emod_one]
          simp
        case round =>
          obtain ⟨l, i2, more, rfl, rfl, hil, hlk, hi20, hi2n, hmore, hM2⟩ := hrel
          clear hcell hfroz hc0 hc1 hc2 hc3 hc4 hfz
          have hcell := (bcell hM2.below).1
          have hfroz := (bcell hM2.below).2
          have hc0 := hM2.c0
          have hc1 := hM2.c1
          have hc2 := hM2.c2
          have hc3 := hM2.c3
          have hc4 := hM2.c4
          have hfz := hM2.fz
          by_cases hlt2 : i2 < nn - 1
          · have hlk' : l < k := by have := hil.out; have := hq0.out; have := en.out; omega
            cases more
            · obtain ⟨b2, eb2⟩ : ∃ b, b = PS 4 a0 a1 a2 a3 / 2 ^ l % 2 := ⟨_, rfl⟩
              have hbit2 : Hid (x / 2 ^ l % 2 = b2) := by show _ = _; rw [← hx.out.1, eb2]
              have HB2 : Hid (b2 = PS 4 a0 a1 a2 a3 / 2 ^ l % 2) := eb2
              have hb012 : b2 = 0 ∨ b2 = 1 := by omega
              clear eb2
              go_wp2_with fail
              refine (bit_n a0 a1 a2 a3 p0 p1 p2 p3 l (by have := hq0.out; have := en.out; omega) _ b2 (by have := hil.out; omega) HB2.out _).mono ?_
              rintro e w3 ⟨rfl, hb2⟩
              have hM3 := hM2.up hb2
              clear hcell hfroz hc0 hc1 hc2 hc3 hc4 hfz
              have hcell := (bcell hM3.below).1
              have hfroz := (bcell hM3.below).2
              have hc0 := hM3.c0
              have hc1 := hM3.c1
              have hc2 := hM3.c2
              have hc3 := hM3.c3
              have hc4 := hM3.c4
              have hfz := hM3.fz
              rcases hb012 with rfl | rfl
              all_goals
                go_wp2
                go_roundw
                case rel => exact ⟨l + 1, i2 + 1, _, rfl, rfl, by have := hil.out; show i2 + 1 = _; omega, by omega, by omega, by omega, more_step hmore hbit2 (by simp), hM3⟩
                case measure => simp [intOf]; omega
            · go_wp2
              go_roundw
              case rel => exact ⟨l + 1, i2 + 1, true, rfl, rfl, by have := hil.out; show i2 + 1 = _; omega, by omega, by omega, by omega, more_stay hmore, hM2⟩
              case measure => simp [intOf]; omega
          · obtain rfl : l = k := by have := hil.out; have := hq0.out; have := en.out; omega
            have hodd : Hid (r0 % 2 = x / 2 ^ n % 2) := by
              show _ = _
              rw [← hq0.out.1, PS4]
              omega
            have hKQ := fun (_ : Unit) => rq_up x l hbit.out more (by have h := hmore.out; rw [hodd.out, hq0.out.2] at h; exact h)
            cases more
            · have KQ : Hid (rqI x (2 ^ n) = x / 2 ^ n) := by
                show _ = _
                have h := hKQ ()
                rw [hq0.out.2, h]
                simp
              clear hKQ
              go_wp2
              obtain ⟨f0, f1, f2, f3, f4⟩ := five wr (w.heap.size + 1) (.bool s) (.int .u64 r0) (.int .u64 r1) (.int .u64 r2) (.int .u64 r3) (by rw [(bcell hM2.below).1 _ _ (by simp)]; simp [go_sem]; rfl) (by rw [(bcell hM2.below).1 _ _ (by simp)]; simp [go_sem]; rfl) (by rw [(bcell hM2.below).1 _ _ (by simp)]; simp [go_sem]; rfl) (by rw [(bcell hM2.below).1 _ _ (by simp)]; simp [go_sem]; rfl) (by rw [(bcell hM2.below).1 _ _ (by simp)]; simp [go_sem]; rfl)
              have hB : Below w.heap.size w wr := Below.trans (by go_grown) (hM2.below.mono (by omega))
              refine bodyPost_ret (v := .agg #[.bool s, .int .u64 r0, .int .u64 r1, .int .u64 r2, .int .u64 r3]) (by simp [results, Try.results50, go_sem, f0, f1, f2, f3, f4]) rfl ⟨_, rfl, ⟨r0, r1, r2, r3, rfl, hM2.u0, hM2.u1, hM2.u2, hM2.u3, by rw [KQ.out]; exact hq0.out.1⟩, ?_⟩
              exact Below.setCell (Below.setCell (Below.setCell (Below.setCell (Below.setCell hB (by simp) _) (by simp) _) (by simp) _) (by simp) _) (by simp) _
            · have KQ : Hid (rqI x (2 ^ n) = x / 2 ^ n + 1) := by
                show _ = _
                have h := hKQ ()
                rw [hq0.out.2, h]
                simp
              clear hKQ
              go_wp2_with fail
              refine (plus_low r0 r1 r2 r3 1 0 0 0 hM2.u0 hM2.u1 hM2.u2 hM2.u3 (by unfold U; omega) (by unfold U; omega) (by unfold U; omega) (by unfold U; omega) _).mono ?_
              rintro e w2 ⟨c0, c1, c2, c3, cr, rfl, v0, v1, v2, v3, hinv, hb3⟩
              have hM4 := hM2.up hb3
              have hM3 := (((hM4.set0 v0).set1 v1).set2 v2).set3 v3
              have hnum : Hid (PS 4 c0 c1 c2 c3 = rqI x (2 ^ n)) := by
                show _ = _
                have h := hinv.out
                rw [hq0.out.1, BP4, PS4 1 0 0 0] at h
                rw [KQ.out]
                have hlt2 : x / 2 ^ n < 2 ^ 256 - 1 := by
                  rw [hq0.out.2]
                  exact half_lt x l hx.out.2.1 hx.out.2.2
                have hc : 0 ≤ PS 4 c0 c1 c2 c3 := by rw [PS4]; unfold U at *; omega
                omega
              clear hcell hfroz hc0 hc1 hc2 hc3 hc4 hfz
              have hcell := (bcell hM4.below).1
              have hfroz := (bcell hM4.below).2
              have hc0 := hM4.c0
              have hc1 := hM4.c1
              have hc2 := hM4.c2
              have hc3 := hM4.c3
              have hc4 := hM4.c4
              have hfz := hM4.fz
              have hd0 := hM3.c0
              have hd1 := hM3.c1
              have hd2 := hM3.c2
              have hd3 := hM3.c3
              have hd4 := hM3.c4
              go_wp2
              obtain ⟨f0, f1, f2, f3, f4⟩ := five ((((w2.setCell ⟨w.heap.size + 1 + 1, 1, none⟩ (.int .u64 c0)).setCell ⟨w.heap.size + 1 + 1, 2, none⟩ (.int .u64 c1)).setCell ⟨w.heap.size + 1 + 1, 3, none⟩ (.int .u64 c2)).setCell ⟨w.heap.size + 1 + 1, 4, none⟩ (.int .u64 c3)) (w.heap.size + 1) (.bool s) (.int .u64 c0) (.int .u64 c1) (.int .u64 c2) (.int .u64 c3) (by rw [(bcell hM3.below).1 _ _ (by simp)]; simp [go_sem]; rfl) (by rw [(bcell hM3.below).1 _ _ (by simp)]; simp [go_sem]; rfl) (by rw [(bcell hM3.below).1 _ _ (by simp)]; simp [go_sem]; rfl) (by rw [(bcell hM3.below).1 _ _ (by simp)]; simp [go_sem]; rfl) (by rw [(bcell hM3.below).1 _ _ (by simp)]; simp [go_sem]; rfl)
              have hB : Below w.heap.size w ((((w2.setCell ⟨w.heap.size + 1 + 1, 1, none⟩ (.int .u64 c0)).setCell ⟨w.heap.size + 1 + 1, 2, none⟩ (.int .u64 c1)).setCell ⟨w.heap.size + 1 + 1, 3, none⟩ (.int .u64 c2)).setCell ⟨w.heap.size + 1 + 1, 4, none⟩ (.int .u64 c3)) := Below.trans (by go_grown) (hM3.below.mono (by omega))
              refine bodyPost_ret (v := .agg #[.bool s, .int .u64 c0, .int .u64 c1, .int .u64 c2, .int .u64 c3]) (by simp [results, Try.results50, go_sem, f0, f1, f2, f3, f4]) rfl ⟨_, rfl, ⟨c0, c1, c2, c3, rfl, hM3.u0, hM3.u1, hM3.u2, hM3.u3, hnum.out⟩, ?_⟩
              exact Below.setCell (Below.setCell (Below.setCell (Below.setCell (Below.setCell hB (by simp) _) (by simp) _) (by simp) _) (by simp) _) (by simp) _
end Go.Proofs.Ytknadgffflhlgaa.Rf
