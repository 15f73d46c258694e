/- A signed number that lies in memory, bit by bit; the reference's shift. -/
import Derived.Test.YtokjokgmmkancaaDoorRefM
import Derived.Test.YtokjokgmmkancaaDoorRefD
namespace Go.Proofs.YtokjokgmmkancaaDoor.Rf
open Go.RowKit Fx
set_option linter.unusedVariables false
set_option linter.unusedSimpArgs false
attribute [local go_sem] setCell_drewN alloc_drewN
/-- Block b holds a sign and four words; below B all is as it was. -/
structure Mem (B : Nat) (W2 : World) (b : Nat) (s : Bool) (r0 r1 r2 r3 : Int) (wr : World) : Prop where
  below : Below B W2 wr
  le : B ≤ b
  lt : b < wr.heap.size
  c0 : wr.cell? ⟨b, 0, none⟩ = some (.bool s)
  c1 : wr.cell? ⟨b, 1, none⟩ = some (.int .u64 r0)
  c2 : wr.cell? ⟨b, 2, none⟩ = some (.int .u64 r1)
  c3 : wr.cell? ⟨b, 3, none⟩ = some (.int .u64 r2)
  c4 : wr.cell? ⟨b, 4, none⟩ = some (.int .u64 r3)
  fz : ∀ o, wr.frozen? ⟨b, o, none⟩ = false
  u0 : U r0
  u1 : U r1
  u2 : U r2
  u3 : U r3
theorem Mem.up {B : Nat} {W2 wr w1 : World} {b : Nat} {s : Bool} {r0 r1 r2 r3 : Int} (h : Mem B W2 b s r0 r1 r2 r3 wr) (hb : Below wr.heap.size wr w1) : Mem B W2 b s r0 r1 r2 r3 w1 := by
  obtain ⟨hc, hf⟩ := bcell hb
  have hl : wr.heap.size ≤ w1.heap.size := hb.size
  have h1 := h.le
  have h2 := h.lt
  exact ⟨h.below.trans (hb.mono (by omega)), h.le, by omega, by rw [hc _ _ h2]; exact h.c0, by rw [hc _ _ h2]; exact h.c1, by rw [hc _ _ h2]; exact h.c2, by rw [hc _ _ h2]; exact h.c3, by rw [hc _ _ h2]; exact h.c4, fun o => by rw [hf _ _ h2]; exact h.fz o, h.u0, h.u1, h.u2, h.u3⟩
theorem Mem.set0 {B : Nat} {W2 wr : World} {b : Nat} {s : Bool} {r0 r1 r2 r3 v : Int} (h : Mem B W2 b s r0 r1 r2 r3 wr) (hv : U v) : Mem B W2 b s v r1 r2 r3 (wr.setCell ⟨b, 1, none⟩ (.int .u64 v)) :=
  ⟨h.below.setCell h.le _, h.le, by rw [World.size_setCell]; exact h.lt, by rw [set_off (by omega)]; exact h.c0, set_same h.c1, by rw [set_off (by omega)]; exact h.c2, by rw [set_off (by omega)]; exact h.c3, by rw [set_off (by omega)]; exact h.c4, fun o => by rw [World.frozen?_setCell]; exact h.fz o, hv, h.u1, h.u2, h.u3⟩
theorem Mem.set1 {B : Nat} {W2 wr : World} {b : Nat} {s : Bool} {r0 r1 r2 r3 v : Int} (h : Mem B W2 b s r0 r1 r2 r3 wr) (hv : U v) : Mem B W2 b s r0 v r2 r3 (wr.setCell ⟨b, 2, none⟩ (.int .u64 v)) :=
  ⟨h.below.setCell h.le _, h.le, by rw [World.size_setCell]; exact h.lt, by rw [set_off (by omega)]; exact h.c0, by rw [set_off (by omega)]; exact h.c1, set_same h.c2, by rw [set_off (by omega)]; exact h.c3, by rw [set_off (by omega)]; exact h.c4, fun o => by rw [World.frozen?_setCell]; exact h.fz o, h.u0, hv, h.u2, h.u3⟩
theorem Mem.set2 {B : Nat} {W2 wr : World} {b : Nat} {s : Bool} {r0 r1 r2 r3 v : Int} (h : Mem B W2 b s r0 r1 r2 r3 wr) (hv : U v) : Mem B W2 b s r0 r1 v r3 (wr.setCell ⟨b, 3, none⟩ (.int .u64 v)) :=
  ⟨h.below.setCell h.le _, h.le, by rw [World.size_setCell]; exact h.lt, by rw [set_off (by omega)]; exact h.c0, by rw [set_off (by omega)]; exact h.c1, by rw [set_off (by omega)]; exact h.c2, set_same h.c3, by rw [set_off (by omega)]; exact h.c4, fun o => by rw [World.frozen?_setCell]; exact h.fz o, h.u0, h.u1, hv, h.u3⟩
theorem Mem.set3 {B : Nat} {W2 wr : World} {b : Nat} {s : Bool} {r0 r1 r2 r3 v : Int} (h : Mem B W2 b s r0 r1 r2 r3 wr) (hv : U v) : Mem B W2 b s r0 r1 r2 v (wr.setCell ⟨b, 4, none⟩ (.int .u64 v)) :=
  ⟨h.below.setCell h.le _, h.le, by rw [World.size_setCell]; exact h.lt, by rw [set_off (by omega)]; exact h.c0, by rw [set_off (by omega)]; exact h.c1, by rw [set_off (by omega)]; exact h.c2, by rw [set_off (by omega)]; exact h.c3, set_same h.c4, fun o => by rw [World.frozen?_setCell]; exact h.fz o, h.u0, h.u1, h.u2, hv⟩
theorem set_num0 {r0 r1 r2 r3 z y : Int} (h : Hid (PS 4 r0 r1 r2 r3 = z)) (tt m : Nat) (hm : m = 64 * 0 + tt) (hy : y = z + 2 ^ m) : Hid (PS 4 (r0 + 2 ^ tt) r1 r2 r3 = y) := by
  have h' := h.out
  show PS 4 (r0 + 2 ^ tt) r1 r2 r3 = y
  rw [hy, ← h', PS4, PS4, hm, Int.pow_add]
  generalize (2 : Int) ^ tt = P
  show _ = _ + 1 * P
  omega
theorem set_num1 {r0 r1 r2 r3 z y : Int} (h : Hid (PS 4 r0 r1 r2 r3 = z)) (tt m : Nat) (hm : m = 64 * 1 + tt) (hy : y = z + 2 ^ m) : Hid (PS 4 r0 (r1 + 2 ^ tt) r2 r3 = y) := by
  have h' := h.out
  show PS 4 r0 (r1 + 2 ^ tt) r2 r3 = y
  rw [hy, ← h', PS4, PS4, hm, Int.pow_add]
  generalize (2 : Int) ^ tt = P
  show _ = _ + 18446744073709551616 * P
  omega
theorem set_num2 {r0 r1 r2 r3 z y : Int} (h : Hid (PS 4 r0 r1 r2 r3 = z)) (tt m : Nat) (hm : m = 64 * 2 + tt) (hy : y = z + 2 ^ m) : Hid (PS 4 r0 r1 (r2 + 2 ^ tt) r3 = y) := by
  have h' := h.out
  show PS 4 r0 r1 (r2 + 2 ^ tt) r3 = y
  rw [hy, ← h', PS4, PS4, hm, Int.pow_add]
  generalize (2 : Int) ^ tt = P
  show _ = _ + 340282366920938463463374607431768211456 * P
  omega
theorem set_num3 {r0 r1 r2 r3 z y : Int} (h : Hid (PS 4 r0 r1 r2 r3 = z)) (tt m : Nat) (hm : m = 64 * 3 + tt) (hy : y = z + 2 ^ m) : Hid (PS 4 r0 r1 r2 (r3 + 2 ^ tt) = y) := by
  have h' := h.out
  show PS 4 r0 r1 r2 (r3 + 2 ^ tt) = y
  rw [hy, ← h', PS4, PS4, hm, Int.pow_add]
  generalize (2 : Int) ^ tt = P
  show _ = _ + 6277101735386680763835789423207666416102355444464034512896 * P
  omega
theorem mul_bit (x : Int) (n m : Nat) (h : n ≤ m) : x * 2 ^ n / 2 ^ m % 2 = x / 2 ^ (m - n) % 2 := by
  rw [show m = n + (m - n) by omega, div_two, Int.mul_ediv_cancel _ (Int.ne_of_gt (two_pos n)), show n + (m - n) - n = m - n by omega]
set_option maxHeartbeats 4000000 in
set_option maxRecDepth 20000 in
theorem Shifted_low (s : Bool) (a0 a1 a2 a3 : Int) (p0 : U a0) (p1 : U a1) (p2 : U a2) (p3 : U a3) (n : Nat) (hn : n < 256) (nn : Int) (en : Hid (nn = (n : Int))) (hnn : 0 ≤ nn ∧ nn < 256) (X : Int) (hX : Hid (X = PS 4 a0 a1 a2 a3 * 2 ^ n)) (hX0 : Hid (hp X 256 = 0)) (w : World) :
    Calls Tryd.prog 45 #[.agg #[.bool s, .int .u64 a0, .int .u64 a1, .int .u64 a2, .int .u64 a3], .int .i64 nn] w fun e w' => ∃ v, e = .returned v ∧ IsN v s (hp X n) ∧ Below w.heap.size w w' := by
  go_enter Tryd.func45, Tryd.ntmps45
  go_wp2
  go_loopw [6] (fun v wr => ∃ (j : Nat) (i r0 r1 r2 r3 : Int), v = .int .i64 i ∧ Hid (i + 1 = (j : Int)) ∧ n ≤ j ∧ j ≤ 256 ∧ nn ≤ i + 1 ∧ i < 256 ∧ Hid (PS 4 r0 r1 r2 r3 = hp X j) ∧
      Mem (w.heap.size + 1 + 1) ((w.alloc (.cells #[.bool s, .int .u64 a0, .int .u64 a1, .int .u64 a2, .int .u64 a3] 49)).alloc (.cells #[.bool false, .int .u64 0, .int .u64 0, .int .u64 0, .int .u64 0] 49)) (w.heap.size + 1 + 1) s r0 r1 r2 r3 wr) (fun v _ => (intOf v + 1).toNat)
  case atStart =>
    refine ⟨256, 255, 0, 0, 0, 0, rfl, rfl, by omega, by omega, by omega, by omega, ?_, ?_⟩
    · show PS 4 0 0 0 0 = hp X 256
      rw [PS4, hX0.out]
      omega
    · exact ⟨by go_grown, by omega, by simp, by simp [go_sem], by simp [go_sem], by simp [go_sem], by simp [go_sem], by simp [go_sem], fun o => by simp [go_sem], by unfold U; omega, by unfold U; omega, by unfold U; omega, by unfold U; omega⟩
  case round =>
    obtain ⟨j, i, r0, r1, r2, r3, rfl, hij, hnj, hj, hni, hi, hPS, hM⟩ := hrel
    have hcell := (bcell hM.below).1
    have hfroz := (bcell hM.below).2
    have hc0 := hM.c0
    have hc1 := hM.c1
    have hc2 := hM.c2
    have hc3 := hM.c3
    have hc4 := hM.c4
    have hfz := hM.fz
    by_cases hlt : nn ≤ i
    · obtain ⟨m, rfl⟩ : ∃ m, j = m + 1 := ⟨j - 1, by have := hij.out; have := en.out; omega⟩
      have hnm : n ≤ m := by have := hij.out; have := en.out; omega
      obtain ⟨bt, ebt⟩ : ∃ b, b = PS 4 a0 a1 a2 a3 / 2 ^ (m - n) % 2 := ⟨_, rfl⟩
      have hbit : Hid (X / 2 ^ m % 2 = bt) := by show _ = _; rw [hX.out, mul_bit _ _ _ hnm, ebt]
      have HB : Hid (bt = PS 4 a0 a1 a2 a3 / 2 ^ (m - n) % 2) := ebt
      have hb01 : bt = 0 ∨ bt = 1 := by omega
      clear ebt
      go_wp2_with fail
      refine (bit_n a0 a1 a2 a3 p0 p1 p2 p3 (m - n) (by omega) _ bt (by have := hij.out; have := en.out; omega) HB.out _).mono ?_
      rintro e w1 ⟨rfl, hb⟩
      have hM1 := hM.up hb
      clear hcell hfroz hc0 hc1 hc2 hc3 hc4 hfz
      have hcell := (bcell hM1.below).1
      have hfroz := (bcell hM1.below).2
      have hc0 := hM1.c0
      have hc1 := hM1.c1
      have hc2 := hM1.c2
      have hc3 := hM1.c3
      have hc4 := hM1.c4
      have hfz := hM1.fz
      rcases hb01 with rfl | rfl
      · go_wp2
        go_roundw
        case rel => exact ⟨m, i - 1, r0, r1, r2, r3, rfl, by have := hij.out; show i - 1 + 1 = _; omega, by omega, by omega, by omega, by omega, (by show _ = _; rw [hp_step, hbit.out, ← hPS.out]; omega), hM1⟩
        case measure => simp [intOf]; omega
      · obtain ⟨tt, ett⟩ : ∃ tt, tt = m % 64 := ⟨_, rfl⟩
        have htt : tt < 64 := by omega
        have ETT : Hid (tt = m % 64) := ett
        clear ett
        have hq : m / 64 = 0 ∨ m / 64 = 1 ∨ m / 64 = 2 ∨ m / 64 = 3 := by omega
        rcases hq with hq | hq | hq | hq
        · have ett := ETT.out
          have hi1 : i % 64 = (tt : Int) := by have := hij.out; omega
          have hi2 : i / 64 = 0 := by have := hij.out; omega
          have hbz : r0 / 2 ^ tt % 2 = 0 := by
            rw [← (limb_bit r0 r1 r2 r3 hM.u0 hM.u1 hM.u2 hM.u3 tt htt).1, show 64 * 0 + tt = m by omega, hPS.out]
            exact hp_bit _ _
          have hor := or_set r0 tt hM.u0 htt hbz
          have hor1 := hor.1
          have hwp := wrap_pow tt htt
          have HZ : Hid (r0 / 2 ^ tt % 2 = 0) := hbz
          have HM : Hid (m = 64 * 0 + tt) := by show _ = _; omega
          clear hbz ett hq
          go_wp2
          go_roundw
          case rel => exact ⟨m, i - 1, (r0 + 2 ^ tt), r1, r2, r3, rfl, by have := hij.out; show i - 1 + 1 = _; omega, by omega, by omega, by omega, by omega, set_num0 hPS tt m HM.out (by rw [hp_step, hbit.out]; omega), hM1.set0 hor.2⟩
          case measure => simp [intOf]; omega
        · have ett := ETT.out
          have hi1 : i % 64 = (tt : Int) := by have := hij.out; omega
          have hi2 : i / 64 = 1 := by have := hij.out; omega
          have hbz : r1 / 2 ^ tt % 2 = 0 := by
            rw [← (limb_bit r0 r1 r2 r3 hM.u0 hM.u1 hM.u2 hM.u3 tt htt).2.1, show 64 * 1 + tt = m by omega, hPS.out]
            exact hp_bit _ _
          have hor := or_set r1 tt hM.u1 htt hbz
          have hor1 := hor.1
          have hwp := wrap_pow tt htt
          have HZ : Hid (r1 / 2 ^ tt % 2 = 0) := hbz
          have HM : Hid (m = 64 * 1 + tt) := by show _ = _; omega
          clear hbz ett hq
          go_wp2
          go_roundw
          case rel => exact ⟨m, i - 1, r0, (r1 + 2 ^ tt), r2, r3, rfl, by have := hij.out; show i - 1 + 1 = _; omega, by omega, by omega, by omega, by omega, set_num1 hPS tt m HM.out (by rw [hp_step, hbit.out]; omega), hM1.set1 hor.2⟩
          case measure => simp [intOf]; omega
        · have ett := ETT.out
          have hi1 : i % 64 = (tt : Int) := by have := hij.out; omega
          have hi2 : i / 64 = 2 := by have := hij.out; omega
          have hbz : r2 / 2 ^ tt % 2 = 0 := by
            rw [← (limb_bit r0 r1 r2 r3 hM.u0 hM.u1 hM.u2 hM.u3 tt htt).2.2.1, show 64 * 2 + tt = m by omega, hPS.out]
            exact hp_bit _ _
          have hor := or_set r2 tt hM.u2 htt hbz
          have hor1 := hor.1
          have hwp := wrap_pow tt htt
          have HZ : Hid (r2 / 2 ^ tt % 2 = 0) := hbz
          have HM : Hid (m = 64 * 2 + tt) := by show _ = _; omega
          clear hbz ett hq
          go_wp2
          go_roundw
          case rel => exact ⟨m, i - 1, r0, r1, (r2 + 2 ^ tt), r3, rfl, by have := hij.out; show i - 1 + 1 = _; omega, by omega, by omega, by omega, by omega, set_num2 hPS tt m HM.out (by rw [hp_step, hbit.out]; omega), hM1.set2 hor.2⟩
          case measure => simp [intOf]; omega
        · have ett := ETT.out
          have hi1 : i % 64 = (tt : Int) := by have := hij.out; omega
          have hi2 : i / 64 = 3 := by have := hij.out; omega
          have hbz : r3 / 2 ^ tt % 2 = 0 := by
            rw [← (limb_bit r0 r1 r2 r3 hM.u0 hM.u1 hM.u2 hM.u3 tt htt).2.2.2, show 64 * 3 + tt = m by omega, hPS.out]
            exact hp_bit _ _
          have hor := or_set r3 tt hM.u3 htt hbz
          have hor1 := hor.1
          have hwp := wrap_pow tt htt
          have HZ : Hid (r3 / 2 ^ tt % 2 = 0) := hbz
          have HM : Hid (m = 64 * 3 + tt) := by show _ = _; omega
          clear hbz ett hq
          go_wp2
          go_roundw
          case rel => exact ⟨m, i - 1, r0, r1, r2, (r3 + 2 ^ tt), rfl, by have := hij.out; show i - 1 + 1 = _; omega, by omega, by omega, by omega, by omega, set_num3 hPS tt m HM.out (by rw [hp_step, hbit.out]; omega), hM1.set3 hor.2⟩
          case measure => simp [intOf]; omega
    · obtain rfl : j = n := by have := hij.out; have := en.out; omega
      go_wp2
      obtain ⟨f0, f1, f2, f3, f4⟩ := five wr (w.heap.size + 1) (.bool s) (.int .u64 r0) (.int .u64 r1) (.int .u64 r2) (.int .u64 r3) (by rw [hcell _ _ (by simp)]; simp [go_sem]; rfl) (by rw [hcell _ _ (by simp)]; simp [go_sem]; rfl) (by rw [hcell _ _ (by simp)]; simp [go_sem]; rfl) (by rw [hcell _ _ (by simp)]; simp [go_sem]; rfl) (by rw [hcell _ _ (by simp)]; simp [go_sem]; rfl)
      have hB : Below w.heap.size w wr := Below.trans (by go_grown) (hM.below.mono (by omega))
      refine bodyPost_ret (v := .agg #[.bool s, .int .u64 r0, .int .u64 r1, .int .u64 r2, .int .u64 r3]) (by simp [results, Tryd.results45, go_sem, f0, f1, f2, f3, f4]) rfl ⟨_, rfl, ⟨r0, r1, r2, r3, rfl, hM.u0, hM.u1, hM.u2, hM.u3, hPS.out⟩, ?_⟩
      go_grown
end Go.Proofs.YtokjokgmmkancaaDoor.Rf
