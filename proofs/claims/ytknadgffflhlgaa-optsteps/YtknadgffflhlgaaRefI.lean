/- The reference's product of two whole numbers. -/
import Derived.Test.YtknadgffflhlgaaRefF
import Derived.Test.YtknadgffflhlgaaKnuth
namespace Go.Proofs.Ytknadgffflhlgaa.Rf
open Go.RowKit Fx
set_option linter.unusedVariables false
set_option linter.unusedSimpArgs false
attribute [local go_sem] setCell_drewN alloc_drewN
/-- Block b holds four words; below B all is as it was. -/
structure MemA (B : Nat) (W2 : World) (b : Nat) (r0 r1 r2 r3 : Int) (wr : World) : Prop where
  below : Below B W2 wr
  le : B ≤ b
  lt : b < wr.heap.size
  c0 : wr.cell? ⟨b, 0, none⟩ = some (.int .u64 r0)
  c1 : wr.cell? ⟨b, 1, none⟩ = some (.int .u64 r1)
  c2 : wr.cell? ⟨b, 2, none⟩ = some (.int .u64 r2)
  c3 : wr.cell? ⟨b, 3, none⟩ = some (.int .u64 r3)
  fz : ∀ o, wr.frozen? ⟨b, o, none⟩ = false
  u0 : U r0
  u1 : U r1
  u2 : U r2
  u3 : U r3
theorem MemA.up {B : Nat} {W2 wr w1 : World} {b : Nat} {r0 r1 r2 r3 : Int} (h : MemA B W2 b r0 r1 r2 r3 wr) (hb : Below wr.heap.size wr w1) : MemA B W2 b r0 r1 r2 r3 w1 := by
  obtain ⟨hc, hf⟩ := bcell hb
  have hl : wr.heap.size ≤ w1.heap.size := hb.size
  have h1 := h.le
  have h2 := h.lt
  exact ⟨h.below.trans (hb.mono (by omega)), h.le, by omega, by rw [hc _ _ h2]; exact h.c0, by rw [hc _ _ h2]; exact h.c1, by rw [hc _ _ h2]; exact h.c2, by rw [hc _ _ h2]; exact h.c3, fun o => by rw [hf _ _ h2]; exact h.fz o, h.u0, h.u1, h.u2, h.u3⟩
theorem MemA.set {B : Nat} {W2 wr : World} {b : Nat} {r0 r1 r2 r3 v0 v1 v2 v3 : Int} (h : MemA B W2 b r0 r1 r2 r3 wr) (h0 : U v0) (h1 : U v1) (h2 : U v2) (h3 : U v3) :
    MemA B W2 b v0 v1 v2 v3 ((((wr.setCell ⟨b, 0, none⟩ (.int .u64 v0)).setCell ⟨b, 1, none⟩ (.int .u64 v1)).setCell ⟨b, 2, none⟩ (.int .u64 v2)).setCell ⟨b, 3, none⟩ (.int .u64 v3)) := by
  refine ⟨(((h.below.setCell h.le _).setCell h.le _).setCell h.le _).setCell h.le _, h.le, by simp only [World.size_setCell]; exact h.lt, ?_, ?_, ?_, ?_, fun o => by simp only [World.frozen?_setCell]; exact h.fz o, h0, h1, h2, h3⟩
  · rw [set_off (by omega), set_off (by omega), set_off (by omega)]; exact set_same h.c0
  · rw [set_off (by omega), set_off (by omega)]; exact set_same (by rw [set_off (by omega)]; exact h.c1)
  · rw [set_off (by omega)]; exact set_same (by rw [set_off (by omega), set_off (by omega)]; exact h.c2)
  · exact set_same (by rw [set_off (by omega), set_off (by omega), set_off (by omega)]; exact h.c3)
theorem idx_0 (p q : Int) (W : World) : Sem.run Try.prog (Instr.index 90 (.agg #[.int .u64 p, .int .u64 q]) (.int .i64 0)) W = .ok (.int .u64 p) W := by
  simp [Instr.index, go_sem]
theorem idx_1 (p q : Int) (W : World) : Sem.run Try.prog (Instr.index 90 (.agg #[.int .u64 p, .int .u64 q]) (.int .i64 1)) W = .ok (.int .u64 q) W := by
  simp [Instr.index, go_sem]
attribute [local go_sem] idx_0 idx_1
def rem2 (k : Nat) (p q : Int) : Int := if k = 0 then (p + q) * 4294967296 else if k = 1 then q * 4294967296 else 0
theorem half_mul (a b : Int) (ha : 0 ≤ a ∧ a < 4294967296) (hb : 0 ≤ b ∧ b < 4294967296) : 0 ≤ a * b ∧ a * b ≤ 18446744065119617025 := by
  refine ⟨Int.mul_nonneg ha.1 hb.1, ?_⟩
  have := Int.mul_le_mul (show a ≤ 4294967295 by omega) (show b ≤ 4294967295 by omega) hb.1 (by omega)
  omega
theorem times_split (x y x0 x1 y0 y1 : Int) (hx : x = x1 * 4294967296 + x0) (hy : y = y1 * 4294967296 + y0) :
    x * y = x0 * y0 + x1 * y1 * 18446744073709551616 + (x0 * y1 + x1 * y0) * 4294967296 := by
  rw [hx, hy, Int.add_mul, Int.mul_add, Int.mul_add]
  have e1 : x1 * 4294967296 * (y1 * 4294967296) = x1 * y1 * 18446744073709551616 := by
    rw [Int.mul_assoc x1, Int.mul_comm 4294967296 (y1 * 4294967296), ← Int.mul_assoc x1, ← Int.mul_assoc x1, Int.mul_assoc (x1 * y1)]
    rfl
  have e2 : x1 * 4294967296 * y0 = x1 * y0 * 4294967296 := by rw [Int.mul_assoc, Int.mul_comm 4294967296, ← Int.mul_assoc]
  have e3 : x0 * (y1 * 4294967296) = x0 * y1 * 4294967296 := by rw [← Int.mul_assoc]
  rw [e1, e2, e3]
  omega
set_option maxHeartbeats 4000000 in
set_option maxRecDepth 20000 in
theorem Times_low (a b x y x0 x1 y0 y1 p00 p11 p01 p10 Z : Int) (sg2 : Bool) (ha : InR a) (hb : InR b) (hsz : Hid ((a.natAbs : Int) = x ∧ (b.natAbs : Int) = y)) (hsg : Hid ((decide (a < 0) == decide (b < 0)) = !sg2))
    (e1 : bits .and .u64 x 4294967295 = x0) (e2 : x / 4294967296 = x1) (e3 : bits .and .u64 y 4294967295 = y0) (e4 : y / 4294967296 = y1)
    (hx : 0 ≤ x ∧ x ≤ 9223372036854775808) (hy : 0 ≤ y ∧ y ≤ 9223372036854775808) (hx0 : 0 ≤ x0 ∧ x0 < 4294967296) (hx1 : 0 ≤ x1 ∧ x1 < 4294967296) (hy0 : 0 ≤ y0 ∧ y0 < 4294967296) (hy1 : 0 ≤ y1 ∧ y1 < 4294967296)
    (f1 : x0 * y0 = p00) (f2 : x1 * y1 = p11) (f3 : x0 * y1 = p01) (f4 : x1 * y0 = p10) (g1 : 0 ≤ p00 ∧ p00 ≤ 18446744065119617025) (g2 : 0 ≤ p11 ∧ p11 ≤ 18446744065119617025) (g3 : 0 ≤ p01 ∧ p01 ≤ 18446744065119617025) (g4 : 0 ≤ p10 ∧ p10 ≤ 18446744065119617025)
    (hZ : Hid (p00 + p11 * 18446744073709551616 + (p01 + p10) * 4294967296 = Z ∧ Z < 340282366920938463463374607431768211456)) (w : World) :
    Calls Try.prog 51 #[.int .i64 a, .int .i64 b] w fun e w' => ∃ v, e = .returned v ∧ IsN v sg2 Z ∧ Below w.heap.size w w' := by
  go_enter Try.func51, Try.ntmps51
  go_wp2_with fail
  refine (size_ref a x ha hsz.out.1 _).mono ?_
  rintro e w' ⟨rfl, rfl⟩
  go_wp2_with fail
  refine (size_ref b y hb hsz.out.2 _).mono ?_
  rintro e w' ⟨rfl, rfl⟩
  go_wp2
  clear e1 e2 e3 e4 f1 f2 f3 f4
  go_loopw [40] (fun v wr => ∃ (k : Nat) (r0 r1 r2 r3 : Int), v = .int .i64 (k : Int) ∧ k ≤ 2 ∧ Hid (PS 4 r0 r1 r2 r3 + rem2 k p01 p10 = Z) ∧ MemA (w.heap.size + 1) (w.alloc (.cells #[.bool false, .int .u64 0, .int .u64 0, .int .u64 0, .int .u64 0] 60)) (w.heap.size + 1) r0 r1 r2 r3 wr) (fun v _ => 2 - (intOf v).toNat)
  case atStart =>
    refine ⟨0, p00, p11, 0, 0, rfl, by omega, ?_, ?_⟩
    · show PS 4 p00 p11 0 0 + rem2 0 p01 p10 = Z
      rw [PS4, ← hZ.out.1]
      simp [rem2]
    · exact ⟨by go_grown, by omega, by simp, by simp [go_sem], by simp [go_sem], by simp [go_sem], by simp [go_sem], fun o => by simp [go_sem], by unfold U; omega, by unfold U; omega, by unfold U; omega, by unfold U; omega⟩
  case round =>
    obtain ⟨k, r0, r1, r2, r3, rfl, hk, hPS, hM⟩ := hrel
    have hcell := (bcell hM.below).1
    have hfroz := (bcell hM.below).2
    have hc0 := hM.c0
    have hc1 := hM.c1
    have hc2 := hM.c2
    have hc3 := hM.c3
    have hfz := hM.fz
    match k, hk with
    | 0, _ =>
      go_wp2_with fail
      refine (plus_low r0 r1 r2 r3 (IntKind.u64.wrap (p01 * 4294967296)) (p01 / 4294967296) 0 0 hM.u0 hM.u1 hM.u2 hM.u3 (wr_U _) (by unfold U; omega) (by unfold U; omega) (by unfold U; omega) _).mono ?_
      rintro e w1 ⟨c0, c1, c2, c3, cr, rfl, v0, v1, v2, v3, hinv, hb⟩
      have hM1 := hM.up hb
      have hM2 := hM1.set v0 v1 v2 v3
      have hN : Hid (PS 4 c0 c1 c2 c3 + rem2 1 p01 p10 = Z) := by
        show _ = _
        have h := hinv.out
        have h' := hPS.out
        have hZb := hZ.out.2
        have hc : 0 ≤ PS 4 c0 c1 c2 c3 := by rw [PS4]; unfold U at *; omega
        rw [BP4, PS4 (IntKind.u64.wrap (p01 * 4294967296)), IntKind.wrap_u64] at h
        simp [rem2] at h' ⊢
        omega
      clear hcell hfroz hc0 hc1 hc2 hc3 hfz
      have hcell := (bcell hM1.below).1
      have hfroz := (bcell hM1.below).2
      have hc0 := hM1.c0
      have hc1 := hM1.c1
      have hc2 := hM1.c2
      have hc3 := hM1.c3
      have hfz := hM1.fz
      go_wp2
      go_roundw
      case rel => exact ⟨1, c0, c1, c2, c3, rfl, by omega, hN, hM2⟩
      case measure => simp [intOf]
    | 1, _ =>
      go_wp2_with fail
      refine (plus_low r0 r1 r2 r3 (IntKind.u64.wrap (p10 * 4294967296)) (p10 / 4294967296) 0 0 hM.u0 hM.u1 hM.u2 hM.u3 (wr_U _) (by unfold U; omega) (by unfold U; omega) (by unfold U; omega) _).mono ?_
      rintro e w1 ⟨c0, c1, c2, c3, cr, rfl, v0, v1, v2, v3, hinv, hb⟩
      have hM1 := hM.up hb
      have hM2 := hM1.set v0 v1 v2 v3
      have hN : Hid (PS 4 c0 c1 c2 c3 + rem2 2 p01 p10 = Z) := by
        show _ = _
        have h := hinv.out
        have h' := hPS.out
        have hZb := hZ.out.2
        have hc : 0 ≤ PS 4 c0 c1 c2 c3 := by rw [PS4]; unfold U at *; omega
        rw [BP4, PS4 (IntKind.u64.wrap (p10 * 4294967296)), IntKind.wrap_u64] at h
        simp [rem2] at h' ⊢
        omega
      clear hcell hfroz hc0 hc1 hc2 hc3 hfz
      have hcell := (bcell hM1.below).1
      have hfroz := (bcell hM1.below).2
      have hc0 := hM1.c0
      have hc1 := hM1.c1
      have hc2 := hM1.c2
      have hc3 := hM1.c3
      have hfz := hM1.fz
      go_wp2
      go_roundw
      case rel => exact ⟨2, c0, c1, c2, c3, rfl, by omega, hN, hM2⟩
      case measure => simp [intOf]
    | 2, _ =>
      go_wp2
      obtain ⟨f0, f1, f2, f3, f4⟩ := five wr w.heap.size (.bool (!(decide (a < 0) == decide (b < 0)))) (.int .u64 r0) (.int .u64 r1) (.int .u64 r2) (.int .u64 r3) (by rw [hcell _ _ (by simp)]; simp [go_sem]; rfl) (by rw [hcell _ _ (by simp)]; simp [go_sem]; rfl) (by rw [hcell _ _ (by simp)]; simp [go_sem]; rfl) (by rw [hcell _ _ (by simp)]; simp [go_sem]; rfl) (by rw [hcell _ _ (by simp)]; simp [go_sem]; rfl)
      have hB : Below w.heap.size w wr := Below.trans (by go_grown) (hM.below.mono (by omega))
      refine bodyPost_ret (v := .agg #[.bool (!(decide (a < 0) == decide (b < 0))), .int .u64 r0, .int .u64 r1, .int .u64 r2, .int .u64 r3]) (by simp [results, Try.results51, go_sem, f0, f1, f2, f3, f4]) rfl ⟨_, rfl, ⟨r0, r1, r2, r3, by rw [hsg.out, Bool.not_not], hM.u0, hM.u1, hM.u2, hM.u3, ?_⟩, ?_⟩
      · have h := hPS.out
        simp [rem2] at h
        exact h
      · exact Below.setCell (Below.setCell (Below.setCell (Below.setCell (Below.setCell hB (by simp) _) (by simp) _) (by simp) _) (by simp) _) (by simp) _
end Go.Proofs.Ytknadgffflhlgaa.Rf
