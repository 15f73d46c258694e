/- The reference's numbers, each call's value told ahead of the world; a number that lies in a block. -/
import Derived.Test.YthcfeiddbffcfaaDoorRefS
import Derived.Test.YthcfeiddbffcfaaDoorRefP
import Derived.Test.YthcfeiddbffcfaaDoorLie
import Derived.Test.YthcfeiddbffcfaaDoorShpA
import Derived.Test.YthcfeiddbffcfaaDoorTenW
namespace Go.Proofs.YthcfeiddbffcfaaDoor.Rf
open Go.RowKit Fx
set_option linter.unusedVariables false
set_option linter.unusedSimpArgs false
theorem plusD {v u : Value} {S T : Int} (hv : IsS v S) (hu : IsS u T) (hb : (S.natAbs : Int) + (T.natAbs : Int) < 115792089237316195423570985008687907853269984665640564039457584007913129639936) :
    ∃ z, IsS z (S + T) ∧ ∀ W, Calls Tryd.prog 39 #[v, u] W fun e w' => e = .returned z ∧ Below W.heap.size W w' := by
  obtain ⟨s, x, h1, h2⟩ := hv
  obtain ⟨t, y, h3, h4⟩ := hu
  have hx := abs_of h1 h2
  have hy := abs_of h3 h4
  have hl := pls_le s x t y (by omega) (by omega)
  obtain ⟨a0, a1, a2, a3, e, hN⟩ := nv_words (pls s x t y).1 (pls s x t y).2 hl.1 (by omega)
  refine ⟨nv (pls s x t y).1 (pls s x t y).2, ⟨_, _, by rw [e]; exact hN, by rw [pls_sv, h2, h4]⟩, fun W => ?_⟩
  exact plus_nv v u s t x y h1 h3 (by omega) W
theorem timesD {a b : Int} (ha : InR a) (hb : InR b) : ∃ z, IsS z (a * b) ∧ ∀ W, Calls Tryd.prog 40 #[.int .i64 a, .int .i64 b] W fun e w' => e = .returned z ∧ Below W.heap.size W w' := by
  have hp := Wd.prod_rng ha hb
  have hm : (((a.natAbs * b.natAbs : Nat) : Int)) < 115792089237316195423570985008687907853269984665640564039457584007913129639936 := by
    rw [← Int.natAbs_mul]
    omega
  obtain ⟨a0, a1, a2, a3, e, hN⟩ := nv_words (Fx.differ a b) ((a.natAbs * b.natAbs : Nat) : Int) (by omega) hm
  refine ⟨nv (Fx.differ a b) ((a.natAbs * b.natAbs : Nat) : Int), ⟨_, _, by rw [e]; exact hN, sv_prod a b⟩, fun W => ?_⟩
  refine (times_any a b ha hb W).mono ?_
  rintro e w' ⟨z, rfl, h5, h7⟩
  exact ⟨by rw [h5.nv], h7⟩
theorem fromD {a : Int} (ha : InR a) : ∃ z, IsS z a ∧ ∀ W, Calls Tryd.prog 46 #[.int .i64 a] W fun e w' => e = .returned z ∧ Below W.heap.size W w' := by
  obtain ⟨a0, a1, a2, a3, e, hN⟩ := nv_words (decide (a < 0)) (a.natAbs : Int) (by omega) (by unfold InR at ha; omega)
  exact ⟨nv (decide (a < 0)) (a.natAbs : Int), ⟨_, _, by rw [e]; exact hN, sv_from a⟩, fun W => from_nv a ha W⟩
theorem halvedD {v : Value} {S : Int} (hv : IsS v S) : ∃ z, IsS z (Wd.rqI S 4294967296) ∧ ∀ W, Calls Tryd.prog 42 #[v, .int .i64 32] W fun e w' => e = .returned z ∧ Below W.heap.size W w' := by
  obtain ⟨s, x, h1, h2⟩ := hv
  have hx := h1.rng
  have hq : 0 ≤ rqI x 4294967296 ∧ rqI x 4294967296 < 115792089237316195423570985008687907853269984665640564039457584007913129639936 := by
    unfold rqI
    split <;> omega
  obtain ⟨a0, a1, a2, a3, e, hN⟩ := nv_words s (rqI x 4294967296) hq.1 hq.2
  refine ⟨nv s (rqI x 4294967296), ⟨_, _, by rw [e]; exact hN, by rw [sv_rq _ _ _ (by omega), h2]⟩, fun W => ?_⟩
  refine (halved_any v s x h1 W).mono ?_
  rintro e w' ⟨z, rfl, h5, h7⟩
  exact ⟨by rw [h5.nv], h7⟩
theorem dividedD {v : Value} {S n : Int} (hv : IsS v S) (hn : InR n) (h0 : 0 < n) : ∃ z, IsS z (Wd.rqI S n) ∧ ∀ W, Calls Tryd.prog 49 #[v, .int .i64 n] W fun e w' => e = .returned z ∧ Below W.heap.size W w' := by
  obtain ⟨s, x, h1, h2⟩ := hv
  have hx := h1.rng
  have h3 : x / n ≤ x := Int.ediv_le_self _ hx.1
  have h4 : 0 ≤ x / n := Int.ediv_nonneg hx.1 (by omega)
  have hq : 0 ≤ rqI x n ∧ rqI x n < 115792089237316195423570985008687907853269984665640564039457584007913129639936 := by
    unfold rqI
    split
    · rename_i hc
      have h5 : 0 < x % n := by
        have := Int.emod_nonneg x (show n ≠ 0 by omega)
        omega
      have h6 := Int.mul_ediv_add_emod x n
      have h7 : x / n * 1 ≤ x / n * n := Int.mul_le_mul_of_nonneg_left (by omega) h4
      rw [Int.mul_comm] at h6
      omega
    · omega
  obtain ⟨a0, a1, a2, a3, e, hN⟩ := nv_words s (rqI x n) hq.1 hq.2
  refine ⟨nv s (rqI x n), ⟨_, _, by rw [e]; exact hN, by rw [sv_rq _ _ _ h0, h2]⟩, fun W => ?_⟩
  refine (divided_any v s x n h1 hn (by omega) W).mono ?_
  rintro e w' ⟨z, rfl, h5, h7⟩
  rw [show decide (n < 0) = false from decide_eq_false (by omega), Bool.bne_false, show ((n.natAbs : Nat) : Int) = n by omega] at h5
  exact ⟨by rw [h5.nv], h7⟩
end Go.Proofs.YthcfeiddbffcfaaDoor.Rf
namespace Go.Proofs.YthcfeiddbffcfaaDoor.Wd
open Go.RowKit Fx
set_option linter.unusedVariables false
set_option linter.unusedSimpArgs false
/-- One of the reference's numbers in the five cells of a block, which may be written. -/
def LiesS (W : World) (b : Nat) (S : Int) : Prop :=
  ∃ (r : Bool) (a0 a1 a2 a3 : Int), b < W.heap.size ∧ W.cell? ⟨b, 0, none⟩ = some (.bool r) ∧ W.cell? ⟨b, 1, none⟩ = some (.int .u64 a0) ∧ W.cell? ⟨b, 2, none⟩ = some (.int .u64 a1) ∧ W.cell? ⟨b, 3, none⟩ = some (.int .u64 a2) ∧ W.cell? ⟨b, 4, none⟩ = some (.int .u64 a3) ∧
    W.frozen? ⟨b, 0, none⟩ = false ∧ W.frozen? ⟨b, 1, none⟩ = false ∧ W.frozen? ⟨b, 2, none⟩ = false ∧ W.frozen? ⟨b, 3, none⟩ = false ∧ W.frozen? ⟨b, 4, none⟩ = false ∧ Rf.IsS (.agg #[.bool r, .int .u64 a0, .int .u64 a1, .int .u64 a2, .int .u64 a3]) S
theorem LiesS.up {W W' : World} {b : Nat} {S : Int} (h : LiesS W b S) (hb : Below W.heap.size W W') : LiesS W' b S := by
  obtain ⟨r, a0, a1, a2, a3, h0, c0, c1, c2, c3, c4, f0, f1, f2, f3, f4, hN⟩ := h
  exact ⟨r, a0, a1, a2, a3, Nat.lt_of_lt_of_le h0 hb.size, keep hb c0, keep hb c1, keep hb c2, keep hb c3, keep hb c4, keepf hb c0 f0, keepf hb c1 f1, keepf hb c2 f2, keepf hb c3 f3, keepf hb c4 f4, hN⟩
def set5 (W : World) (b : Nat) (x0 x1 x2 x3 x4 : Value) : World := ((((W.setCell ⟨b, 0, none⟩ x0).setCell ⟨b, 1, none⟩ x1).setCell ⟨b, 2, none⟩ x2).setCell ⟨b, 3, none⟩ x3).setCell ⟨b, 4, none⟩ x4
theorem LiesS.set {W : World} {b : Nat} {S S' : Int} {r' : Bool} {t0 t1 t2 t3 : Int} (h : LiesS W b S) (hN : Rf.IsS (.agg #[.bool r', .int .u64 t0, .int .u64 t1, .int .u64 t2, .int .u64 t3]) S') :
    LiesS (((((W.setCell ⟨b, 0, none⟩ (.bool r')).setCell ⟨b, 1, none⟩ (.int .u64 t0)).setCell ⟨b, 2, none⟩ (.int .u64 t1)).setCell ⟨b, 3, none⟩ (.int .u64 t2)).setCell ⟨b, 4, none⟩ (.int .u64 t3)) b S' := by
  obtain ⟨r, a0, a1, a2, a3, h0, c0, c1, c2, c3, c4, f0, f1, f2, f3, f4, _⟩ := h
  obtain ⟨g0, g1, g2, g3, g4⟩ := Rf.five W b (.bool r') (.int .u64 t0) (.int .u64 t1) (.int .u64 t2) (.int .u64 t3) c0 c1 c2 c3 c4
  exact ⟨r', t0, t1, t2, t3, by rw [set5_size]; exact h0, g0, g1, g2, g3, g4, (set5_frozen _ _ _ _ _ _ _ _).trans f0, (set5_frozen _ _ _ _ _ _ _ _).trans f1, (set5_frozen _ _ _ _ _ _ _ _).trans f2, (set5_frozen _ _ _ _ _ _ _ _).trans f3, (set5_frozen _ _ _ _ _ _ _ _).trans f4, hN⟩
theorem stay_set5 {g : Nat} (W : World) (x0 x1 x2 x3 x4 : Value) : Stay g W (((((W.setCell ⟨g, 0, none⟩ x0).setCell ⟨g, 1, none⟩ x1).setCell ⟨g, 2, none⟩ x2).setCell ⟨g, 3, none⟩ x3).setCell ⟨g, 4, none⟩ x4) := (((((Stay.refl g W).set 0 x0).set 1 x1).set 2 x2).set 3 x3).set 4 x4
theorem liesS_new (W : World) (t : TypeId) : LiesS (W.alloc (.cells #[.bool false, .int .u64 0, .int .u64 0, .int .u64 0, .int .u64 0] t)) W.heap.size 0 := by
  refine ⟨false, 0, 0, 0, 0, by simp, by simp [go_sem], by simp [go_sem], by simp [go_sem], by simp [go_sem], by simp [go_sem], by simp [go_sem], by simp [go_sem], by simp [go_sem], by simp [go_sem], by simp [go_sem], Rf.zeroS⟩
theorem LiesS.stay {g : Nat} {W W' : World} {b : Nat} {S : Int} (h : LiesS W b S) (hs : Stay g W W') (hg : b ≠ g) : LiesS W' b S := by
  obtain ⟨r, a0, a1, a2, a3, h0, c0, c1, c2, c3, c4, f0, f1, f2, f3, f4, hN⟩ := h
  exact ⟨r, a0, a1, a2, a3, Nat.lt_of_lt_of_le h0 hs.size, hs.cell c0 hg, hs.cell c1 hg, hs.cell c2 hg, hs.cell c3 hg, hs.cell c4 hg, (hs.frozen h0 hg).trans f0, (hs.frozen h0 hg).trans f1, (hs.frozen h0 hg).trans f2, (hs.frozen h0 hg).trans f3, (hs.frozen h0 hg).trans f4, hN⟩
theorem prods_room2 {x y : List Int} (hx : RI x) (hy : RI y) (i j : Nat → Nat) (n : Nat) (hn : n ≤ 4096) (a b : Int) (ha : InR a) (hb : InR b) : ((sumI (fun q => x.getD (i q) 0 * y.getD (j q) 0) n).natAbs : Int) + ((a * b).natAbs : Int) < 115792089237316195423570985008687907853269984665640564039457584007913129639936 :=
  prods_room (f := fun q => x.getD (i q) 0) (g := fun q => y.getD (j q) 0) (fun k => getD_inR hx _) (fun k => getD_inR hy _) n hn a b ha hb
theorem sums_room {x : List Int} (hx : RI x) (i : Nat → Nat) (n : Nat) (hn : n ≤ 4096) (a : Int) (ha : InR a) : ((sumI (fun q => x.getD (i q) 0) n).natAbs : Int) + (a.natAbs : Int) < 115792089237316195423570985008687907853269984665640564039457584007913129639936 := by
  have h1 := sumI_rng (f := fun q => x.getD (i q) 0) (B := 9223372036854775808) (by omega) n fun q _ => by have := getD_inR hx (i q); unfold InR at this; omega
  generalize sumI (fun q => x.getD (i q) 0) n = S at *
  unfold InR at ha
  omega
end Go.Proofs.YthcfeiddbffcfaaDoor.Wd
