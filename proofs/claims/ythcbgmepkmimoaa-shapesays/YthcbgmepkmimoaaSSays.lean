/- The law ShapeSays. -/
import Derived.Test.YthcbgmepkmimoaaSJoins
namespace Go.Proofs.Ythcbgmepkmimoaa.Wd
open Go.RowKit
set_option linter.unusedVariables false
set_option linter.unusedSimpArgs false
theorem stridesI_len (l : List Int) : (stridesI l).length ≤ 4 := by
  unfold stridesI
  split
  · rename_i h; rw [itl_len, stridesN_len]; exact h.1
  · simp
theorem placeI_len (l : List Int) (a : Int) : (placeI l a).length ≤ 4 := by
  unfold placeI
  split
  · rename_i h
    rw [itl_len, placeN_len]
    exact ((sizeN_iff _).1 (by omega)).1
  · simp
theorem dself (l : List Int) : decide (l = l) = true := decide_eq_true rfl
set_option maxHeartbeats 4000000 in
theorem ssays_walk (w : World) (za : Nat → Int) (n cap : Nat) (p : Option Addr) (zb : Nat → Int) (n2 cap2 : Nat) (p2 : Option Addr) (a : Int) (hr : RowN .i64 w p n cap za) (hr2 : RowN .i64 w p2 n2 cap2 zb) (ha : -9223372036854775808 ≤ a ∧ a ≤ 9223372036854775807) :
    Calls Try.prog 4 #[.slice p n cap, .slice p2 n2 cap2, .int .i64 a] w fun e w' => e = .returned (.bool true) ∧ Below w.heap.size w w' := by
  have HA : Hid (Nums .i64 w (.slice p n cap) (nlst n za) ∧ RI (nlst n za) ∧ (nlst n za).length = n) := ⟨hr.nums, hr.ri, nlst_len _ _⟩
  have HB : Hid (Nums .i64 w (.slice p2 n2 cap2) (nlst n2 zb) ∧ RI (nlst n2 zb)) := ⟨hr2.nums, hr2.ri⟩
  obtain ⟨x, ex⟩ : ∃ x, nlst n za = x := ⟨_, rfl⟩
  obtain ⟨y, ey⟩ : ∃ y, nlst n2 zb = y := ⟨_, rfl⟩
  rw [ex] at HA
  rw [ey] at HB
  clear hr hr2 ex ey
  go_enter Try.func4, Try.ntmps4
  go_wp2_with fail
  refine (sawake_any w).mono ?_
  rintro e w0 ⟨rfl, hb⟩
  have H0 : Hid (Below w.heap.size w w0) := hb
  clear hb
  by_cases hn : 20 < n
  · have hn' : (20 : Int) < (n : Int) := by omega
    go_wp2
    go_ret
    exact ⟨rfl, H0.out⟩
  have hn' : (n : Int) ≤ 20 := by omega
  by_cases hn2 : 20 < n2
  · have hn2' : (20 : Int) < (n2 : Int) := by omega
    go_wp2
    go_ret
    exact ⟨rfl, H0.out⟩
  have hn2' : (n2 : Int) ≤ 20 := by omega
  obtain ⟨A, eA⟩ : ∃ A, atI x y = A := ⟨_, rfl⟩
  obtain ⟨B, eB⟩ : ∃ B, atB x y = B := ⟨_, rfl⟩
  have c1 := sat_any _ _ x y HA.out.2.1 HB.out.2 w0 (HA.out.1.up H0.out) (HB.out.1.up H0.out)
  rw [eA, eB] at c1
  go_wp2_with fail
  refine c1.mono ?_
  rintro e w1 ⟨rfl, rfl⟩
  clear c1
  have c2 := rat_any _ _ x y HA.out.2.1 HB.out.2 w1 (HA.out.1.up H0.out) (HB.out.1.up H0.out)
  rw [eA, eB] at c2
  go_wp2_with fail
  refine c2.mono ?_
  rintro e w2 ⟨rfl, d, hw⟩
  have H2 : Hid (Below w.heap.size w w2) := by rw [hw]; exact below_drew H0.out d
  clear c2 H0 hw eA eB
  obtain ⟨G, eG⟩ : ∃ G, decide (0 ≤ a ∧ a < ((sizeN (ntl x) : Nat) : Int)) = G := ⟨_, rfl⟩
  have c3 := place_any _ x HA.out.2.1 a w2 (HA.out.1.up H2.out)
  rw [eG] at c3
  go_wp2_with fail
  refine c3.mono ?_
  rintro e w3 ⟨v3, rfl, ho, hb⟩
  have H3 : Hid (Nums .i64 w3 v3 (placeI x a) ∧ Below w.heap.size w w3) := ⟨ho.nums, bstep H2.out hb⟩
  clear ho hb c3 H2
  have c4 := rplace_any _ x HA.out.2.1 a w3 (HA.out.1.up H3.out.2)
  rw [eG] at c4
  go_wp2_with fail
  refine c4.mono ?_
  rintro e w4 ⟨v4, rfl, ho, hb⟩
  have H4 : Hid (Nums .i64 w4 v3 (placeI x a) ∧ Nums .i64 w4 v4 (placeI x a) ∧ Below w.heap.size w w4) := ⟨H3.out.1.up hb, ho.nums, bstep H3.out.2 hb⟩
  clear ho hb c4 H3 eG
  obtain ⟨D, eD⟩ : ∃ D, decide (goodN (ntl x)) = D := ⟨_, rfl⟩
  have c5 := good_any _ x HA.out.2.1 w4 (HA.out.1.up H4.out.2.2)
  rw [eD] at c5
  go_wp2_with fail
  refine c5.mono ?_
  rintro e w5 ⟨rfl, rfl⟩
  clear c5
  have c6 := rgood_any _ x HA.out.2.1 w5 (HA.out.1.up H4.out.2.2)
  rw [eD] at c6
  go_wp2_with fail
  refine c6.mono ?_
  rintro e w6 ⟨rfl, rfl⟩
  clear c6 eD
  obtain ⟨Z, eZ⟩ : ∃ Z : Int, ((sizeN (ntl x) : Nat) : Int) = Z := ⟨_, rfl⟩
  have c7 := size_any _ x HA.out.2.1 w6 (HA.out.1.up H4.out.2.2)
  rw [eZ] at c7
  go_wp2_with fail
  refine c7.mono ?_
  rintro e w7 ⟨rfl, rfl⟩
  clear c7
  have c8 := rsize_any _ x HA.out.2.1 w7 (HA.out.1.up H4.out.2.2)
  rw [eZ] at c8
  go_wp2_with fail
  refine c8.mono ?_
  rintro e w8 ⟨rfl, rfl⟩
  clear c8 eZ
  obtain ⟨M, eM⟩ : ∃ M, decide (x = y) = M := ⟨_, rfl⟩
  have c9 := same_any _ _ x y (by have := HA.out.2.2; omega) w8 (HA.out.1.up H4.out.2.2) (HB.out.1.up H4.out.2.2)
  rw [eM] at c9
  go_wp2_with fail
  refine c9.mono ?_
  rintro e w9 ⟨rfl, d9, hw⟩
  have hb9 : Below w8.heap.size w8 w9 := by rw [hw]; exact below_drew (Below.refl _ _) d9
  have H9 : Hid (Nums .i64 w9 v3 (placeI x a) ∧ Nums .i64 w9 v4 (placeI x a) ∧ Below w.heap.size w w9) := ⟨H4.out.1.up hb9, H4.out.2.1.up hb9, bstep H4.out.2.2 hb9⟩
  clear c9 hw hb9 H4
  have c10 := rsame_any _ _ x y (by have := HA.out.2.2; omega) w9 (HA.out.1.up H9.out.2.2) (HB.out.1.up H9.out.2.2)
  rw [eM] at c10
  go_wp2_with fail
  refine c10.mono ?_
  rintro e w10 ⟨rfl, d10, hw⟩
  have hb10 : Below w9.heap.size w9 w10 := by rw [hw]; exact below_drew (Below.refl _ _) d10
  have H10 : Hid (Nums .i64 w10 v3 (placeI x a) ∧ Nums .i64 w10 v4 (placeI x a) ∧ Below w.heap.size w w10) := ⟨H9.out.1.up hb10, H9.out.2.1.up hb10, bstep H9.out.2.2 hb10⟩
  clear c10 hw hb10 H9 eM
  have c11 := strides_any _ x HA.out.2.1 w10 (HA.out.1.up H10.out.2.2)
  go_wp2_with fail
  refine c11.mono ?_
  rintro e w11 ⟨v11, rfl, ho, hb⟩
  have H11 : Hid (Nums .i64 w11 v3 (placeI x a) ∧ Nums .i64 w11 v4 (placeI x a) ∧ Below w.heap.size w w11 ∧ Nums .i64 w11 v11 (stridesI x)) := ⟨H10.out.1.up hb, H10.out.2.1.up hb, bstep H10.out.2.2 hb, ho.nums⟩
  clear c11 ho hb H10
  have c12 := rstrides_any _ x HA.out.2.1 w11 (HA.out.1.up H11.out.2.2.1)
  go_wp2_with fail
  refine c12.mono ?_
  rintro e w12 ⟨v12, rfl, ho, hb⟩
  have H12 : Hid (Nums .i64 w12 v3 (placeI x a) ∧ Nums .i64 w12 v4 (placeI x a) ∧ Below w.heap.size w w12 ∧ Nums .i64 w12 v11 (stridesI x) ∧ Nums .i64 w12 v12 (stridesI x)) := ⟨H11.out.1.up hb, H11.out.2.1.up hb, bstep H11.out.2.2.1 hb, H11.out.2.2.2.up hb, ho.nums⟩
  clear c12 ho hb H11
  have c13 := rsame_any v11 v12 _ _ (by have := stridesI_len x; omega) w12 H12.out.2.2.2.1 H12.out.2.2.2.2
  rw [dself] at c13
  go_wp2_with fail
  refine c13.mono ?_
  rintro e w13 ⟨rfl, d13, hw⟩
  have hb13 : Below w12.heap.size w12 w13 := by rw [hw]; exact below_drew (Below.refl _ _) d13
  have H13 : Hid (Nums .i64 w13 v3 (placeI x a) ∧ Nums .i64 w13 v4 (placeI x a) ∧ Below w.heap.size w w13) := ⟨H12.out.1.up hb13, H12.out.2.1.up hb13, bstep H12.out.2.2.1 hb13⟩
  clear c13 hw hb13 H12
  have c14 := rsame_any v3 v4 _ _ (by have := placeI_len x a; omega) w13 H13.out.1 H13.out.2.1
  rw [dself] at c14
  go_wp2_with fail
  refine c14.mono ?_
  rintro e w14 ⟨rfl, d14, hw⟩
  have H14 : Hid (Below w.heap.size w w14) := by rw [hw]; exact below_drew H13.out.2.2 d14
  clear c14 hw H13
  go_wp2
  go_ret
  exact ⟨rfl, H14.out⟩
end Go.Proofs.Ythcbgmepkmimoaa.Wd
