/- The law ShapeOrder. -/
import Derived.Test.YthcbgmepkmimoaaShpL
import Derived.Test.YthcbgmepkmimoaaShpK
namespace Go.Proofs.Ythcbgmepkmimoaa.Wd
open Go.RowKit
set_option linter.unusedVariables false
set_option linter.unusedSimpArgs false
theorem RowN.ri2 {w : World} {p : Option Addr} {n c : Nat} {z : Nat → Int} (h : RowN .i64 w p n c z) : RI (nlst n z) := fun y hy => bounds_i64 (h.wf y hy)
theorem fitsB_comm (a b : List Nat) : fitsB a b = fitsB b a := by
  have h := (fitsB_iff a b).trans ((fitsN_comm a b).trans (fitsB_iff b a).symm)
  cases h1 : fitsB a b <;> cases h2 : fitsB b a <;> simp [h1, h2] at h ⊢
theorem joinL_comm (a b : List Int) : joinL a b = joinL b a := by
  unfold joinL
  rw [joinN_comm (ntl b)]
  rw [fitsB_comm (ntl b)]
  have : (goodN (ntl a) ∧ goodN (ntl b) ∧ fitsB (ntl a) (ntl b) = true ∧ goodN (joinN (ntl a) (ntl b))) ↔ (goodN (ntl b) ∧ goodN (ntl a) ∧ fitsB (ntl a) (ntl b) = true ∧ goodN (joinN (ntl a) (ntl b))) :=
    ⟨fun h => ⟨h.2.1, h.1, h.2.2⟩, fun h => ⟨h.2.1, h.1, h.2.2⟩⟩
  by_cases h : goodN (ntl a) ∧ goodN (ntl b) ∧ fitsB (ntl a) (ntl b) = true ∧ goodN (joinN (ntl a) (ntl b))
  · rw [if_pos h, if_pos (this.1 h)]
  · rw [if_neg h, if_neg fun h' => h (this.2 h')]
theorem joinE_comm (a b : List Int) : joinE a b = joinE b a := by
  unfold joinE
  rw [joinN_comm (ntl b), fitsB_comm (ntl b)]
  by_cases h : goodN (ntl a) ∧ goodN (ntl b)
  · rw [if_pos h, if_pos h.symm]
  · rw [if_neg h, if_neg fun h' => h h'.symm]
/-- Joined again, and with none. -/
theorem join_more {a b : List Int} (h : joinE a b = 0) : joinE (joinL a b) a = 0 ∧ joinL (joinL a b) a = joinL a b ∧ joinE a [] = 0 ∧ joinL a [] = a := by
  obtain ⟨ga, gb, gf, gj⟩ := joinE_zero h
  obtain ⟨a, ha, rfl⟩ := good_itl ga
  obtain ⟨b, hb, rfl⟩ := good_itl gb
  rw [ntl_itl, ntl_itl] at *
  rw [(join_fine ha hb gf gj).1]
  have h1 := join_fine gj ha (fitsN_again ha.2.1 hb.2.1 gf) (by rw [joinN_again]; exact gj)
  rw [joinN_again] at h1
  have hn : goodN [] := by decide
  have h2 := join_fine ha hn (fitsN_nil a) (by rw [joinN_nil ha.2.1]; exact ha)
  rw [joinN_nil ha.2.1] at h2
  exact ⟨h1.2, h1.1, h2.2, h2.1⟩
set_option maxHeartbeats 4000000 in
theorem sorder_walk (w : World) (za : Nat → Int) (n cap : Nat) (p : Option Addr) (zb : Nat → Int) (n2 cap2 : Nat) (p2 : Option Addr) (hr : RowN .i64 w p n cap za) (hr2 : RowN .i64 w p2 n2 cap2 zb) :
    Calls Try.prog 7 #[.slice p n cap, .slice p2 n2 cap2] w fun e w' => e = .returned (.bool true) ∧ Below w.heap.size w w' := by
  have HA : Hid (Nums .i64 w (.slice p n cap) (nlst n za) ∧ RI (nlst n za) ∧ (nlst n za).length = n) := ⟨hr.nums, hr.ri2, nlst_len _ _⟩
  have HB : Hid (Nums .i64 w (.slice p2 n2 cap2) (nlst n2 zb) ∧ RI (nlst n2 zb)) := ⟨hr2.nums, hr2.ri2⟩
  obtain ⟨x, ex⟩ : ∃ x, nlst n za = x := ⟨_, rfl⟩
  obtain ⟨y, ey⟩ : ∃ y, nlst n2 zb = y := ⟨_, rfl⟩
  rw [ex] at HA
  rw [ey] at HB
  clear hr hr2 ex ey
  go_enter Try.func7, Try.ntmps7
  go_wp2_with fail
  refine (sawake_any w).mono ?_
  rintro e w0 ⟨rfl, hb⟩
  have H0 : Hid (Below w.heap.size w w0) := hb
  clear hb
  by_cases hn : 6 < n
  · have hn' : (6 : Int) < (n : Int) := by omega
    go_wp2
    go_ret
    exact ⟨rfl, H0.out⟩
  have hn' : (n : Int) ≤ 6 := by omega
  by_cases hn2 : 6 < n2
  · have hn2' : (6 : Int) < (n2 : Int) := by omega
    go_wp2
    go_ret
    exact ⟨rfl, H0.out⟩
  have hn2' : (n2 : Int) ≤ 6 := by omega
  have c1 := join_any _ _ x y HA.out.2.1 HB.out.2 w0 (HA.out.1.up H0.out) (HB.out.1.up H0.out)
  obtain ⟨E, eE⟩ : ∃ E, joinE x y = E := ⟨_, rfl⟩
  have HE : Hid (joinE x y = E) := eE
  rw [eE] at c1
  go_wp2_with fail
  refine c1.mono ?_
  rintro e w1 ⟨v1, rfl, ho, hb⟩
  have H1 : Hid (Nums .i64 w1 v1 (joinL x y) ∧ Below w.heap.size w w1) := ⟨ho.nums, bstep H0.out hb⟩
  clear ho hb c1 H0
  have c2 := join_any _ _ y x HB.out.2 HA.out.2.1 w1 (HB.out.1.up H1.out.2) (HA.out.1.up H1.out.2)
  rw [joinE_comm, eE, joinL_comm] at c2
  go_wp2_with fail
  refine c2.mono ?_
  rintro e w2 ⟨v2, rfl, ho, hb⟩
  have H2 : Hid (Nums .i64 w2 v1 (joinL x y) ∧ Nums .i64 w2 v2 (joinL x y) ∧ Below w.heap.size w w2) := ⟨H1.out.1.up hb, ho.nums, bstep H1.out.2 hb⟩
  clear ho hb c2 H1 eE
  have c3 := same_any v1 v2 _ _ (by have := joinL_len x y; omega) w2 H2.out.1 H2.out.2.1
  rw [decide_eq_true rfl] at c3
  go_wp2_with fail
  refine c3.mono ?_
  rintro e w3 ⟨rfl, d, hw⟩
  have hb3 : Below w2.heap.size w2 w3 := by rw [hw]; exact below_drew (Below.refl _ _) d
  have H3 : Hid (Nums .i64 w3 v1 (joinL x y) ∧ Below w.heap.size w w3) := ⟨H2.out.1.up hb3, bstep H2.out.2.2 hb3⟩
  clear c3 hw hb3 H2
  by_cases hE : E = 0
  · subst hE
    obtain ⟨e1, e2, e3, e4⟩ := join_more HE.out
    have c4 := join_any _ _ (joinL x y) x (RI_joinL x y) HA.out.2.1 w3 H3.out.1 (HA.out.1.up H3.out.2)
    rw [e1, e2] at c4
    go_wp2_with fail
    refine c4.mono ?_
    rintro e w4 ⟨v4, rfl, ho, hb⟩
    have H4 : Hid (Nums .i64 w4 v1 (joinL x y) ∧ Nums .i64 w4 v4 (joinL x y) ∧ Below w.heap.size w w4) := ⟨H3.out.1.up hb, ho.nums, bstep H3.out.2 hb⟩
    clear ho hb c4 H3
    have c5 := join_any _ (.slice none 0 0) x [] HA.out.2.1 (fun y hy => by simp at hy) w4 (HA.out.1.up H4.out.2.2) (.inl ⟨rfl, rfl⟩)
    rw [e3, e4] at c5
    go_wp2_with fail
    refine c5.mono ?_
    rintro e w5 ⟨v5, rfl, ho, hb⟩
    have H5 : Hid (Nums .i64 w5 v1 (joinL x y) ∧ Nums .i64 w5 v4 (joinL x y) ∧ Below w.heap.size w w5 ∧ Nums .i64 w5 v5 x) := ⟨H4.out.1.up hb, H4.out.2.1.up hb, bstep H4.out.2.2 hb, ho.nums⟩
    clear ho hb c5 H4 e1 e2 e3 e4
    have c6 := same_any v4 v1 _ _ (by have := joinL_len x y; omega) w5 H5.out.2.1 H5.out.1
    rw [decide_eq_true rfl] at c6
    go_wp2_with fail
    refine c6.mono ?_
    rintro e w6 ⟨rfl, d6, hw⟩
    have hb6 : Below w5.heap.size w5 w6 := by rw [hw]; exact below_drew (Below.refl _ _) d6
    have H6 : Hid (Below w.heap.size w w6 ∧ Nums .i64 w6 v5 x) := ⟨bstep H5.out.2.2.1 hb6, H5.out.2.2.2.up hb6⟩
    clear c6 hw hb6 H5
    have c7 := same_any v5 _ x x (by have := HA.out.2.2; omega) w6 H6.out.2 (HA.out.1.up H6.out.1)
    rw [decide_eq_true rfl] at c7
    go_wp2_with fail
    refine c7.mono ?_
    rintro e w7 ⟨rfl, d7, hw⟩
    have H7 : Hid (Below w.heap.size w w7) := by rw [hw]; exact below_drew H6.out.1 d7
    clear c7 hw H6
    go_wp2
    go_ret
    exact ⟨rfl, H7.out⟩
  · have hE1 : (E != 0) = true := by simp [hE]
    go_wp2
    go_ret
    exact ⟨rfl, H3.out.2⟩
end Go.Proofs.Ythcbgmepkmimoaa.Wd
