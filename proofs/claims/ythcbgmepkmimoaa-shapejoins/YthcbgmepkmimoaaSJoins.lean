/- The law ShapeJoins. -/
import Derived.Test.YthcbgmepkmimoaaShpL
import Derived.Test.YthcbgmepkmimoaaShpG
namespace Go.Proofs.Ythcbgmepkmimoaa.Wd
open Go.RowKit
set_option linter.unusedVariables false
set_option linter.unusedSimpArgs false
theorem RowN.ri {w : World} {p : Option Addr} {n c : Nat} {z : Nat → Int} (h : RowN .i64 w p n c z) : RI (nlst n z) := fun y hy => bounds_i64 (h.wf y hy)
set_option maxHeartbeats 4000000 in
theorem sjoins_walk (w : World) (za : Nat → Int) (n cap : Nat) (p : Option Addr) (zb : Nat → Int) (n2 cap2 : Nat) (p2 : Option Addr) (a : Int) (hr : RowN .i64 w p n cap za) (hr2 : RowN .i64 w p2 n2 cap2 zb) (ha : -9223372036854775808 ≤ a ∧ a ≤ 9223372036854775807) :
    Calls Try.prog 5 #[.slice p n cap, .slice p2 n2 cap2, .int .i64 a] w fun e w' => e = .returned (.bool true) ∧ Below w.heap.size w w' := by
  have HA : Hid (Nums .i64 w (.slice p n cap) (nlst n za) ∧ RI (nlst n za)) := ⟨hr.nums, hr.ri⟩
  have HB : Hid (Nums .i64 w (.slice p2 n2 cap2) (nlst n2 zb) ∧ RI (nlst n2 zb)) := ⟨hr2.nums, hr2.ri⟩
  obtain ⟨x, ex⟩ : ∃ x, nlst n za = x := ⟨_, rfl⟩
  obtain ⟨y, ey⟩ : ∃ y, nlst n2 zb = y := ⟨_, rfl⟩
  rw [ex] at HA
  rw [ey] at HB
  clear hr hr2 ex ey
  go_enter Try.func5, Try.ntmps5
  go_wp2_with fail
  refine (sawake_any w).mono ?_
  rintro e w0 ⟨rfl, hb⟩
  have H0 : Hid (Below w.heap.size w w0) := hb
  clear hb
  by_cases hn : 20 < n
  · have hn' : (20 : Int) < (n : Int) := by omega
    go_wp2
    go_ret
    exact ⟨rfl, H0.out⟩
  have hn' : (n : Int) ≤ 20 := by omega
  by_cases hn2 : 20 < n2
  · have hn2' : (20 : Int) < (n2 : Int) := by omega
    go_wp2
    go_ret
    exact ⟨rfl, H0.out⟩
  have hn2' : (n2 : Int) ≤ 20 := by omega
  have c1 := join_any _ _ x y HA.out.2 HB.out.2 w0 (HA.out.1.up H0.out) (HB.out.1.up H0.out)
  obtain ⟨E, eE⟩ : ∃ E, joinE x y = E := ⟨_, rfl⟩
  rw [eE] at c1
  go_wp2_with fail
  refine c1.mono ?_
  rintro e w1 ⟨v1, rfl, ho, hb⟩
  have H1 : Hid (Nums .i64 w1 v1 (joinL x y) ∧ Below w.heap.size w w1) := ⟨ho.nums, bstep H0.out hb⟩
  clear ho hb c1 H0
  have c2 := rjoin_any _ _ x y HA.out.2 HB.out.2 w1 (HA.out.1.up H1.out.2) (HB.out.1.up H1.out.2)
  rw [eE] at c2
  go_wp2_with fail
  refine c2.mono ?_
  rintro e w2 ⟨v2, rfl, ho, hb⟩
  have H2 : Hid (Nums .i64 w2 v1 (joinL x y) ∧ Nums .i64 w2 v2 (joinL x y) ∧ Below w.heap.size w w2) := ⟨H1.out.1.up hb, ho.nums, bstep H1.out.2 hb⟩
  clear ho hb c2 H1 eE
  have c3 := from_any _ _ x y HA.out.2 HB.out.2 a w2 (HA.out.1.up H2.out.2.2) (HB.out.1.up H2.out.2.2)
  obtain ⟨F, eF⟩ : ∃ F, fromI x y a = F := ⟨_, rfl⟩
  obtain ⟨G, eG⟩ : ∃ G, fromB x y a = G := ⟨_, rfl⟩
  rw [eF, eG] at c3
  go_wp2_with fail
  refine c3.mono ?_
  rintro e w3 ⟨rfl, hb⟩
  have H3 : Hid (Nums .i64 w3 v1 (joinL x y) ∧ Nums .i64 w3 v2 (joinL x y) ∧ Below w.heap.size w w3) := ⟨H2.out.1.up hb, H2.out.2.1.up hb, bstep H2.out.2.2 hb⟩
  clear hb c3 H2
  have c4 := rfrom_any _ _ x y HA.out.2 HB.out.2 a w3 (HA.out.1.up H3.out.2.2) (HB.out.1.up H3.out.2.2)
  rw [eF, eG] at c4
  go_wp2_with fail
  refine c4.mono ?_
  rintro e w4 ⟨rfl, hb⟩
  have H4 : Hid (Nums .i64 w4 v1 (joinL x y) ∧ Nums .i64 w4 v2 (joinL x y) ∧ Below w.heap.size w w4) := ⟨H3.out.1.up hb, H3.out.2.1.up hb, bstep H3.out.2.2 hb⟩
  clear hb c4 H3 eF eG
  have c5 := rsame_any v1 v2 _ _ (by have := joinL_len x y; omega) w4 H4.out.1 H4.out.2.1
  rw [decide_eq_true rfl] at c5
  go_wp2_with fail
  refine c5.mono ?_
  rintro e w5 ⟨rfl, d, hw⟩
  have H5 : Hid (Below w.heap.size w w5) := by rw [hw]; exact below_drew H4.out.2.2 d
  clear hw c5 H4
  go_wp2
  go_ret
  exact ⟨rfl, H5.out⟩
end Go.Proofs.Ythcbgmepkmimoaa.Wd
