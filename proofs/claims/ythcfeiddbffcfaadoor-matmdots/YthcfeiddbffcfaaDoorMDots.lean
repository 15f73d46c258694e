/- MatmDots: any two rows' product is the exact one, rounded once. -/
import Derived.Test.YthcfeiddbffcfaaDoorMtL
import Derived.Test.YthcfeiddbffcfaaDoorMtR
namespace Go.Proofs.YthcfeiddbffcfaaDoor.Wd
open Go.RowKit Fx
set_option linter.unusedVariables false
set_option linter.unusedSimpArgs false
set_option maxRecDepth 8000 in
set_option maxHeartbeats 4000000 in
theorem mdots_walk (w : World) (hT : Hid (Tz w)) (za : Nat → Int) (n c : Nat) (p : Option Addr) (zb : Nat → Int) (n2 c2 : Nat) (p2 : Option Addr) (r1 : RowN .i64 w p n c za) (r2 : RowN .i64 w p2 n2 c2 zb) :
    Calls Tryd.prog 6 #[.slice p n c, .slice p2 n2 c2] w fun e w' => e = .returned (.bool true) ∧ Below w.heap.size w w' := by
  have HA : Hid (Nums .i64 w (.slice p n c) (nlst n za) ∧ Nums .i64 w (.slice p2 n2 c2) (nlst n2 zb)) := ⟨r1.nums, r2.nums⟩
  have HI : Hid (RI (nlst n za) ∧ RI (nlst n2 zb)) := ⟨r1.riI, r2.riI⟩
  have hf1 : (n : Int) ≤ 9223372036854775807 := by have := r1.few; unfold Few at this; rw [nlst_len] at this; omega
  have hf2 : (n2 : Int) ≤ 9223372036854775807 := by have := r2.few; unfold Few at this; rw [nlst_len] at this; omega
  obtain ⟨x, ex⟩ : ∃ x, nlst n za = x := ⟨_, rfl⟩
  obtain ⟨y, ey⟩ : ∃ y, nlst n2 zb = y := ⟨_, rfl⟩
  rw [ex, ey] at HA HI
  clear ex ey r1 r2
  go_enter Tryd.func6, Tryd.ntmps6
  go_wp2_with fail
  refine (awake7_any w hT).mono ?_
  rintro e wa ⟨rfl, hBa⟩
  have HBa : Hid (Below w.heap.size w wa) := hBa
  clear hBa
  by_cases h1 : (n : Int) ≤ 200
  · by_cases h2 : (n2 : Int) ≤ 200
    · obtain ⟨m, em⟩ : ∃ m, min n n2 = m := ⟨_, rfl⟩
      obtain ⟨D, eD⟩ : ∃ D, dotI x y = D := ⟨_, rfl⟩
      have cM : Hid (∀ W, Below w.heap.size w W → Calls Tryd.prog 17 #[.slice p n c, .slice p2 n2 c2] W fun e w' => e = .returned (.int .i64 D) ∧ Below W.heap.size W w') := fun W hW => by
        rw [← eD]
        exact dot_any p p2 n c n2 c2 x y HI.out.1 HI.out.2 m em (by omega) W (Hid.up_tz hT hW) (HA.out.1.up hW) (HA.out.2.up hW)
      have cM2 : Hid (∀ W, Below w.heap.size w W → Calls Tryd.prog 17 #[.slice p2 n2 c2, .slice p n c] W fun e w' => e = .returned (.int .i64 D) ∧ Below W.heap.size W w') := fun W hW => by
        rw [← eD, dotI_comm]
        exact dot_any p2 p n2 c2 n c y x HI.out.2 HI.out.1 m (by rw [Nat.min_comm]; exact em) (by omega) W (Hid.up_tz hT hW) (HA.out.2.up hW) (HA.out.1.up hW)
      have cR : Hid (∀ W, Below w.heap.size w W → Calls Tryd.prog 25 #[.slice p n c, .slice p2 n2 c2] W fun e w' => e = .returned (.int .i64 D) ∧ Below W.heap.size W w') := fun W hW => by
        rw [← eD]
        exact rdot_any p p2 n c n2 c2 x y HI.out.1 HI.out.2 m em (by omega) (by omega) (by omega) W (HA.out.1.up hW) (HA.out.2.up hW)
      clear em eD
      go_wp2_with fail
      refine (cM.out wa HBa.out).mono ?_
      rintro e wb ⟨rfl, hBb⟩
      have HBb : Hid (Below w.heap.size w wb) := bstep HBa.out hBb
      clear hBb
      go_wp2_with fail
      refine (cR.out wb HBb.out).mono ?_
      rintro e wc ⟨rfl, hBc⟩
      have HBc : Hid (Below w.heap.size w wc) := bstep HBb.out hBc
      clear hBc
      go_wp2_with fail
      refine (cM.out wc HBc.out).mono ?_
      rintro e wd ⟨rfl, hBd⟩
      have HBd : Hid (Below w.heap.size w wd) := bstep HBc.out hBd
      clear hBd
      go_wp2_with fail
      refine (cM2.out wd HBd.out).mono ?_
      rintro e we ⟨rfl, hBe⟩
      have HBe : Hid (Below w.heap.size w we) := bstep HBd.out hBe
      clear hBe
      go_wp2
      go_ret
      exact ⟨rfl, HBe.out⟩
    · have h2' : (200 : Int) < (n2 : Int) := by omega
      go_wp2
      go_ret
      exact ⟨rfl, HBa.out⟩
  · have h1' : (200 : Int) < (n : Int) := by omega
    go_wp2
    go_ret
    exact ⟨rfl, HBa.out⟩
end Go.Proofs.YthcfeiddbffcfaaDoor.Wd
