/- DataSays: any batch, any shard, any members. -/
import Derived.Test.YtimbidiogcfpeaaDaW
namespace Go.Proofs.Ytimbidiogcfpeaa.Wd
open Go.RowKit Fx
set_option linter.unusedVariables false
set_option linter.unusedSimpArgs false
set_option maxRecDepth 8000
set_option maxHeartbeats 8000000
theorem batV_le (t s k : Int) : (batV t s k).length ≤ 256 := by
  by_cases h : batE t s k = 0
  · rw [batV_len h]
    have := batE_ok.1 h
    omega
  · rw [(batE_bad h).2]
    simp
theorem shV_le (b m : List Int) (who : Int) : (shV b m who).length ≤ b.length := by
  by_cases h : shE m who = 0
  · unfold shV
    rw [if_pos h, shT_len]
    obtain ⟨p, ep, hp, _⟩ := plI_at (shE_ok.1 h).2
    by_cases h0 : 0 < b.length
    · have := (shC_lt (L := b.length) (n := m.length) (p := (plI m who).toNat) (k := b.length) (by omega)).1
      have h2 : b.length ≤ b.length * m.length := Nat.le_mul_of_pos_right _ (by omega)
      by_cases h3 : b.length < shC b.length m.length (plI m who).toNat
      · have := this h3
        omega
      · omega
    · have := (shC_lt (L := b.length) (n := m.length) (p := (plI m who).toNat) (k := 0) (by omega)).1
      by_cases h3 : 0 < shC b.length m.length (plI m who).toNat
      · have := this h3
        omega
      · omega
  · rw [(shE_bad h).2]
    simp
theorem dsays_walk (w : World) (t s k : Int) (z : Nat → Int) (n c : Nat) (p : Option Addr) (y : Nat → Int) (l d : Nat) (q : Option Addr) (who : Int) (ht : -9223372036854775808 ≤ t ∧ t ≤ 9223372036854775807) (hs : -9223372036854775808 ≤ s ∧ s ≤ 9223372036854775807) (hk : -9223372036854775808 ≤ k ∧ k ≤ 9223372036854775807) (h1 : RowN .i64 w p n c z) (h2 : RowN .i64 w q l d y) (hw : -9223372036854775808 ≤ who ∧ who ≤ 9223372036854775807) :
    Calls Try.prog 4 #[.int .i64 t, .int .i64 s, .int .i64 k, .slice p n c, .slice q l d, .int .i64 who] w fun e w' => e = .returned (.bool true) ∧ Below w.heap.size w w' := by
  haveI : Nonempty World := ⟨w⟩
  obtain ⟨b, lb, db⟩ : ∃ P : List Int, P.length = n ∧ Nums .i64 w (.slice p n c) P := ⟨nlst n z, nlst_len n z, h1.nums⟩
  obtain ⟨m, lm, dm⟩ : ∃ M : List Int, M.length = l ∧ Nums .i64 w (.slice q l d) M := ⟨nlst l y, nlst_len l y, h2.nums⟩
  have HN : Hid (Nums .i64 w (.slice p n c) b ∧ Nums .i64 w (.slice q l d) m) := ⟨db, dm⟩
  clear h1 h2 db dm
  go_enter Try.func4, Try.ntmps4
  go_wp2_with fail
  refine (awake16_any w).mono ?_
  rintro e w1 ⟨rfl, hB⟩
  have H1 : Hid (Below w.heap.size w w1) := hB
  clear hB
  by_cases t1 : 300 < n
  · have t1' : (300 : Int) < (n : Int) := by omega
    go_wp2
    go_ret
    exact ⟨rfl, H1.out⟩
  have t1' : (n : Int) ≤ 300 := by omega
  by_cases t2 : 40 < l
  · have t2' : (40 : Int) < (l : Int) := by omega
    go_wp2
    go_ret
    exact ⟨rfl, H1.out⟩
  have t2' : (l : Int) ≤ 40 := by omega
  have t3 : n ≤ 300 := by omega
  have t4 : l ≤ 40 := by omega
  go_wp2_with fail
  refine (dbatch_any t s k ht hs hk w1).mono ?_
  rintro e w2 ⟨v2, rfl, hv2, hB⟩
  have H2 : Hid (Below w.heap.size w w2 ∧ Nums .i64 w2 v2 (batV t s k)) := ⟨bstep H1.out hB, hv2.nums⟩
  clear hB hv2 H1
  go_wp2_with fail
  refine (rbatch_any t s k ht hs hk w2).mono ?_
  rintro e w3 ⟨v3, rfl, hv3, hB⟩
  have H3 : Hid (Below w.heap.size w w3 ∧ Nums .i64 w3 v2 (batV t s k) ∧ Nums .i64 w3 v3 (batV t s k)) := ⟨bstep H2.out.1 hB, H2.out.2.up hB, hv3.nums⟩
  clear hB hv3 H2
  go_wp2_with fail
  refine (dshard_any p q n c l d b m who (by omega) (by omega) w3 (HN.out.1.up H3.out.1) (HN.out.2.up H3.out.1)).mono ?_
  rintro e w4 ⟨v4, rfl, hv4, hB⟩
  have H4 : Hid (Below w.heap.size w w4 ∧ Nums .i64 w4 v2 (batV t s k) ∧ Nums .i64 w4 v3 (batV t s k) ∧ Nums .i64 w4 v4 (shV b m who)) := ⟨bstep H3.out.1 hB, H3.out.2.1.up hB, H3.out.2.2.up hB, hv4.nums⟩
  clear hB hv4 H3
  go_wp2_with fail
  refine (rshard_any p q n c l d b m who (by omega) (by omega) w4 (HN.out.1.up H4.out.1) (HN.out.2.up H4.out.1)).mono ?_
  rintro e w5 ⟨v5, rfl, hv5, hB⟩
  have H5 : Hid (Below w.heap.size w w5 ∧ Nums .i64 w5 v2 (batV t s k) ∧ Nums .i64 w5 v3 (batV t s k) ∧ Nums .i64 w5 v4 (shV b m who) ∧ Nums .i64 w5 v5 (shV b m who)) := ⟨bstep H4.out.1 hB, H4.out.2.1.up hB, H4.out.2.2.1.up hB, H4.out.2.2.2.up hB, hv5.nums⟩
  clear hB hv5 H4
  go_wp2_with fail
  obtain ⟨r, er⟩ : ∃ r : Bool, decide (goodM m) = r := ⟨_, rfl⟩
  have cA : Hid (∀ W, Below w5.heap.size w5 W → Calls Try.prog 15 #[v2, v3] W fun e w' => e = .returned (.bool true) ∧ Below W.heap.size W w') := fun W hW => by
    have cc := dsame_any v2 v3 _ _ (by have := batV_le t s k; omega) W (H5.out.2.1.up hW) (H5.out.2.2.1.up hW)
    rw [decide_eq_true rfl] at cc
    exact cc
  have cB : Hid (∀ W, Below w5.heap.size w5 W → Calls Try.prog 15 #[v4, v5] W fun e w' => e = .returned (.bool true) ∧ Below W.heap.size W w') := fun W hW => by
    have cc := dsame_any v4 v5 _ _ (by have := shV_le b m who; omega) W (H5.out.2.2.2.1.up hW) (H5.out.2.2.2.2.up hW)
    rw [decide_eq_true rfl] at cc
    exact cc
  have cG : Hid (∀ W, Below w5.heap.size w5 W → Calls Try.prog 12 #[.slice q l d] W fun e w' => e = .returned (.bool r) ∧ Below W.heap.size W w') := fun W hW => by
    rw [← er]
    exact dgood_any q l d m (by omega) W (HN.out.2.up (bstep H5.out.1 hW))
  have cM : Hid (∀ W, Below w5.heap.size w5 W → Calls Try.prog 16 #[.slice q l d] W fun e w' => e = .returned (.bool r) ∧ Below W.heap.size W w') := fun W hW => by
    rw [← er]
    exact rmem_any q l d m (by omega) W (HN.out.2.up (bstep H5.out.1 hW))
  clear er
  refine (cA.out _ (Below.refl _ _)).mono ?_
  rintro e w6 ⟨rfl, hB6⟩
  have H6 : Hid (Below w5.heap.size w5 w6) := hB6
  clear hB6 cA
  go_wp2_with fail
  refine (cB.out _ H6.out).mono ?_
  rintro e w7 ⟨rfl, hB7⟩
  have H7 : Hid (Below w5.heap.size w5 w7) := bstep H6.out hB7
  clear hB7 cB H6
  go_wp2_with fail
  refine (cG.out _ H7.out).mono ?_
  rintro e w8 ⟨rfl, hB8⟩
  have H8 : Hid (Below w5.heap.size w5 w8) := bstep H7.out hB8
  clear hB8 cG H7
  go_wp2_with fail
  refine (cM.out _ H8.out).mono ?_
  rintro e w9 ⟨rfl, hB9⟩
  have H9 : Hid (Below w.heap.size w w9) := bstep H5.out.1 (bstep H8.out hB9)
  clear hB9 cM H8
  go_wp2
  go_ret
  exact ⟨by simp, H9.out⟩
end Go.Proofs.Ytimbidiogcfpeaa.Wd
