/- ConvGreatest: the greatest of a pool are no less than any of theirs, and stand where it is told. -/
import Derived.Test.YtnicknnhboanoabDoorCvL
namespace Go.Proofs.YtnicknnhboanoabDoor.Wd
open Go.RowKit Fx
set_option linter.unusedVariables false
set_option linter.unusedSimpArgs false
theorem isP_row {x : List Int} {n : Nat} (h : x.length = n) (h1 : 1 ≤ n) (h2 : n ≤ 4096) : isP [1, (n : Int)] x := by
  have e : prodN [1, n] = n := by simp [prodN]
  have en : ntl [1, (n : Int)] = [1, n] := ntl_itl [1, n]
  unfold isP
  rw [en, e]
  exact ⟨⟨by simp, fun y hy => by simp at hy; omega, by rw [e]; exact h2⟩, h⟩
theorem pool_row {x : List Int} {n wN q : Nat} (hx : x.length = n) (h1 : 1 ≤ n) (h2 : n ≤ 100) (hw : 1 ≤ wN) (hw2 : wN ≤ n) (hq : n / wN = q) : plE [1, (n : Int)] x (wN : Int) = 0 ∧ plD [1, (n : Int)] x (wN : Int) = [1, (q : Int)] ∧ plV [1, (n : Int)] x (wN : Int) = poolV 1 n q wN x ∧ plP [1, (n : Int)] x (wN : Int) = poolA 1 n q wN x := by
  have hp : isP [1, (n : Int)] x := isP_row hx h1 (by omega)
  have hpl : isP [1, (n : Int)] x ∧ [1, (n : Int)].length = 2 ∧ plW [1, (n : Int)] (wN : Int) := ⟨hp, rfl, by show 1 ≤ (wN : Int) ∧ (wN : Int) ≤ (n : Int); omega⟩
  rw [← hq]
  refine ⟨?_, ?_, ?_, ?_⟩
  · unfold plE
    rw [if_pos hp, if_pos (show [1, (n : Int)].length = 2 from rfl), if_pos hpl.2.2]
  · unfold plD
    rw [if_pos hpl]
    rfl
  · unfold plV
    rw [if_pos hpl]
    rfl
  · unfold plP
    rw [if_pos hpl]
    rfl
theorem pool_one {x : List Int} {n wN q i : Nat} (hi : i < q) : poolP n q wN x i = bestK x (i * wN) (wN - 1) := by
  unfold poolP
  rw [Nat.div_eq_of_lt hi, Nat.mod_eq_of_lt hi, Nat.zero_mul, Nat.zero_add]
set_option maxRecDepth 8000 in
set_option maxHeartbeats 8000000 in
theorem cgreat_walk (w : World) (hT : Hid (Tz w)) (za : Nat → Int) (n c : Nat) (p : Option Addr) (wd : Int) (r1 : RowN .i64 w p n c za) (hwd : -9223372036854775808 ≤ wd ∧ wd ≤ 9223372036854775807) :
    Calls Tryd.prog 4 #[.slice p n c, .int .i64 wd] w fun e w' => e = .returned (.bool true) ∧ Below w.heap.size w w' := by
  have HA : Hid (Nums .i64 w (.slice p n c) (nlst n za)) := r1.nums
  have HI : Hid (RI (nlst n za) ∧ (nlst n za).length = n ∧ n ≤ c) := ⟨r1.riI, nlst_len _ _, r1.1.1⟩
  have hfew : (n : Int) ≤ 9223372036854775807 := by have := r1.few; unfold Few at this; rw [nlst_len] at this; omega
  obtain ⟨x, ex⟩ : ∃ x, nlst n za = x := ⟨_, rfl⟩
  rw [ex] at HA HI
  clear ex r1
  haveI : Nonempty World := ⟨w⟩
  go_enter Tryd.func4, Tryd.ntmps4
  go_wp2_with fail
  have HB_w : Hid (Below w.heap.size w w) := Below.refl _ _
  refine (awake8_any w (hT)).mono ?_
  rintro e wa ⟨rfl, hBa⟩
  have HB_wa : Hid (Below w.heap.size w wa) := bstep HB_w.out hBa
  clear hBa
  by_cases hn1 : n < 1
  · obtain rfl : n = 0 := by omega
    go_wp2
    go_ret
    exact ⟨rfl, HB_wa.out⟩
  have hd1 : decide ((n : Int) < 1) = false := decide_eq_false (by omega)
  by_cases hn2 : 100 < n
  · have hd2 : decide ((100 : Int) < (n : Int)) = true := decide_eq_true (by omega)
    have hd2n : decide (100 < n) = true := decide_eq_true (by omega)
    go_wp2
    go_ret
    exact ⟨rfl, HB_wa.out⟩
  have hd2 : decide ((100 : Int) < (n : Int)) = false := decide_eq_false (by omega)
  have hd2n : decide (100 < n) = false := decide_eq_false (by omega)
  by_cases hw1 : wd < 1
  · have hd3 : decide (wd < 1) = true := decide_eq_true hw1
    go_wp2
    go_ret
    exact ⟨rfl, HB_wa.out⟩
  have hd3 : decide (wd < 1) = false := decide_eq_false hw1
  by_cases hw2 : (n : Int) < wd
  · have hd4 : decide ((n : Int) < wd) = true := decide_eq_true hw2
    go_wp2
    go_ret
    exact ⟨rfl, HB_wa.out⟩
  obtain ⟨wN, rfl⟩ : ∃ q : Nat, wd = q := ⟨wd.toNat, by omega⟩
  have hd4 : decide ((n : Int) < (wN : Int)) = false := decide_eq_false hw2
  have hd4n : decide (n < wN) = false := decide_eq_false (by omega)
  have hb1 : 1 ≤ (n : Int) ∧ (n : Int) ≤ 100 ∧ 1 ≤ (wN : Int) ∧ (wN : Int) ≤ (n : Int) := by omega
  obtain ⟨q, eq⟩ : ∃ q, n / wN = q := ⟨_, rfl⟩
  have eq' : (n : Int) / (wN : Int) = (q : Int) := by rw [← eq]; rfl
  have hqn : q ≤ n := by rw [← eq]; exact Nat.div_le_self _ _
  have hqn' : (q : Int) ≤ 100 := by omega
  have hqw : q * wN ≤ n := by rw [← eq]; exact Nat.div_mul_le_self n wN
  have HQW : Hid (q * wN ≤ n) := hqw
  go_wp2_with fail
  refine (rows_any 1 n x p n c (by omega) (by rw [HI.out.2.1]; omega) HI.out.2.2 (by rw [HI.out.2.1, Nat.div_one]) wa (HA.out.up HB_wa.out)).mono ?_
  rintro e w1 ⟨v1, rfl, ⟨ps1, ns1, cs1, pt1, nt1, ct1, rfl, hs1, ht1, hk1⟩, hB1⟩
  have HB_w1 : Hid (Below w.heap.size w w1) := bstep HB_wa.out hB1
  have T1 : Hid (TnC [1, (n : Int)] x (.agg #[.slice ps1 ns1 cs1, .slice pt1 nt1 ct1]) w1) := ⟨_, _, _, _, _, _, rfl, hs1, ht1, hk1⟩
  clear hs1 ht1 hk1 hB1
  obtain ⟨o1, o2, o3, o4⟩ := pool_row HI.out.2.1 (by omega) (by omega) (by omega) (by omega) eq
  have HR : Hid (RI [1, (n : Int)]) := fun q hq => by simp at hq; omega
  have cm := pool_tn (wN : Int) T1.out HR.out HI.out.1
  rw [o1, o2, o3, o4] at cm
  obtain ⟨V, eV⟩ : ∃ V, poolV 1 n q wN x = V := ⟨_, rfl⟩
  obtain ⟨PL, eP⟩ : ∃ P, poolA 1 n q wN x = P := ⟨_, rfl⟩
  rw [eV, eP] at cm
  have HV : Hid (V.length = q ∧ PL.length = q ∧ ∀ i, i < q → PL.getD i 0 = ((bestK x (i * wN) (wN - 1) : Nat) : Int) ∧ V.getD i 0 = x.getD (bestK x (i * wN) (wN - 1)) 0) := by
    refine ⟨by rw [← eV, poolV_len, Nat.one_mul], by rw [← eP, poolA_len, Nat.one_mul], fun i hi => ?_⟩
    have hi' : i < 1 * q := by omega
    rw [← eV, ← eP, poolA_at _ _ _ _ _ _ hi', poolV_at _ _ _ _ _ _ hi', pool_one hi]
    exact ⟨rfl, rfl⟩
  clear o1 o2 o3 o4 eV eP eq hqw
  go_wp2_with fail
  refine (cm).mono ?_
  rintro e w5 ⟨v5, u5, rfl, ⟨s5, t5, rfl, hs5, ht5⟩, ho5, hB5⟩
  obtain ⟨ps5, ns5, cs5, rfl, _⟩ := hs5.nums.lst
  obtain ⟨pt5, nt5, ct5, rfl, _⟩ := ht5.nums.lst
  obtain ⟨pu5, nu5, cu5, rfl, _⟩ := ho5.nums.lst
  have HB_w5 : Hid (Below w.heap.size w w5) := bstep HB_w1.out hB5

  have T5_v1 : Hid (TnC [1, (q : Int)] V (.agg #[.slice ps5 ns5 cs5, .slice pt5 nt5 ct5]) w5) := ⟨_, _, _, _, _, _, rfl, hs5.nums, ht5.nums, ht5.cap⟩
  have U5_v1 : Hid (Nums .i64 w5 (.slice pu5 nu5 cu5) PL) := ho5.nums
  clear hB5 hs5 ht5 ho5 
  go_wp2_with fail
  generalize hW5 : World.alloc _ _ = W5
  have hC5 : Below w5.heap.size w5 W5 := by rw [← hW5]; exact up_alloc w5 _
  have HB_W5 : Hid (Below w.heap.size w W5) := bstep HB_w5.out hC5
  have T5_v2 : Hid (TnC [1, (q : Int)] V (.agg #[.slice ps5 ns5 cs5, .slice pt5 nt5 ct5]) W5) := T5_v1.out.up hC5
  have U5_v2 : Hid (Nums .i64 W5 (.slice pu5 nu5 cu5) PL) := U5_v1.out.up hC5
  clear T5_v1 U5_v1
  have X5_v2 : Hid (Cel W5 w5.heap.size (.slice ps5 ns5 cs5) (.slice pt5 nt5 ct5)) := by show Cel _ _ _ _; unfold Cel; rw [← hW5]; simp [go_sem]
  clear hW5 hC5 
  clear cm T1
  have hnt : nt5 = q := by
    obtain ⟨_, _, _, _, _, _, e9, _, hn9, _⟩ := T5_v2.out
    cases e9
    obtain ⟨_, _, _, e8, HX⟩ := hn9.lst
    cases e8
    rw [← HX.out.1]
    exact HV.out.1
  have hnu : nu5 = q := by
    obtain ⟨_, _, _, e8, HX⟩ := U5_v2.out.lst
    cases e8
    rw [← HX.out.1]
    exact HV.out.2.1
  replace hnt := hnt.symm
  replace hnu := hnu.symm
  subst hnt
  subst hnu
  have hne : ((q : Int) != (q : Int)) = false := by simp
  obtain ⟨x50, x51, _, _⟩ := X5_v2.out
  have x5z := cell_lt x50
  have HU : Hid (Nums .i64 W5 (.slice pu5 q cu5) PL) := U5_v2.out
  have HTV : Hid (Nums .i64 W5 (.slice pt5 q ct5) V) := by
    obtain ⟨_, _, _, _, _, _, e9, _, hn9, _⟩ := T5_v2.out
    cases e9
    exact hn9
  go_wp2_with fail
  go_quiet (fail)
  generalize hw6 : World.drewN W5 nq = w6
  have hB6 : Below W5.heap.size W5 w6 := by rw [← hw6]; exact below_drew (Below.refl _ _) nq
  clear x50 x51 x5z hw6
  go_wp2_with fail
  go_loopg [8] q (fun gg i wr => ∃ (I : Nat), I ≤ q ∧ gg = q - I ∧ i = .int .i64 (I : Int) ∧ Hid (Below W5.heap.size W5 wr))
  case atStart => exact ⟨0, by omega, by omega, by first | rfl | simp, hB6⟩
  case round =>
    obtain ⟨I, hI, hgI, rfl, hBI⟩ := hrel
    obtain ⟨R1, hR1⟩ : ∃ R1 : World, R1 = wr := ⟨_, rfl⟩
    subst hR1
    by_cases hIn : I < q
    · have hI' : (I : Int) < (q : Int) := by omega
      have hIn' : decide (I < q) = true := decide_eq_true hIn
      obtain ⟨ePI, eVI⟩ := HV.out.2.2 I hIn
      have hin := bestK_in x (I * wN) (wN - 1)
      have hA2 : (I + 1) * wN ≤ q * wN := Nat.mul_le_mul_right wN hIn
      rw [Nat.add_mul, Nat.one_mul] at hA2
      have hQW := HQW.out
      have HM : Hid (∀ k, I * wN ≤ k → k ≤ I * wN + (wN - 1) → x.getD k 0 ≤ x.getD (bestK x (I * wN) (wN - 1)) 0) := fun k => bestK_most x (I * wN) (wN - 1) k
      have HF1 : Hid (∀ k, I * wN ≤ k → k < bestK x (I * wN) (wN - 1) → x.getD k 0 < x.getD (bestK x (I * wN) (wN - 1)) 0) := fun k => bestK_first x (I * wN) (wN - 1) k
      obtain ⟨A, eA⟩ : ∃ a, I * wN = a := ⟨_, rfl⟩
      have eA' : (I : Int) * (wN : Int) = (A : Int) := by rw [← eA]; push_cast; rfl
      rw [eA] at ePI eVI hin hA2 HM HF1
      obtain ⟨at_, eat⟩ : ∃ a, bestK x A (wN - 1) = a := ⟨_, rfl⟩
      rw [eat] at ePI eVI hin HM HF1
      obtain ⟨Z, eZ⟩ : ∃ Z, x.getD at_ 0 = Z := ⟨_, rfl⟩
      rw [eZ] at eVI HM HF1
      obtain ⟨E, eE⟩ : ∃ a, A + wN = a := ⟨_, rfl⟩
      have eE' : (A : Int) + (wN : Int) = (E : Int) := by omega
      obtain ⟨_, _, _, e4, HXl⟩ := HA.out.lst
      cases e4
      obtain ⟨_, _, _, e4, HUl⟩ := HU.out.lst
      cases e4
      obtain ⟨_, _, _, e4, HVl⟩ := HTV.out.lst
      cases e4
      obtain ⟨qx, ox, ex2, hcx⟩ := HXl.out.2 at_ (by omega)
      obtain ⟨qu, ou, eu2, hcu⟩ := HUl.out.2 I hIn
      obtain ⟨qv, ov, ev2, hcv⟩ := HVl.out.2 I hIn
      subst ex2 eu2 ev2
      rw [eZ] at hcx
      rw [ePI] at hcu
      rw [eVI] at hcv
      have HC : Hid (w.cell? ⟨qx, ox + at_, none⟩ = some (.int .i64 Z) ∧ W5.cell? ⟨qu, ou + I, none⟩ = some (.int .i64 (at_ : Int)) ∧ W5.cell? ⟨qv, ov + I, none⟩ = some (.int .i64 Z)) := ⟨hcx, hcu, hcv⟩
      have hBw : Below w.heap.size w R1 := bstep HB_W5.out hBI.out
      have hcx1 := cell_low hcx hBw
      have hcu1 := cell_low hcu hBI.out
      have hcv1 := cell_low hcv hBI.out
      have ltx := cell_lt hcx1
      have ltu := cell_lt hcu1
      have ltv := cell_lt hcv1
      obtain ⟨x50, x51, _, _⟩ := X5_v2.out.up hBI.out
      have x5z := cell_lt x50
      have bd : (at_ : Int) < (n : Int) ∧ (A : Int) ≤ 100 ∧ (E : Int) ≤ 100 := by omega
      have g1 : decide ((at_ : Int) < (A : Int)) = false := decide_eq_false (by omega)
      have g1n : decide (at_ < A) = false := decide_eq_false (by omega)
      have g2 : decide ((E : Int) ≤ (at_ : Int)) = false := decide_eq_false (by omega)
      have g2n : decide (E ≤ at_) = false := decide_eq_false (by omega)
      have g3 : (Z != Z) = false := by simp
      have hcutE : Hid (A + wN = E ∧ E ≤ n) := ⟨eE, by omega⟩
      clear eA eat eZ eE ePI eVI hcx hcu hcv HUl HVl hQW hA2 hBw
      go_wp2_with fail
      go_quiet (fail)
      generalize hw8 : World.drewN R1 nq = w8
      have hB8 : Hid (Below W5.heap.size W5 w8) := by show Below _ _ _; rw [← hw8]; exact below_drew hBI.out nq
      clear hw8 x50 x51 x5z hcx1 hcu1 hcv1 ltx ltu ltv g1 g1n g2 g2n
      go_wp2_with fail
      go_loopg [9] wN (fun gg i wr => ∃ (K : Nat), A ≤ K ∧ K ≤ E ∧ gg = E - K ∧ i = .int .i64 (K : Int) ∧ Hid (Below W5.heap.size W5 wr))
      case atStart => exact ⟨A, by omega, by omega, by omega, by first | rfl | simp, hB8⟩
      case round =>
        obtain ⟨K, hK1, hK2, hgK, rfl, hBK⟩ := hrel
        obtain ⟨R2, hR2⟩ : ∃ R2 : World, R2 = wr := ⟨_, rfl⟩
        subst hR2
        by_cases hKn : K < E
        · have hK' : (K : Int) < (E : Int) := by omega
          have hKd : decide (K < E) = true := decide_eq_true hKn
          have hcE := hcutE.out
          have hmost := HM.out K hK1 (by omega)
          obtain ⟨q', o', e', hcy⟩ := HXl.out.2 K (by omega)
          cases e'
          have hBw : Below w.heap.size w R2 := bstep HB_W5.out hBK.out
          have hcy1 := cell_low hcy hBw
          have hcu1 := cell_low HC.out.2.1 hBK.out
          have hcv1 := cell_low HC.out.2.2 hBK.out
          have ltx := cell_lt hcy1
          have ltu := cell_lt hcu1
          have ltv := cell_lt hcv1
          have bK : (K : Int) < (n : Int) := by omega
          obtain ⟨x50, x51, _, _⟩ := X5_v2.out.up hBK.out
          have x5z := cell_lt x50
          obtain ⟨Xv, eX⟩ : ∃ X, x.getD K 0 = X := ⟨_, rfl⟩
          rw [eX] at hcy1 hmost
          have m1 : decide (Z < Xv) = false := decide_eq_false (by omega)
          by_cases hXZ : Xv = Z
          · have hge : ¬ K < at_ := fun h => by
              have := HF1.out K hK1 h
              omega
            subst hXZ
            have m2 : decide ((K : Int) < (at_ : Int)) = false := decide_eq_false (by omega)
            have m2n : decide (K < at_) = false := decide_eq_false hge
            have m3 : (Xv == Xv) = true := by simp
            clear eX hcy hBw hmost hcE
            go_wp2_with fail
            go_quiet (fail)
            generalize hw9 : World.drewN R2 nq = w9
            have hB9 : Hid (Below W5.heap.size W5 w9) := by show Below _ _ _; rw [← hw9]; exact below_drew hBK.out nq
            clear hw9 x50 x51 x5z hcy1 hcu1 hcv1 ltx ltu ltv
            go_wp2
            go_roundg (E - (K + 1))
            case measure => omega
            case rel => exact ⟨K + 1, by omega, by omega, rfl, by first | rfl | simp, hB9⟩
          · have m3 : (Xv == Z) = false := by simp [hXZ]
            clear eX hcy hBw hmost hcE
            go_wp2_with fail
            go_quiet (fail)
            generalize hw9 : World.drewN R2 nq = w9
            have hB9 : Hid (Below W5.heap.size W5 w9) := by show Below _ _ _; rw [← hw9]; exact below_drew hBK.out nq
            clear hw9 x50 x51 x5z hcy1 hcu1 hcv1 ltx ltu ltv
            go_wp2
            go_roundg (E - (K + 1))
            case measure => omega
            case rel => exact ⟨K + 1, by omega, by omega, rfl, by first | rfl | simp, hB9⟩
        · obtain rfl : E = K := by omega
          have hKd : decide (E < E) = false := decide_eq_false hKn
          go_wp2
          go_roundg (q - (I + 1))
          case measure => omega
          case rel => exact ⟨I + 1, by omega, rfl, by first | rfl | simp, hBK⟩
    · obtain rfl : q = I := by omega
      have hId : decide (q < q) = false := decide_eq_false hIn
      have HBf : Hid (Below w.heap.size w R1) := bstep HB_W5.out hBI.out
      go_wp2
      go_ret
      exact ⟨rfl, HBf.out⟩
end Go.Proofs.YtnicknnhboanoabDoor.Wd
