/- The reference's BackKernel, where the shapes fit. -/
import Derived.Test.YtnicknnhboanoaaDoorRefT
import Derived.Test.YtnicknnhboanoaaDoorCng
namespace Go.Proofs.YtnicknnhboanoaaDoor.Wd
open Go.RowKit Fx
set_option linter.unusedVariables false
set_option linter.unusedSimpArgs false
set_option maxRecDepth 10000 in
set_option maxHeartbeats 16000000 in
theorem rker_fine (R L O wd st S : Nat) (hS : stopsN L wd st = S) (h0 : 1 ≤ wd) (h1 : wd ≤ L) (h2 : L ≤ 4096) (h3 : 1 ≤ st) (h4 : st ≤ 64) (hR : 1 ≤ R) (hO : 1 ≤ O) (h6 : O * S ≤ 4096) (h7 : R * L ≤ 4096) (h8 : O ≤ 4096) (h9 : R ≤ 4096) (qa oa qb ob : Nat) (p2 p4 : Option Addr) (c n2 c2 c3 n4 c4 : Nat) (x y : List Int) (hx : RI x) (hy : RI y) (hxl : x.length = O * S) (hyl : y.length = R * L) (w : World) (ca0 : w.cell? ⟨qa, oa, none⟩ = some (.int .i64 (O : Int))) (ca1 : w.cell? ⟨qa, oa + 1, none⟩ = some (.int .i64 (S : Int))) (cb0 : w.cell? ⟨qb, ob, none⟩ = some (.int .i64 (R : Int))) (cb1 : w.cell? ⟨qb, ob + 1, none⟩ = some (.int .i64 (L : Int))) (nx : Nums .i64 w (.slice p2 n2 c2) x) (ny : Nums .i64 w (.slice p4 n4 c4) y)
    (cA : ∀ W, Below w.heap.size w W → Calls Tryd.prog 37 #[.agg #[.slice (some ⟨qa, oa, none⟩) 2 c, .slice p2 n2 c2]] W fun e w' => e = .returned (.bool true) ∧ Below W.heap.size W w') (cB : ∀ W, Below w.heap.size w W → Calls Tryd.prog 37 #[.agg #[.slice (some ⟨qb, ob, none⟩) 2 c3, .slice p4 n4 c4]] W fun e w' => e = .returned (.bool true) ∧ Below W.heap.size W w') :
    Calls Tryd.prog 20 #[.agg #[.slice (some ⟨qa, oa, none⟩) 2 c, .slice p2 n2 c2], .agg #[.slice (some ⟨qb, ob, none⟩) 2 c3, .slice p4 n4 c4], .int .i64 (st : Int), .int .i64 (wd : Int)] w fun e w' => ∃ v', e = .returned (.tuple #[v', .int .i64 (gatE [(O : Int), (R : Int), (wd : Int)])]) ∧ TRes w' w.heap.size v' (newD [(O : Int), (R : Int), (wd : Int)]) (if goodN (ntl [(O : Int), (R : Int), (wd : Int)]) then kerV O R S L wd st x y else []) ∧ Below w.heap.size w w' := by
  obtain ⟨_, _, _, e4, HX⟩ := nx.lst
  cases e4
  obtain ⟨_, _, _, e4, HY⟩ := ny.lst
  cases e4
  have hSL : S ≤ 4096 := by rw [← hS]; exact Nat.le_trans (stops_le h0 h1) h2
  obtain ⟨Dq, eDq⟩ : ∃ D, L - wd = D := ⟨_, rfl⟩
  have eDq' : (L : Int) - (wd : Int) = (Dq : Int) := by omega
  obtain ⟨qq, eqq⟩ : ∃ q, Dq / st = q := ⟨_, rfl⟩
  have eqq' : (Dq : Int) / (st : Int) = (qq : Int) := by rw [← eqq]; rfl
  have eSq : S = qq + 1 := by rw [← hS]; unfold stopsN; rw [eDq, eqq]
  have eSq' : (qq : Int) + 1 = (S : Int) := by omega
  have hqq : (qq : Int) ≤ 4096 ∧ (Dq : Int) ≤ 4096 := by omega
  have hi : 1 ≤ (wd : Int) ∧ (wd : Int) ≤ (L : Int) ∧ (L : Int) ≤ 4096 ∧ 1 ≤ (st : Int) ∧ (st : Int) ≤ 64 ∧ 1 ≤ (R : Int) ∧ (R : Int) ≤ 4096 ∧ 1 ≤ (O : Int) ∧ (O : Int) ≤ 4096 ∧ 1 ≤ (S : Int) ∧ (S : Int) ≤ 4096 := by omega
  have hdL : decide ((L : Int) < (wd : Int)) = false := decide_eq_false (by omega)
  have hdLn : decide (L < wd) = false := decide_eq_false (by omega)
  have hds : decide ((st : Int) < 1) = false := decide_eq_false (by omega)
  have hds2 : decide (64 < (st : Int)) = false := decide_eq_false (by omega)
  have hdL1 : decide ((L : Int) < 1) = false := decide_eq_false (by omega)
  have hdL2 : decide (4096 < (L : Int)) = false := decide_eq_false (by omega)
  have hdw1 : decide ((wd : Int) < 1) = false := decide_eq_false (by omega)
  have hdw2 : decide (4096 < (wd : Int)) = false := decide_eq_false (by omega)
  have hneR : ((R : Int) != (R : Int)) = false := by simp
  have hneO : ((O : Int) != (O : Int)) = false := by simp
  have hneS : ((S : Int) != (S : Int)) = false := by simp
  haveI : Nonempty World := ⟨w⟩
  by_cases hg : goodN (ntl [(O : Int), (R : Int), (wd : Int)])
  · have HXY : Hid (RI x ∧ RI y ∧ x.length = O * S ∧ y.length = R * L ∧ O * S ≤ 4096 ∧ R * L ≤ 4096) := ⟨hx, hy, hxl, hyl, h6, h7⟩
    have HP : Hid (S ≤ 4096 ∧ 0 < wd ∧ (∀ n, n < S → n * st + wd ≤ L)) := ⟨hSL, h0, fun n hn => stops_room h1 h3 (by rw [hS]; exact hn)⟩
    have cG : Hid (∀ W v, Nums .i64 W v [(O : Int), (R : Int), (wd : Int)] → Calls Tryd.prog 38 #[v] W fun e w' => e = .returned (.bool true) ∧ w' = W) := fun W v hv => by
      have := rgood_any v [(O : Int), (R : Int), (wd : Int)] (RI_three h8 h9 (Nat.le_trans h1 h2)) W hv
      rw [decide_eq_true hg] at this
      exact this
    have cN : Hid (∀ W v, Nums .i64 W v [(O : Int), (R : Int), (wd : Int)] → Calls Tryd.prog 39 #[v, .int .i64 0] W fun e w' => ∃ v', e = .returned v' ∧ TNew w' W.heap.size v' [(O : Int), (R : Int), (wd : Int)] (O * R * wd) (List.replicate (O * R * wd) 0) ∧ Below W.heap.size W w') := fun W v hv => by
      have := rnew_any v [(O : Int), (R : Int), (wd : Int)] (RI_three h8 h9 (Nat.le_trans h1 h2)) hg 0 W hv
      rw [prod_three] at this
      exact this
    rw [show gatE [(O : Int), (R : Int), (wd : Int)] = 0 from if_pos hg, show newD [(O : Int), (R : Int), (wd : Int)] = [(O : Int), (R : Int), (wd : Int)] from if_pos hg, if_pos hg]
    have hNMb : 1 ≤ O * R * wd ∧ O * R * wd ≤ 4096 := ⟨by have := hg.pos; rw [prod_three] at this; exact this, by have := hg.2.2; rw [prod_three] at this; exact this⟩
    obtain ⟨V, eV⟩ : ∃ V, kerV O R S L wd st x y = V := ⟨_, rfl⟩
    obtain ⟨NM, eNM⟩ : ∃ N, O * R * wd = N := ⟨_, rfl⟩
    obtain ⟨DOL, eDOL⟩ : ∃ D, [(O : Int), (R : Int), (wd : Int)] = D := ⟨_, rfl⟩
    have HV : Hid (V = kerV O R S L wd st x y ∧ V.length = NM ∧ O * R * wd = NM) := ⟨eV.symm, by rw [← eV, kerV_len, eNM], eNM⟩
    rw [eNM] at hNMb cN
    rw [eV, eDOL]
    have HDO : Hid ([(O : Int), (R : Int), (wd : Int)] = DOL) := eDOL
    have hNM' : 1 ≤ (NM : Int) ∧ (NM : Int) ≤ 4096 := by omega
    clear eV eNM eDOL hx hy hxl hyl nx ny hS h0 h1 h2 h3 h4 hR hO h8 h9 h6 h7 hg eDq eqq eSq hSL
    go_enter Tryd.func20, Tryd.ntmps20
    go_wp2_with fail
    generalize hW0 : World.alloc _ _ = W0
    have B0 : Below w.heap.size w W0 := by rw [← hW0]; go_grown
    have XA : Hid (Cel W0 w.heap.size (.slice (some ⟨qa, oa, none⟩) 2 c) (.slice p2 n2 c2)) := by show Cel _ _ _ _; unfold Cel; rw [← hW0]; simp [go_sem]
    have XB : Hid (Cel W0 (w.heap.size + 1) (.slice (some ⟨qb, ob, none⟩) 2 c3) (.slice p4 n4 c4)) := by show Cel _ _ _ _; unfold Cel; rw [← hW0]; simp [go_sem]
    have XR : Hid (Cel W0 (w.heap.size + 1 + 1) (.slice none 0 0) (.slice none 0 0)) := by show Cel _ _ _ _; unfold Cel; rw [← hW0]; simp [go_sem]
    have HB0 : Hid (Below w.heap.size w W0) := B0
    clear hW0 B0
    refine (cA W0 HB0.out).mono ?_
    rintro e w1 ⟨rfl, hB1⟩
    have HB1 : Hid (Below w.heap.size w w1 ∧ Below W0.heap.size W0 w1) := ⟨bstep HB0.out hB1, hB1⟩
    clear hB1 cA
    obtain ⟨b0, b1, _, _⟩ := XB.out.up HB1.out.2
    go_wp2_with fail
    refine (cB w1 HB1.out.1).mono ?_
    rintro e w2 ⟨rfl, hB2⟩
    have HB2 : Hid (Below w.heap.size w w2 ∧ Below W0.heap.size W0 w2) := ⟨bstep HB1.out.1 hB2, bstep HB1.out.2 hB2⟩
    clear hB2 cB b0 b1 HB1
    obtain ⟨a0, a1, _, _⟩ := XA.out.up HB2.out.2
    obtain ⟨b0, b1, _, _⟩ := XB.out.up HB2.out.2
    have a9 := cell_lt a0
    have b9 := cell_lt b0
    have ua0 := cell_low ca0 HB2.out.1
    have la0 := cell_lt ua0
    have ua1 := cell_low ca1 HB2.out.1
    have la1 := cell_lt ua1
    have ub0 := cell_low cb0 HB2.out.1
    have lb0 := cell_lt ub0
    have ub1 := cell_low cb1 HB2.out.1
    have lb1 := cell_lt ub1
    go_wp2_with fail
    go_quiet (fail)
    generalize hw5 : World.drewN w2 nq = w3
    have HB3 : Hid (Below w.heap.size w w3 ∧ Below W0.heap.size W0 w3) := by rw [← hw5]; exact ⟨below_drew HB2.out.1 nq, below_drew HB2.out.2 nq⟩
    clear hw5
    clear a0 a1 b0 b1 a9 b9 ua0 la0 ua1 la1 ub0 lb0 ub1 lb1
    obtain ⟨a0, a1, _, _⟩ := XA.out.up HB3.out.2
    obtain ⟨b0, b1, _, _⟩ := XB.out.up HB3.out.2
    have a9 := cell_lt a0
    have b9 := cell_lt b0
    have ua0 := cell_low ca0 HB3.out.1
    have la0 := cell_lt ua0
    have ua1 := cell_low ca1 HB3.out.1
    have la1 := cell_lt ua1
    have ub0 := cell_low cb0 HB3.out.1
    have lb0 := cell_lt ub0
    have ub1 := cell_low cb1 HB3.out.1
    have lb1 := cell_lt ub1
    go_wp2_with fail
    go_quiet (fail)
    generalize hw5 : World.drewN w3 nq = w4
    have HB4 : Hid (Below w.heap.size w w4 ∧ Below W0.heap.size W0 w4) := by rw [← hw5]; exact ⟨below_drew HB3.out.1 nq, below_drew HB3.out.2 nq⟩
    clear hw5
    clear a0 a1 b0 b1 a9 b9 ua0 la0 ua1 la1 ub0 lb0 ub1 lb1
    go_wp2_with fail
    generalize hW5 : World.alloc _ _ = W5
    have hB5 : Below w4.heap.size w4 W5 := by rw [← hW5]; exact up_alloc w4 _
    have HB5 : Hid (Below w.heap.size w W5 ∧ Below W0.heap.size W0 W5) := ⟨bstep HB4.out.1 hB5, bstep HB4.out.2 hB5⟩
    have HL5 : Hid (Nums .i64 W5 (.slice (some ⟨w4.heap.size, 0, none⟩) 3 3) [(O : Int), (R : Int), (wd : Int)]) := by show Nums _ _ _ _; rw [← hW5]; exact nums_lit (k := .i64) w4 [(O : Int), (R : Int), (wd : Int)] 3 (0, 0) rfl
    clear hW5 hB5 HB3 HB4
    refine (cG.out W5 _ HL5.out).mono ?_
    rintro e w6 ⟨rfl, rfl⟩
    clear HL5
    go_wp2_with fail
    generalize hW7 : World.alloc _ _ = W7
    have hB7 : Below w6.heap.size w6 W7 := by rw [← hW7]; exact up_alloc w6 _
    have HB7 : Hid (Below w.heap.size w W7 ∧ Below W0.heap.size W0 W7) := ⟨bstep HB5.out.1 hB7, bstep HB5.out.2 hB7⟩
    have HL7 : Hid (Nums .i64 W7 (.slice (some ⟨w6.heap.size, 0, none⟩) 3 3) [(O : Int), (R : Int), (wd : Int)]) := by show Nums _ _ _ _; rw [← hW7]; exact nums_lit (k := .i64) w6 [(O : Int), (R : Int), (wd : Int)] 3 (0, 0) rfl
    clear hW7 hB7 HB5 cG
    refine (cN.out W7 _ HL7.out).mono ?_
    rintro e w8 ⟨v8, rfl, ⟨s8, g, cg, rfl, hs8, ht8, hOff, hgB⟩, hB8⟩
    rw [HDO.out] at hs8
    obtain ⟨p8, n8, c8, rfl, _⟩ := hs8.nums.lst
    clear HL7 cN
    go_wp2_with fail
    generalize hW9 : World.alloc _ _ = W9
    have B9 : Below w8.heap.size w8 W9 := by rw [← hW9]; exact up_alloc w8 _
    have XT : Hid (Cel W9 w8.heap.size (.slice p8 n8 c8) (.slice (some ⟨g, 0, none⟩) NM cg)) := by show Cel _ _ _ _; unfold Cel; rw [← hW9]; simp [go_sem]
    have HB9 : Hid (Below w.heap.size w W9 ∧ Below W0.heap.size W0 W9) := ⟨bstep HB7.out.1 (bstep hB8 B9), bstep HB7.out.2 (bstep hB8 B9)⟩
    have HD9 : Hid (OwnK .i64 3 W9 W7.heap.size (.slice p8 n8 c8) DOL ∧ Off g (.slice p8 n8 c8)) := ⟨hs8.up B9, hOff⟩
    have HO9 : Hid (OwnK .i64 28 W9 g (.slice (some ⟨g, 0, none⟩) NM cg) (rowF V (0 * R * wd))) := by
      show OwnK _ _ _ _ _ _
      rw [Nat.zero_mul, Nat.zero_mul, rowF_zero, HV.out.2.1]
      exact (ht8.up B9).base
    have hz := cell_lt XR.out.1
    have hgl := ht8.size
    have Hg : Hid (W0.heap.size ≤ g ∧ w.heap.size + 1 + 1 < W0.heap.size ∧ g < w8.heap.size ∧ W0.heap.size ≤ W7.heap.size) := ⟨Nat.le_trans HB7.out.2.size hgB, hz, hgl, HB7.out.2.size⟩
    obtain ⟨b8, hb8⟩ : ∃ b8, w8.heap.size = b8 := ⟨_, rfl⟩
    rw [hb8] at XT Hg ⊢
    clear hW9 B9 hz hgl hs8 ht8 hB8 hgB hOff HB7 hb8 HDO
    go_loopg [15] O (fun gg i wr => ∃ (I : Nat), I ≤ O ∧ gg = O - I ∧ i = .int .i64 (I : Int) ∧ Hid (OwnK .i64 28 wr g (.slice (some ⟨g, 0, none⟩) NM cg) (rowF V (I * R * wd))) ∧ Hid (Below w.heap.size w wr ∧ Stay g W9 wr))
    case atStart => exact ⟨0, by omega, by omega, by first | rfl | simp, HO9, HB9.out.1, Stay.refl _ _⟩
    case round =>
      obtain ⟨I, hI, hgI, rfl, HRI, hBI⟩ := hrel
      obtain ⟨R1, hR1⟩ : ∃ q : World, q = wr := ⟨_, rfl⟩
      subst hR1
      by_cases hIn : I < O
      · have hIn' : (I : Int) < (O : Int) := by omega
        go_wp2_with fail
        rw [show I * R * wd = (I * R + 0) * wd from rfl] at HRI
        go_loopg [16] R (fun gg i wr => ∃ (P : Nat), P ≤ R ∧ gg = R - P ∧ i = .int .i64 (P : Int) ∧ Hid (OwnK .i64 28 wr g (.slice (some ⟨g, 0, none⟩) NM cg) (rowF V ((I * R + P) * wd))) ∧ Hid (Below w.heap.size w wr ∧ Stay g W9 wr))
        case atStart => exact ⟨0, by omega, by omega, by first | rfl | simp, HRI, hBI⟩
        case round =>
          obtain ⟨P, hP, hgP, rfl, HRP, hBP⟩ := hrel
          obtain ⟨R3, hR3⟩ : ∃ q : World, q = wr := ⟨_, rfl⟩
          subst hR3
          by_cases hPn : P < R
          · have hPn' : (P : Int) < (R : Int) := by omega
            go_wp2_with fail
            rw [show (I * R + P) * wd = (I * R + P) * wd + 0 from rfl] at HRP
            go_loopg [17] wd (fun gg i wr => ∃ (Q : Nat), Q ≤ wd ∧ gg = wd - Q ∧ i = .int .i64 (Q : Int) ∧ Hid (OwnK .i64 28 wr g (.slice (some ⟨g, 0, none⟩) NM cg) (rowF V ((I * R + P) * wd + Q))) ∧ Hid (Below w.heap.size w wr ∧ Stay g W9 wr))
            case atStart => exact ⟨0, by omega, by omega, by first | rfl | simp, HRP, hBP⟩
            case round =>
              obtain ⟨Q, hQ, hgQ, rfl, HRQ, hBS⟩ := hrel
              obtain ⟨R2, hR2⟩ : ∃ q : World, q = wr := ⟨_, rfl⟩
              subst hR2
              by_cases hQn : Q < wd
              · have hQn' : (Q : Int) < (wd : Int) := by omega
                go_wp2_with fail
                have L20 : Hid (LiesS (R2.alloc (.cells #[.bool false, .int .u64 0, .int .u64 0, .int .u64 0, .int .u64 0] 64)) R2.heap.size (sumI (fun j' => x.getD (I * S + j') 0 * y.getD (P * L + j' * st + Q) 0) 0)) := liesS_new R2 _
                go_loopg [19] S (fun gg i wr => ∃ (J : Nat), J ≤ S ∧ gg = S - J ∧ i = .int .i64 (J : Int) ∧ Hid (LiesS wr R2.heap.size (sumI (fun j' => x.getD (I * S + j') 0 * y.getD (P * L + j' * st + Q) 0) J)) ∧ Hid (Below R2.heap.size R2 wr))
                case atStart => exact ⟨0, by omega, by omega, by first | rfl | simp, L20, up_alloc R2 _⟩
                case round =>
                  obtain ⟨J, hJ, hgJ, rfl, L0, hBJ⟩ := hrel
                  obtain ⟨R4, hR4⟩ : ∃ q : World, q = wr := ⟨_, rfl⟩
                  subst hR4
                  by_cases hJn : J < S
                  · have hJn' : (J : Int) < (S : Int) := by omega
                    have xA : Cel R4 w.heap.size (.slice (some ⟨qa, oa, none⟩) 2 c) (.slice p2 n2 c2) := ((XA.out.up HB9.out.2).stay hBS.out.2 (by have := Hg.out; omega)).up hBJ.out
                    have xB : Cel R4 (w.heap.size + 1) (.slice (some ⟨qb, ob, none⟩) 2 c3) (.slice p4 n4 c4) := ((XB.out.up HB9.out.2).stay hBS.out.2 (by have := Hg.out; omega)).up hBJ.out
                    have hBw : Below w.heap.size w R4 := bstep hBS.out.1 hBJ.out
                    have hAx : I * S + J < O * S := pair_lt hIn hJn
                    have hBy : P * L + J * st + Q < R * L := by have q1 := HP.out.2.2 J hJn; have q2 : (P + 1) * L ≤ R * L := Nat.mul_le_mul_right L hPn; rw [Nat.add_mul, Nat.one_mul] at q2; omega
                    have hA4 : O * S ≤ 4096 ∧ R * L ≤ 4096 := ⟨HXY.out.2.2.2.2.1, HXY.out.2.2.2.2.2⟩
                    have hn2x : n2 = O * S := by rw [← HX.out.1]; exact HXY.out.2.2.1
                    have hn4y : n4 = R * L := by rw [← HY.out.1]; exact HXY.out.2.2.2.1
                    obtain ⟨qx, ox, ex2, hcx⟩ := HX.out.2 (I * S + J) (by omega)
                    obtain ⟨qy, oy, ey4, hcy⟩ := HY.out.2 (P * L + J * st + Q) (by omega)
                    subst ex2 ey4
                    have hcx1 := cell_low hcx hBw
                    have hcy1 := cell_low hcy hBw
                    have ltx := cell_lt hcx1
                    have lty := cell_lt hcy1
                    have hXr := getD_inR HXY.out.1 (I * S + J)
                    have hYr := getD_inR HXY.out.2.1 (P * L + J * st + Q)
                    have hroom : ((sumI (fun j' => x.getD (I * S + j') 0 * y.getD (P * L + j' * st + Q) 0) J).natAbs : Int) + ((x.getD (I * S + J) 0 * y.getD (P * L + J * st + Q) 0).natAbs : Int) < 115792089237316195423570985008687907853269984665640564039457584007913129639936 := by
                      have q1 := sumI_rng (f := (fun j' => x.getD (I * S + j') 0 * y.getD (P * L + j' * st + Q) 0)) (B := 85070591730234615865843651857942052864) (by omega) J (fun q _ => prod_rng (getD_inR HXY.out.1 _) (getD_inR HXY.out.2.1 _))
                      have q2 := prod_rng hXr hYr
                      have q3 := HP.out.1
                      generalize x.getD (I * S + J) 0 * y.getD (P * L + J * st + Q) 0 = z at *
                      generalize sumI (fun j' => x.getD (I * S + j') 0 * y.getD (P * L + j' * st + Q) 0) J = z' at *
                      omega
                    have eS : sumI (fun j' => x.getD (I * S + j') 0 * y.getD (P * L + j' * st + Q) 0) (J + 1) = sumI (fun j' => x.getD (I * S + j') 0 * y.getD (P * L + j' * st + Q) 0) J + x.getD (I * S + J) 0 * y.getD (P * L + J * st + Q) 0 := rfl
                    obtain ⟨SS, eS0⟩ : ∃ q9 : Int, sumI (fun j' => x.getD (I * S + j') 0 * y.getD (P * L + j' * st + Q) 0) J = q9 := ⟨_, rfl⟩
                    rw [eS0] at L0 eS hroom
                    obtain ⟨X, eX⟩ : ∃ X, x.getD (I * S + J) 0 = X := ⟨_, rfl⟩
                    obtain ⟨Y, eY⟩ : ∃ Y, y.getD (P * L + J * st + Q) 0 = Y := ⟨_, rfl⟩
                    rw [eX] at hcx1 hXr
                    rw [eY] at hcy1 hYr
                    rw [eX, eY] at hroom eS
                    have HS : Hid (sumI (fun j' => x.getD (I * S + j') 0 * y.getD (P * L + j' * st + Q) 0) (J + 1) = SS + X * Y) := eS
                    obtain ⟨ixA, eixA⟩ : ∃ q, I * S = q := ⟨_, rfl⟩
                    have eixA' : (I : Int) * (S : Int) = (ixA : Int) := by rw [← eixA]; push_cast; rfl
                    obtain ⟨ixD, eixD⟩ : ∃ q, ixA + J = q := ⟨_, rfl⟩
                    have eixD' : (ixA : Int) + (J : Int) = (ixD : Int) := by omega
                    rw [eixA, eixD] at hAx hcx1
                    obtain ⟨iyA, eiyA⟩ : ∃ q, P * L = q := ⟨_, rfl⟩
                    have eiyA' : (P : Int) * (L : Int) = (iyA : Int) := by rw [← eiyA]; push_cast; rfl
                    obtain ⟨iyB, eiyB⟩ : ∃ q, J * st = q := ⟨_, rfl⟩
                    have eiyB' : (J : Int) * (st : Int) = (iyB : Int) := by rw [← eiyB]; push_cast; rfl
                    obtain ⟨iyC, eiyC⟩ : ∃ q, iyA + iyB = q := ⟨_, rfl⟩
                    have eiyC' : (iyA : Int) + (iyB : Int) = (iyC : Int) := by omega
                    obtain ⟨iyD, eiyD⟩ : ∃ q, iyC + Q = q := ⟨_, rfl⟩
                    have eiyD' : (iyC : Int) + (Q : Int) = (iyD : Int) := by omega
                    rw [eiyA, eiyB, eiyC, eiyD] at hBy hcy1
                    have bnd : (ixD : Int) < (n2 : Int) ∧ (iyD : Int) < (n4 : Int) ∧ (n2 : Int) ≤ 4096 ∧ (n4 : Int) ≤ 4096 ∧ (ixA : Int) ≤ 4096 ∧ (ixD : Int) ≤ 4096 ∧ (iyA : Int) ≤ 4096 ∧ (iyB : Int) ≤ 4096 ∧ (iyC : Int) ≤ 4096 ∧ (iyD : Int) ≤ 4096 := by omega
                    obtain ⟨r, u0, u1, u2, u3, lt9, q0, q1, q2, q3, q4, z0, z1, z2, z3, z4, hN⟩ := L0.out
                    obtain ⟨zp, hp, cTi⟩ := Rf.timesD hXr hYr
                    obtain ⟨pr, v0, v1, v2, v3, rfl, hp⟩ := hp.agg
                    obtain ⟨zs, hs, cPl⟩ := Rf.plusD hN hp hroom
                    obtain ⟨sr, t0, t1, t2, t3, rfl, hs⟩ := hs.agg
                    have HSs : Hid (Rf.IsS (.agg #[.bool sr, .int .u64 t0, .int .u64 t1, .int .u64 t2, .int .u64 t3]) (SS + X * Y)) := hs
                    obtain ⟨a0, a1, _, _⟩ := xA
                    obtain ⟨b0, b1, _, _⟩ := xB
                    have a9 := cell_lt a0
                    have b9 := cell_lt b0
                    clear eX eY eS0 eS hroom hXr hYr hcx hcy hN hp hs eixA eixD eiyA eiyB eiyC eiyD hAx hBy hA4 hn2x hn4y hBw
                    go_wp2_with fail
                    refine flow 25 170 (by kernel_rfl) rfl rfl (by kernel_rfl) ?_
                    apply Exists.intro
                    refine ⟨?_, ?_⟩
                    · intro F hF
                      have hFc := hF.cell
                      have hFf := hF.frozen
                      simp only [List.take_succ_cons, List.take_zero, List.eraseIdx_cons_succ, List.eraseIdx_cons_zero]
                      repeat (go_big_quiet_step (first | (go_at_call 41; with_reducible exact hF.call (cTi _)) | (go_at_call 40; with_reducible exact hF.call (cPl _))))
                      refine wpQuiet_nil ?_
                      exact rfl
                    · intro W2 hW2
                      simp only [List.drop_succ_cons, List.drop_zero]
                      have M := L0.out.up hW2
                      have N0 : Hid (LiesS (((((W2.setCell ⟨R2.heap.size, 0, none⟩ (.bool sr)).setCell ⟨R2.heap.size, 1, none⟩ (.int .u64 t0)).setCell ⟨R2.heap.size, 2, none⟩ (.int .u64 t1)).setCell ⟨R2.heap.size, 3, none⟩ (.int .u64 t2)).setCell ⟨R2.heap.size, 4, none⟩ (.int .u64 t3)) R2.heap.size (SS + X * Y)) := M.set HSs.out
                      have B2 : Hid (Below R2.heap.size R2 (((((W2.setCell ⟨R2.heap.size, 0, none⟩ (.bool sr)).setCell ⟨R2.heap.size, 1, none⟩ (.int .u64 t0)).setCell ⟨R2.heap.size, 2, none⟩ (.int .u64 t1)).setCell ⟨R2.heap.size, 3, none⟩ (.int .u64 t2)).setCell ⟨R2.heap.size, 4, none⟩ (.int .u64 t3))) := below_set5 (bstep hBJ.out hW2) _ (Nat.le_refl _) _ _ _ _ _
                      obtain ⟨r', w0, w1_, w2_, w3_, lt9', q0', q1', q2', q3', q4', z0', z1', z2', z3', z4', _⟩ := M
                      clear hW2 cTi cPl q0 q1 q2 q3 q4 z0 z1 z2 z3 z4 lt9 L0 hBJ hcx1 hcy1 ltx lty a0 a1 b0 b1 a9 b9
                      go_wp2
                      go_roundg (S - (J + 1))
                      case measure => omega
                      case rel => exact ⟨J + 1, by omega, rfl, by first | rfl | simp, by rw [HS.out]; exact N0, B2⟩
                  · obtain rfl : S = J := by omega
                    have xT : Cel R4 b8 (.slice p8 n8 c8) (.slice (some ⟨g, 0, none⟩) NM cg) := (XT.out.stay hBS.out.2 (by have := Hg.out; omega)).up hBJ.out
                    have hIJ : (I * R + P) * wd + Q < O * R * wd := pair_lt (pair_lt hIn hPn) hQn
                    have eZ : V.getD ((I * R + P) * wd + Q) 0 = rnd (sumI (fun j' => x.getD (I * S + j') 0 * y.getD (P * L + j' * st + Q) 0) S) := by
                      rw [HV.out.1, kerV_at _ _ _ _ _ _ _ _ _ hIJ]
                      unfold kerN
                      rw [pair_div _ _ _ hQn, pair_mod _ _ _ hQn, pair_div _ _ _ hPn, pair_mod _ _ _ hPn]
                    obtain ⟨SS, eS0⟩ : ∃ q9 : Int, sumI (fun j' => x.getD (I * S + j') 0 * y.getD (P * L + j' * st + Q) 0) S = q9 := ⟨_, rfl⟩
                    rw [eS0] at L0 eZ
                    rw [HV.out.2.2] at hIJ
                    obtain ⟨ivA, eivA⟩ : ∃ q, I * R = q := ⟨_, rfl⟩
                    have eivA' : (I : Int) * (R : Int) = (ivA : Int) := by rw [← eivA]; push_cast; rfl
                    obtain ⟨ivB, eivB⟩ : ∃ q, ivA + P = q := ⟨_, rfl⟩
                    have eivB' : (ivA : Int) + (P : Int) = (ivB : Int) := by omega
                    have miv : ivB ≤ ivB * wd := Nat.le_mul_of_pos_right _ HP.out.2.1
                    obtain ⟨ivC, eivC⟩ : ∃ q, ivB * wd = q := ⟨_, rfl⟩
                    have eivC' : (ivB : Int) * (wd : Int) = (ivC : Int) := by rw [← eivC]; push_cast; rfl
                    rw [eivC] at miv
                    obtain ⟨ivD, eivD⟩ : ∃ q, ivC + Q = q := ⟨_, rfl⟩
                    have eivD' : (ivC : Int) + (Q : Int) = (ivD : Int) := by omega
                    rw [eivA, eivB, eivC, eivD] at hIJ eZ HRQ
                    have HNx : Hid ((I * R + P) * wd + (Q + 1) = ivD + 1) := by show _ = _; rw [eivA, eivB, eivC]; omega
                    obtain ⟨Z, eZ2⟩ : ∃ Z, V.getD ivD 0 = Z := ⟨_, rfl⟩
                    have HZ : Hid (V.getD ivD 0 = Z) := eZ2
                    have bnd : (ivD : Int) < (NM : Int) ∧ (ivA : Int) ≤ 4096 ∧ (ivB : Int) ≤ 4096 ∧ (ivC : Int) ≤ 4096 ∧ (ivD : Int) ≤ 4096 := by omega
                    obtain ⟨r, u0, u1, u2, u3, lt9, q0, q1, q2, q3, q4, z0, z1, z2, z3, z4, hN⟩ := L0.out
                    obtain ⟨zh, hh, cHa⟩ := Rf.halvedD hN
                    obtain ⟨hr, v0, v1, v2, v3, rfl, hh⟩ := hh.agg
                    have cHe : ∀ W, Calls Tryd.prog 42 #[.agg #[.bool hr, .int .u64 v0, .int .u64 v1, .int .u64 v2, .int .u64 v3]] W fun e w' => e = .returned (.int .i64 Z) ∧ Below W.heap.size W w' := fun W => by
                      rw [← eZ2, eZ]
                      exact Rf.heldS _ _ hh W
                    obtain ⟨t0, t1, _, _⟩ := xT
                    have t9 := cell_lt t0
                    clear eZ eZ2 eS0 eivA eivB eivC eivD miv hN hh
                    go_wp2_with fail
                    refine flow 15 170 (by kernel_rfl) rfl rfl (by kernel_rfl) ?_
                    apply Exists.intro
                    refine ⟨?_, ?_⟩
                    · intro F hF
                      have hFc := hF.cell
                      have hFf := hF.frozen
                      simp only [List.take_succ_cons, List.take_zero, List.eraseIdx_cons_succ, List.eraseIdx_cons_zero]
                      repeat (go_big_quiet_step (first | (go_at_call 43; with_reducible exact hF.call (cHa _)) | (go_at_call 42; with_reducible exact hF.call (cHe _))))
                      refine wpQuiet_nil ?_
                      exact rfl
                    · intro W2 hW2
                      simp only [List.drop_succ_cons, List.drop_zero]
                      have hB2 := bstep hBJ.out hW2
                      have HR2 := HRQ.out.up hB2
                      obtain ⟨hown, hfz⟩ := HR2.cell (by rw [rowF_len]; exact HV.out.2.1) ivD hIJ
                      have lt2 := cell_lt hown
                      have H5 : Hid (OwnK .i64 28 (W2.setCell ⟨g, ivD, none⟩ (.int .i64 Z)) g (.slice (some ⟨g, 0, none⟩) NM cg) (rowF V ((I * R + P) * wd + (Q + 1)))) := by
                        have := HR2.store (by rw [rowF_len]; exact HV.out.2.1) ivD Z
                        rw [← HZ.out, rowF_set V ivD (by rw [HV.out.2.1]; exact hIJ)] at this
                        rw [← HZ.out]
                        show OwnK _ _ _ _ _ _
                        rw [HNx.out]
                        exact this
                      have hgw : w.heap.size ≤ g := by have := Hg.out; omega
                      have H6 : Hid (Below w.heap.size w (W2.setCell ⟨g, ivD, none⟩ (.int .i64 Z)) ∧ Stay g W9 (W2.setCell ⟨g, ivD, none⟩ (.int .i64 Z))) := ⟨(bstep hBS.out.1 hB2).setCell (p := ⟨g, ivD, none⟩) hgw _, (hBS.out.2.up hB2).set _ _⟩
                      clear hW2 hB2 HR2 cHa cHe q0 q1 q2 q3 q4 z0 z1 z2 z3 z4 lt9 L0 hBJ t0 t1 t9
                      go_wp2
                      go_roundg (wd - (Q + 1))
                      case measure => omega
                      case rel => exact ⟨Q + 1, by omega, rfl, by first | rfl | simp, H5, H6⟩
              · obtain rfl : wd = Q := by omega
                have H7 : Hid (OwnK .i64 28 R2 g (.slice (some ⟨g, 0, none⟩) NM cg) (rowF V ((I * R + (P + 1)) * wd))) := by
                  show OwnK _ _ _ _ _ _
                  rw [← Nat.add_assoc, Nat.add_mul _ 1, Nat.one_mul]
                  exact HRQ.out
                go_wp2
                go_roundg (R - (P + 1))
                case measure => omega
                case rel => exact ⟨P + 1, by omega, rfl, by first | rfl | simp, H7, hBS⟩
          · obtain rfl : R = P := by omega
            have H7 : Hid (OwnK .i64 28 R3 g (.slice (some ⟨g, 0, none⟩) NM cg) (rowF V ((I + 1) * R * wd))) := by
              show OwnK _ _ _ _ _ _
              rw [Nat.add_mul, Nat.one_mul]
              exact HRP.out
            go_wp2
            go_roundg (O - (I + 1))
            case measure => omega
            case rel => exact ⟨I + 1, by omega, rfl, by first | rfl | simp, H7, hBP⟩
      · obtain rfl : O = I := by omega
        have hfin := HRI.out
        rw [HV.out.2.2, ← HV.out.2.1, rowF_full, HV.out.2.1] at hfin
        have xR : Cel R1 (w.heap.size + 1 + 1) (.slice none 0 0) (.slice none 0 0) := (XR.out.up HB9.out.2).stay hBI.out.2 (by have := Hg.out; omega)
        have xT : Cel R1 b8 (.slice p8 n8 c8) (.slice (some ⟨g, 0, none⟩) NM cg) := XT.out.stay hBI.out.2 (by have := Hg.out; omega)
        have o1 := HD9.out.1.stay hBI.out.2 HD9.out.2
        have HF : Hid (TRes (set2 R1 (w.heap.size + 1 + 1) (.slice p8 n8 c8) (.slice (some ⟨g, 0, none⟩) NM cg)) w.heap.size (.agg #[.slice p8 n8 c8, .slice (some ⟨g, 0, none⟩) NM cg]) DOL V ∧ Below w.heap.size w (set2 R1 (w.heap.size + 1 + 1) (.slice p8 n8 c8) (.slice (some ⟨g, 0, none⟩) NM cg))) :=
          ⟨(TRes.set (B := W0.heap.size) (o1.low Hg.out.2.2.2) (hfin.low Hg.out.1) Hg.out.2.1).low (by have := Hg.out; omega), below_cell hBI.out.1 _ (by omega) _ _⟩
        have cf := xR.set (.slice p8 n8 c8) (.slice (some ⟨g, 0, none⟩) NM cg)
        obtain ⟨t0, t1, _, _⟩ := xT
        obtain ⟨r0, r1, r2, r3⟩ := xR
        obtain ⟨y0, y1, _, _⟩ := cf
        have t9 := cell_lt t0
        clear hfin o1
        go_wp2
        exact bodyPost_ret (v := .tuple #[.agg #[.slice p8 n8 c8, .slice (some ⟨g, 0, none⟩) NM cg], .int .i64 0]) (by simp [results, Tryd.results20, go_sem, y0, y1]) rfl ⟨_, rfl, HF.out⟩
  · have cG : Hid (∀ W v, Nums .i64 W v [(O : Int), (R : Int), (wd : Int)] → Calls Tryd.prog 38 #[v] W fun e w' => e = .returned (.bool false) ∧ w' = W) := fun W v hv => by
      have := rgood_any v [(O : Int), (R : Int), (wd : Int)] (RI_three h8 h9 (Nat.le_trans h1 h2)) W hv
      rw [decide_eq_false hg] at this
      exact this
    rw [show gatE [(O : Int), (R : Int), (wd : Int)] = 2 from if_neg hg, show newD [(O : Int), (R : Int), (wd : Int)] = [] from if_neg hg, if_neg hg]
    clear hx hy hxl hyl nx ny HX HY hg hS eDq eqq eSq hSL
    go_enter Tryd.func20, Tryd.ntmps20
    go_wp2_with fail
    generalize hW0 : World.alloc _ _ = W0
    have B0 : Below w.heap.size w W0 := by rw [← hW0]; go_grown
    have XA : Hid (Cel W0 w.heap.size (.slice (some ⟨qa, oa, none⟩) 2 c) (.slice p2 n2 c2)) := by show Cel _ _ _ _; unfold Cel; rw [← hW0]; simp [go_sem]
    have XB : Hid (Cel W0 (w.heap.size + 1) (.slice (some ⟨qb, ob, none⟩) 2 c3) (.slice p4 n4 c4)) := by show Cel _ _ _ _; unfold Cel; rw [← hW0]; simp [go_sem]
    have XR : Hid (Cel W0 (w.heap.size + 1 + 1) (.slice none 0 0) (.slice none 0 0)) := by show Cel _ _ _ _; unfold Cel; rw [← hW0]; simp [go_sem]
    have HB0 : Hid (Below w.heap.size w W0) := B0
    clear hW0 B0
    refine (cA W0 HB0.out).mono ?_
    rintro e w1 ⟨rfl, hB1⟩
    have HB1 : Hid (Below w.heap.size w w1 ∧ Below W0.heap.size W0 w1) := ⟨bstep HB0.out hB1, hB1⟩
    clear hB1 cA
    obtain ⟨b0, b1, _, _⟩ := XB.out.up HB1.out.2
    go_wp2_with fail
    refine (cB w1 HB1.out.1).mono ?_
    rintro e w2 ⟨rfl, hB2⟩
    have HB2 : Hid (Below w.heap.size w w2 ∧ Below W0.heap.size W0 w2) := ⟨bstep HB1.out.1 hB2, bstep HB1.out.2 hB2⟩
    clear hB2 cB b0 b1 HB1
    obtain ⟨a0, a1, _, _⟩ := XA.out.up HB2.out.2
    obtain ⟨b0, b1, _, _⟩ := XB.out.up HB2.out.2
    have a9 := cell_lt a0
    have b9 := cell_lt b0
    have ua0 := cell_low ca0 HB2.out.1
    have la0 := cell_lt ua0
    have ua1 := cell_low ca1 HB2.out.1
    have la1 := cell_lt ua1
    have ub0 := cell_low cb0 HB2.out.1
    have lb0 := cell_lt ub0
    have ub1 := cell_low cb1 HB2.out.1
    have lb1 := cell_lt ub1
    go_wp2_with fail
    go_quiet (fail)
    generalize hw5 : World.drewN w2 nq = w3
    have HB3 : Hid (Below w.heap.size w w3 ∧ Below W0.heap.size W0 w3) := by rw [← hw5]; exact ⟨below_drew HB2.out.1 nq, below_drew HB2.out.2 nq⟩
    clear hw5
    clear a0 a1 b0 b1 a9 b9 ua0 la0 ua1 la1 ub0 lb0 ub1 lb1
    obtain ⟨a0, a1, _, _⟩ := XA.out.up HB3.out.2
    obtain ⟨b0, b1, _, _⟩ := XB.out.up HB3.out.2
    have a9 := cell_lt a0
    have b9 := cell_lt b0
    have ua0 := cell_low ca0 HB3.out.1
    have la0 := cell_lt ua0
    have ua1 := cell_low ca1 HB3.out.1
    have la1 := cell_lt ua1
    have ub0 := cell_low cb0 HB3.out.1
    have lb0 := cell_lt ub0
    have ub1 := cell_low cb1 HB3.out.1
    have lb1 := cell_lt ub1
    go_wp2_with fail
    go_quiet (fail)
    generalize hw5 : World.drewN w3 nq = w4
    have HB4 : Hid (Below w.heap.size w w4 ∧ Below W0.heap.size W0 w4) := by rw [← hw5]; exact ⟨below_drew HB3.out.1 nq, below_drew HB3.out.2 nq⟩
    clear hw5
    clear a0 a1 b0 b1 a9 b9 ua0 la0 ua1 la1 ub0 lb0 ub1 lb1
    go_wp2_with fail
    generalize hW5 : World.alloc _ _ = W5
    have hB5 : Below w4.heap.size w4 W5 := by rw [← hW5]; exact up_alloc w4 _
    have HB5 : Hid (Below w.heap.size w W5 ∧ Below W0.heap.size W0 W5) := ⟨bstep HB4.out.1 hB5, bstep HB4.out.2 hB5⟩
    have HL5 : Hid (Nums .i64 W5 (.slice (some ⟨w4.heap.size, 0, none⟩) 3 3) [(O : Int), (R : Int), (wd : Int)]) := by show Nums _ _ _ _; rw [← hW5]; exact nums_lit (k := .i64) w4 [(O : Int), (R : Int), (wd : Int)] 3 (0, 0) rfl
    clear hW5 hB5 HB3 HB4
    refine (cG.out W5 _ HL5.out).mono ?_
    rintro e w6 ⟨rfl, rfl⟩
    have xr := XR.out.up HB5.out.2
    have BF := below_cell HB5.out.1 (w.heap.size + 1 + 1) (by omega) (.slice none 0 0) (.slice none 0 0)
    have cf := xr.set (.slice none 0 0) (.slice none 0 0)
    obtain ⟨r0, r1, r2, r3⟩ := xr
    obtain ⟨y0, y1, _, _⟩ := cf
    go_wp2
    exact bodyPost_ret (v := .tuple #[.agg #[.slice none 0 0, .slice none 0 0], .int .i64 2]) (by simp [results, Tryd.results20, go_sem, y0, y1]) rfl ⟨_, rfl, TRes.none _ _, BF⟩
end Go.Proofs.YtnicknnhboanoaaDoor.Wd
