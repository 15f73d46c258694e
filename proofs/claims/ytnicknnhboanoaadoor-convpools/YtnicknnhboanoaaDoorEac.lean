/- How windows go over rows: what conv's stops, goodStep, goodLength and each do. -/
import Derived.Test.YtnicknnhboanoaaDoorExa
import Derived.Test.YtnicknnhboanoaaDoorTenW
import Derived.Test.YtnicknnhboanoaaDoorCnX
namespace Go.Proofs.YtnicknnhboanoaaDoor.Wd
open Go.RowKit Fx
set_option linter.unusedVariables false
set_option linter.unusedSimpArgs false
set_option maxHeartbeats 1000000 in
theorem stops_any (R L O wd st : Nat) (h1 : wd ≤ L) (h2 : L ≤ 4096) (h3 : 1 ≤ st) (h4 : st ≤ 64) (w : World) :
    Calls Tryd.prog 26 #[.agg #[.int .i64 (R : Int), .int .i64 (L : Int), .int .i64 (O : Int), .int .i64 (wd : Int), .int .i64 (st : Int)]] w fun e w' => e = .returned (.int .i64 (stopsN L wd st : Nat)) ∧ Below w.heap.size w w' := by
  obtain ⟨D, eD⟩ : ∃ D, L - wd = D := ⟨_, rfl⟩
  have eD' : (L : Int) - (wd : Int) = (D : Int) := by omega
  obtain ⟨q, eq⟩ : ∃ q, D / st = q := ⟨_, rfl⟩
  have eq' : (D : Int) / (st : Int) = (q : Int) := by rw [← eq]; rfl
  have hq : q ≤ D := by rw [← eq]; exact Nat.div_le_self _ _
  have hq' : (q : Int) ≤ 4096 := by omega
  have hD' : (D : Int) ≤ 4096 := by omega
  have hL' : (L : Int) ≤ 4096 := by omega
  have hw' : (wd : Int) ≤ 4096 := by omega
  have hs' : 1 ≤ (st : Int) ∧ (st : Int) ≤ 64 := by omega
  have eS : ((stopsN L wd st : Nat) : Int) = (q : Int) + 1 := by unfold stopsN; rw [eD, eq]; rfl
  rw [eS]
  clear eS eD eq
  go_enter Tryd.func26, Tryd.ntmps26
  go_wp2
  go_ret
  exact ⟨rfl, by go_grown⟩
set_option maxHeartbeats 1000000 in
theorem goodStep_any (st : Int) (w : World) :
    Calls Tryd.prog 24 #[.int .i64 st] w fun e w' => e = .returned (.bool (decide (1 ≤ st ∧ st ≤ 64))) ∧ Below w.heap.size w w' := by
  by_cases h1 : 1 ≤ st
  · by_cases h2 : st ≤ 64
    · rw [decide_eq_true ⟨h1, h2⟩]
      go_enter Tryd.func24, Tryd.ntmps24
      go_wp2
      go_ret
      exact ⟨rfl, by go_grown⟩
    · rw [decide_eq_false fun h => h2 h.2]
      go_enter Tryd.func24, Tryd.ntmps24
      go_wp2
      go_ret
      exact ⟨rfl, by go_grown⟩
  · rw [decide_eq_false fun h => h1 h.1]
    go_enter Tryd.func24, Tryd.ntmps24
    go_wp2
    go_ret
    exact ⟨rfl, by go_grown⟩
set_option maxHeartbeats 1000000 in
theorem goodLength_any (n : Int) (w : World) :
    Calls Tryd.prog 31 #[.int .i64 n] w fun e w' => e = .returned (.bool (decide (1 ≤ n ∧ n ≤ 4096))) ∧ Below w.heap.size w w' := by
  by_cases h1 : 1 ≤ n
  · by_cases h2 : n ≤ 4096
    · rw [decide_eq_true ⟨h1, h2⟩]
      go_enter Tryd.func31, Tryd.ntmps31
      go_wp2
      go_ret
      exact ⟨rfl, by go_grown⟩
    · rw [decide_eq_false fun h => h2 h.2]
      go_enter Tryd.func31, Tryd.ntmps31
      go_wp2
      go_ret
      exact ⟨rfl, by go_grown⟩
  · rw [decide_eq_false fun h => h1 h.1]
    go_enter Tryd.func31, Tryd.ntmps31
    go_wp2
    go_ret
    exact ⟨rfl, by go_grown⟩
/-- A slide's numbers, in a block. -/
def SlC (W : World) (b R L O wd st : Nat) : Prop :=
  W.cell? ⟨b, 0, none⟩ = some (.int .i64 (R : Int)) ∧ W.cell? ⟨b, 1, none⟩ = some (.int .i64 (L : Int)) ∧ W.cell? ⟨b, 2, none⟩ = some (.int .i64 (O : Int)) ∧ W.cell? ⟨b, 3, none⟩ = some (.int .i64 (wd : Int)) ∧ W.cell? ⟨b, 4, none⟩ = some (.int .i64 (st : Int))
theorem SlC.up {W W' : World} {b R L O wd st : Nat} (h : SlC W b R L O wd st) (hB : Below W.heap.size W W') : SlC W' b R L O wd st :=
  ⟨cell_low h.1 hB, cell_low h.2.1 hB, cell_low h.2.2.1 hB, cell_low h.2.2.2.1 hB, cell_low h.2.2.2.2 hB⟩
theorem SlC.stay {W W' : World} {g b R L O wd st : Nat} (h : SlC W b R L O wd st) (hs : Stay g W W') (hg : b ≠ g) : SlC W' b R L O wd st :=
  ⟨hs.cell h.1 hg, hs.cell h.2.1 hg, hs.cell h.2.2.1 hg, hs.cell h.2.2.2.1 hg, hs.cell h.2.2.2.2 hg⟩
set_option maxRecDepth 8000 in
set_option maxHeartbeats 8000000 in
theorem each_any (K : FuncId) (hEnt : ∀ args W, (callFunc K args).run Tryd.prog W = .ok (.enter K args) W) (u0 u1 u2 : Value) (b R L O wd st S : Nat) (hS : stopsN L wd st = S) (h1 : wd ≤ L) (h2 : L ≤ 4096) (h3 : 1 ≤ st) (h4 : st ≤ 64) (h5 : O * R * wd ≤ 4096) (h6 : O * S ≤ 4096) (h7 : R * L ≤ 4096) (h8 : O ≤ 4096) (h9 : R ≤ 4096)
    (I : Nat → World → Prop) (hI : ∀ q W W', I q W → Below W.heap.size W W' → I q W')
    (hK : ∀ o c n y, o < O → c < R → n < S → y < wd → ∀ W, I (((o * R + c) * S + n) * wd + y) W → Calls Tryd.prog K #[.int .i64 ((c * L + n * st + y : Nat) : Int), .int .i64 (((o * R + c) * wd + y : Nat) : Int), .int .i64 ((o * S + n : Nat) : Int), u0, u1, u2] W fun e w' => e = .returned (.tuple #[]) ∧ I (((o * R + c) * S + n) * wd + (y + 1)) w' ∧ Stay b W w' ∧ Below b W w')
    (w : World) (hb : b < w.heap.size) (h0 : I 0 w) :
    Calls Tryd.prog 28 #[.agg #[.int .i64 (R : Int), .int .i64 (L : Int), .int .i64 (O : Int), .int .i64 (wd : Int), .int .i64 (st : Int)], .func (.func K) #[] #[u0, u1, u2]] w fun e w' => e = .returned (.tuple #[]) ∧ I (O * R * S * wd) w' ∧ Stay b w w' ∧ Below b w w' := by
  have cS : ∀ W : World, Calls Tryd.prog 26 #[.agg #[.int .i64 (R : Int), .int .i64 (L : Int), .int .i64 (O : Int), .int .i64 (wd : Int), .int .i64 (st : Int)]] W fun e w' => e = .returned (.int .i64 (S : Int)) ∧ Below W.heap.size W w' := fun W => by rw [← hS]; exact stops_any R L O wd st h1 h2 h3 h4 W
  have HI : Hid (∀ q W W', I q W → Below W.heap.size W W' → I q W') := hI
  have HK : Hid (∀ o c n y, o < O → c < R → n < S → y < wd → ∀ W, I (((o * R + c) * S + n) * wd + y) W → Calls Tryd.prog K #[.int .i64 ((c * L + n * st + y : Nat) : Int), .int .i64 (((o * R + c) * wd + y : Nat) : Int), .int .i64 ((o * S + n : Nat) : Int), u0, u1, u2] W fun e w' => e = .returned (.tuple #[]) ∧ I (((o * R + c) * S + n) * wd + (y + 1)) w' ∧ Stay b W w' ∧ Below b W w') := hK
  have H0 : Hid (I 0 w) := h0
  have HR : Hid ((∀ n, n < S → n * st + wd ≤ L) ∧ O * R * wd ≤ 4096 ∧ O * S ≤ 4096 ∧ R * L ≤ 4096) := ⟨fun n hn => by
    unfold stopsN at hS
    have : n ≤ (L - wd) / st := by omega
    have := (Nat.le_div_iff_mul_le (by omega)).1 this
    omega, h5, h6, h7⟩
  have hS1 : S ≤ 4097 := by rw [← hS]; unfold stopsN; have := Nat.div_le_self (L - wd) st; omega
  have h1' : (wd : Int) ≤ 4096 ∧ (L : Int) ≤ 4096 ∧ 1 ≤ (st : Int) ∧ (st : Int) ≤ 64 ∧ (O : Int) ≤ 4096 ∧ (R : Int) ≤ 4096 ∧ (S : Int) ≤ 4097 := by omega
  obtain ⟨h1a, h1b, h1c, h1d, h1e, h1f, h1g⟩ := h1'
  clear hI hK h0 h5 h6 h7 hS h1 h2 h3 h4
  haveI : Nonempty World := ⟨w⟩
  go_enter Tryd.func28, Tryd.ntmps28
  go_wp2_with fail
  generalize hW0 : World.alloc _ _ = W0
  have hC0 : Below w.heap.size w W0 := by rw [← hW0]; exact up_alloc w _
  have X0 : SlC W0 w.heap.size R L O wd st := by unfold SlC; rw [← hW0]; simp [go_sem]
  clear hW0
  refine (cS W0).mono ?_
  rintro e w1 ⟨rfl, hB1⟩
  have hB : Below w.heap.size w w1 := bstep hC0 hB1
  have HX : Hid (SlC w1 w.heap.size R L O wd st ∧ b < w.heap.size) := ⟨X0.up hB1, hb⟩
  have H1 : Hid (I (0 * R * S * wd) w1 ∧ Stay b w w1 ∧ Below b w w1) := ⟨by rw [Nat.zero_mul, Nat.zero_mul, Nat.zero_mul]; exact HI.out _ _ _ H0.out hB, Stay.of hB, hB.mono (Nat.le_of_lt hb)⟩
  clear hC0 X0 hB1 hB cS hb H0
  obtain ⟨z0, z1, z2, z3, z4⟩ := HX.out.1
  have zl := cell_lt z0
  obtain ⟨G, eG⟩ : ∃ G, w.heap.size = G := ⟨_, rfl⟩
  rw [eG] at z0 z1 z2 z3 z4 HX ⊢
  clear eG
  go_wp2_with fail
  clear z0 z1 z2 z3 z4 zl
  go_loopg [15] O (fun gg i wr => ∃ (o : Nat), o ≤ O ∧ gg = O - o ∧ i = .int .i64 (o : Int) ∧ Hid (I (o * R * S * wd) wr ∧ Stay b w wr ∧ Below b w wr ∧ Stay b w1 wr))
  case atStart => exact ⟨0, by omega, by omega, by first | rfl | simp, H1.out.1, H1.out.2.1, H1.out.2.2, Stay.refl _ _⟩
  case round =>
    obtain ⟨o, ho, hgo, rfl, Ho⟩ := hrel
    obtain ⟨R1, hR1⟩ : ∃ R1 : World, R1 = wr := ⟨_, rfl⟩
    subst hR1
    by_cases hon : o < O
    · have ho' : (o : Int) < (O : Int) := by omega
      obtain ⟨z0, z1, z2, z3, z4⟩ := HX.out.1.stay Ho.out.2.2.2 (by have := HX.out.2; omega)
      have zl := cell_lt z0
      go_wp2_with fail
      clear z0 z1 z2 z3 z4 zl
      rw [show o * R * S = (o * R + 0) * S from rfl] at Ho
      go_loopg [20] R (fun gg i wr => ∃ (c : Nat), c ≤ R ∧ gg = R - c ∧ i = .int .i64 (c : Int) ∧ Hid (I ((o * R + c) * S * wd) wr ∧ Stay b w wr ∧ Below b w wr ∧ Stay b w1 wr))
      case atStart => exact ⟨0, by omega, by omega, by first | rfl | simp, Ho⟩
      case round =>
        obtain ⟨c, hc, hgc, rfl, Hc⟩ := hrel
        obtain ⟨R2, hR2⟩ : ∃ R2 : World, R2 = wr := ⟨_, rfl⟩
        subst hR2
        by_cases hcn : c < R
        · have hc' : (c : Int) < (R : Int) := by omega
          go_wp2_with fail
          rw [show (o * R + c) * S = (o * R + c) * S + 0 from rfl] at Hc
          go_loopg [24] S (fun gg i wr => ∃ (n : Nat), n ≤ S ∧ gg = S - n ∧ i = .int .i64 (n : Int) ∧ Hid (I (((o * R + c) * S + n) * wd) wr ∧ Stay b w wr ∧ Below b w wr ∧ Stay b w1 wr))
          case atStart => exact ⟨0, by omega, by omega, by first | rfl | simp, Hc⟩
          case round =>
            obtain ⟨n, hn, hgn, rfl, Hn⟩ := hrel
            obtain ⟨R3, hR3⟩ : ∃ R3 : World, R3 = wr := ⟨_, rfl⟩
            subst hR3
            by_cases hnn : n < S
            · have hn' : (n : Int) < (S : Int) := by omega
              obtain ⟨z0, z1, z2, z3, z4⟩ := HX.out.1.stay Hn.out.2.2.2 (by have := HX.out.2; omega)
              have zl := cell_lt z0
              have b1 := HR.out.1 n hnn
              have b2 : (c + 1) * L ≤ R * L := Nat.mul_le_mul_right L hcn
              have b3 : (o * R + c + 1) * wd ≤ O * R * wd := Nat.mul_le_mul_right wd (pair_lt hon hcn)
              have b4 : o * S + n < O * S := pair_lt hon hnn
              have b5 := HR.out.2
              rw [Nat.add_mul, Nat.one_mul] at b2 b3
              have b6 := pair_lt hon hcn
              have b7 : o * R ≤ O * R := Nat.mul_le_mul_right R (Nat.le_of_lt hon)
              have b8 : O * R ≤ 16777216 := Nat.mul_le_mul h8 h9
              obtain ⟨A, eA⟩ : ∃ A, c * L = A := ⟨_, rfl⟩
              obtain ⟨B, eB⟩ : ∃ B, n * st = B := ⟨_, rfl⟩
              obtain ⟨C, eC⟩ : ∃ C, o * R = C := ⟨_, rfl⟩
              obtain ⟨OR, eOR⟩ : ∃ C, O * R = C := ⟨_, rfl⟩
              obtain ⟨RL, eRL⟩ : ∃ C, R * L = C := ⟨_, rfl⟩
              have eA' : (c : Int) * (L : Int) = (A : Int) := by rw [← eA]; push_cast; rfl
              have eB' : (n : Int) * (st : Int) = (B : Int) := by rw [← eB]; push_cast; rfl
              have eC' : (o : Int) * (R : Int) = (C : Int) := by rw [← eC]; push_cast; rfl
              rw [eC] at b3 b6 b7
              rw [eA, eRL] at b2
              rw [eB] at b1
              rw [eOR] at b6 b7 b8
              rw [eRL] at b5
              obtain ⟨E, eE⟩ : ∃ E, C + c = E := ⟨_, rfl⟩
              have eE' : (C : Int) + (c : Int) = (E : Int) := by omega
              obtain ⟨AB, eAB⟩ : ∃ E, A + B = E := ⟨_, rfl⟩
              have eAB' : (A : Int) + (B : Int) = (AB : Int) := by omega
              rw [eE] at b3 b6
              obtain ⟨KB, eKB⟩ : ∃ E', E * wd = E' := ⟨_, rfl⟩
              have eKB' : (E : Int) * (wd : Int) = (KB : Int) := by rw [← eKB]; push_cast; rfl
              rw [eKB] at b3
              obtain ⟨OS, eOS⟩ : ∃ E', o * S = E' := ⟨_, rfl⟩
              have eOS' : (o : Int) * (S : Int) = (OS : Int) := by rw [← eOS]; push_cast; rfl
              obtain ⟨Q, eQ⟩ : ∃ E', OS + n = E' := ⟨_, rfl⟩
              have eQ' : (OS : Int) + (n : Int) = (Q : Int) := by omega
              rw [eOS, eQ] at b4
              have HE : Hid (c * L + n * st = AB ∧ (o * R + c) * wd = KB ∧ o * S + n = Q) := ⟨by rw [eA, eB, eAB], by rw [eC, eE, eKB], by rw [eOS, eQ]⟩
              have bd1 : (A : Int) ≤ 10000 ∧ (B : Int) ≤ 10000 ∧ (C : Int) ≤ 16777216 ∧ (E : Int) ≤ 16777217 := by omega
              have bd2 : (AB : Int) + (wd : Int) ≤ 20000 ∧ (KB : Int) + (wd : Int) ≤ 20000 ∧ (Q : Int) ≤ 20000 ∧ (OS : Int) ≤ 20000 := by omega
              clear eA eB eC eOR eRL eE eAB eKB eOS eQ b1 b2 b3 b4 b5 b6 b7 b8
              go_wp2_with fail
              go_quiet (fail)
              generalize hw5 : World.drewN R3 nq = w5
              have hB5 : Below R3.heap.size R3 w5 := by rw [← hw5]; exact below_drew (Below.refl _ _) nq
              have Hn5 : Hid (I (((o * R + c) * S + n) * wd) w5 ∧ Stay b w w5 ∧ Below b w w5 ∧ Stay b w1 w5) := ⟨HI.out _ _ _ Hn.out.1 hB5, Hn.out.2.1.up hB5, Hn.out.2.2.1.trans (hB5.mono (by have h := HX.out.2; have h2 := cell_lt z0; omega)), Hn.out.2.2.2.up hB5⟩
              clear hw5 hB5 z0 z1 z2 z3 z4 zl
              obtain ⟨z0, z1, z2, z3, z4⟩ := HX.out.1.stay Hn5.out.2.2.2 (by have := HX.out.2; omega)
              have zl := cell_lt z0
              go_wp2_with fail
              clear z0 z1 z2 z3 z4 zl eA' eB' eC' eE' eAB' eKB'
              rw [show ((o * R + c) * S + n) * wd = ((o * R + c) * S + n) * wd + 0 from rfl] at Hn5
              go_loopg [47] wd (fun gg i wr => ∃ (y : Nat), y ≤ wd ∧ gg = wd - y ∧ i = .int .i64 (y : Int) ∧ Hid (I (((o * R + c) * S + n) * wd + y) wr ∧ Stay b w wr ∧ Below b w wr ∧ Stay b w1 wr))
              case atStart => exact ⟨0, by omega, by omega, by first | rfl | simp, Hn5⟩
              case round =>
                obtain ⟨y, hy, hgy, rfl, Hy⟩ := hrel
                obtain ⟨R4, hR4⟩ : ∃ R4 : World, R4 = wr := ⟨_, rfl⟩
                subst hR4
                by_cases hyn : y < wd
                · have hy' : (y : Int) < (wd : Int) := by omega
                  have cK := HK.out o c n y hon hcn hnn hyn R4 Hy.out.1
                  obtain ⟨P1, eP1⟩ : ∃ P, c * L + n * st + y = P := ⟨_, rfl⟩
                  obtain ⟨P2, eP2⟩ : ∃ P, (o * R + c) * wd + y = P := ⟨_, rfl⟩
                  rw [eP1, eP2, HE.out.2.2] at cK
                  have eP1' : (AB : Int) + (y : Int) = (P1 : Int) := by have := HE.out.1; omega
                  have eP2' : (KB : Int) + (y : Int) = (P2 : Int) := by have := HE.out.2.1; omega
                  have bP : (P1 : Int) ≤ 40000 ∧ (P2 : Int) ≤ 40000 := by omega
                  clear eP1 eP2
                  go_wp2_with fail
                  refine cK.mono ?_
                  rintro e w4 ⟨rfl, hJ, hSt, hBl⟩
                  have Hz : Hid (I (((o * R + c) * S + n) * wd + (y + 1)) w4 ∧ Stay b w w4 ∧ Below b w w4 ∧ Stay b w1 w4) := ⟨hJ, Hy.out.2.1.trans hSt, Hy.out.2.2.1.trans hBl, Hy.out.2.2.2.trans hSt⟩
                  clear hJ hSt hBl cK
                  go_wp2
                  go_roundg (wd - (y + 1))
                  case measure => omega
                  case rel => exact ⟨y + 1, by omega, rfl, by first | rfl | simp, Hz⟩
                · obtain rfl : y = wd := by omega
                  have Hz : Hid (I (((o * R + c) * S + (n + 1)) * y) R4 ∧ Stay b w R4 ∧ Below b w R4 ∧ Stay b w1 R4) := ⟨by rw [← Nat.add_assoc, Nat.add_mul _ 1, Nat.one_mul]; exact Hy.out.1, Hy.out.2⟩
                  go_wp2
                  go_roundg (S - (n + 1))
                  case measure => omega
                  case rel => exact ⟨n + 1, by omega, rfl, by first | rfl | simp, Hz⟩
            · obtain rfl : n = S := by omega
              have Hz : Hid (I ((o * R + (c + 1)) * n * wd) R3 ∧ Stay b w R3 ∧ Below b w R3 ∧ Stay b w1 R3) := ⟨by rw [← Nat.add_assoc, Nat.add_mul _ 1, Nat.one_mul]; exact Hn.out.1, Hn.out.2⟩
              go_wp2
              go_roundg (R - (c + 1))
              case measure => omega
              case rel => exact ⟨c + 1, by omega, rfl, by first | rfl | simp, Hz⟩
        · obtain rfl : c = R := by omega
          have Hz : Hid (I ((o + 1) * c * S * wd) R2 ∧ Stay b w R2 ∧ Below b w R2 ∧ Stay b w1 R2) := ⟨by rw [Nat.add_mul, Nat.one_mul]; exact Hc.out.1, Hc.out.2⟩
          go_wp2
          go_roundg (O - (o + 1))
          case measure => omega
          case rel => exact ⟨o + 1, by omega, rfl, by first | rfl | simp, Hz⟩
    · obtain rfl : o = O := by omega
      go_wp2
      go_end0
      exact ⟨rfl, Ho.out.1, Ho.out.2.1, Ho.out.2.2.1⟩
end Go.Proofs.YtnicknnhboanoaaDoor.Wd
