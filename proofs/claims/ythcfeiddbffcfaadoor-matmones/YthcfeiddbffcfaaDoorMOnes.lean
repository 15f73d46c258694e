/- MatmOnes: with ones down the middle a matrix stays as it is. -/
import Derived.Test.YthcfeiddbffcfaaDoorMtN
namespace Go.Proofs.YthcfeiddbffcfaaDoor.Wd
open Go.RowKit Fx
set_option linter.unusedVariables false
set_option linter.unusedSimpArgs false
/-- Ones down the middle, as far as k. -/
def oneK (n k i : Nat) : Int := if i / n = i % n ∧ i / n < k then 4294967296 else 0
def oneW (n k : Nat) : List Int := (List.range (n * n)).map (oneK n k)
theorem oneW_len (n k : Nat) : (oneW n k).length = n * n := by simp [oneW]
theorem oneW_zero (n : Nat) : oneW n 0 = List.replicate (n * n) 0 := by
  refine List.ext_getElem (by simp [oneW]) fun i h1 h2 => ?_
  simp [oneW, oneK]
theorem oneW_full (n : Nat) : oneW n n = oneV n := by
  unfold oneW oneV
  refine List.map_congr_left fun i hi => ?_
  have := List.mem_range.1 hi
  have h2 : i / n < n := Nat.div_lt_of_lt_mul this
  unfold oneK oneN
  by_cases h : i / n = i % n
  · rw [if_pos ⟨h, h2⟩, if_pos h]
  · rw [if_neg (fun c => h c.1), if_neg h]
theorem oneW_set (n k : Nat) (hk : k < n) : (oneW n k).set (k * n + k) 4294967296 = oneW n (k + 1) := by
  refine List.ext_getElem (by simp [oneW]) fun i h1 h2 => ?_
  rw [List.getElem_set]
  simp only [oneW, List.getElem_map, List.getElem_range]
  rw [oneW_len] at h2
  have hn : 0 < n := by omega
  by_cases h : k * n + k = i
  · rw [if_pos h, ← h]
    unfold oneK
    rw [pair_div _ _ _ hk, pair_mod _ _ _ hk, if_pos ⟨rfl, by omega⟩]
  · rw [if_neg h]
    unfold oneK
    by_cases hc : i / n = i % n
    · by_cases hl : i / n < k
      · rw [if_pos ⟨hc, hl⟩, if_pos ⟨hc, by omega⟩]
      · rw [if_neg (fun c => hl c.2)]
        by_cases hl2 : i / n < k + 1
        · exfalso
          apply h
          have e := Nat.div_add_mod i n
          have : i / n = k := by omega
          rw [← hc, this, Nat.mul_comm] at e
          exact e
        · rw [if_neg (fun c => hl2 c.2)]
    · rw [if_neg (fun c => hc c.1), if_neg (fun c => hc c.1)]
theorem RI_one (n : Nat) : RI (oneV n) := fun q hq => by
  obtain ⟨i, _, rfl⟩ := List.mem_map.1 hq
  unfold oneN
  split <;> omega
set_option maxRecDepth 8000 in
set_option maxHeartbeats 8000000 in
theorem mones_walk (w : World) (hT : Hid (Tz w)) (za : Nat → Int) (n c : Nat) (p : Option Addr) (zb : Nat → Int) (n2 c2 : Nat) (p2 : Option Addr) (r1 : RowN .i64 w p n c za) (r2 : RowN .i64 w p2 n2 c2 zb) :
    Calls Tryd.prog 8 #[.agg #[.slice p n c, .slice p2 n2 c2]] w fun e w' => e = .returned (.bool true) ∧ Below w.heap.size w w' := by
  have HA : Hid (Nums .i64 w (.slice p n c) (nlst n za) ∧ Nums .i64 w (.slice p2 n2 c2) (nlst n2 zb)) := ⟨r1.nums, r2.nums⟩
  have HI : Hid (RI (nlst n za) ∧ RI (nlst n2 zb)) := ⟨r1.riI, r2.riI⟩
  have HF : Hid (Few (nlst n za) ∧ Few (nlst n2 zb)) := ⟨r1.few, r2.few⟩
  have HC : Hid (n2 ≤ c2 ∧ (nlst n za).length = n) := ⟨r2.room, nlst_len _ _⟩
  obtain ⟨d, ed⟩ : ∃ d, nlst n za = d := ⟨_, rfl⟩
  obtain ⟨x, ex⟩ : ∃ x, nlst n2 zb = x := ⟨_, rfl⟩
  rw [ed, ex] at HA HI HF
  rw [ed] at HC
  clear ed ex r1 r2
  have HTa : Hid (∀ W, Below w.heap.size w W → TnC d x (.agg #[.slice p n c, .slice p2 n2 c2]) W) := fun W hW => ⟨_, _, _, _, _, _, rfl, HA.out.1.up hW, HA.out.2.up hW, HC.out.1⟩
  haveI : Nonempty World := ⟨w⟩
  go_enter Tryd.func8, Tryd.ntmps8
  go_wp2_with fail
  generalize hW0 : World.alloc _ _ = W0
  have HB_W0 : Hid (Below w.heap.size w W0) := by show Below _ _ _; rw [← hW0]; go_grown
  have XA_v0 : Hid (Cel W0 w.heap.size (.slice p n c) (.slice p2 n2 c2)) := by show Cel _ _ _ _; unfold Cel; rw [← hW0]; simp [go_sem]
  clear hW0
  refine (awake7_any W0 (Hid.up_tz hT HB_W0.out)).mono ?_
  rintro e wa ⟨rfl, hBa⟩
  have HB_wa : Hid (Below w.heap.size w wa) := bstep HB_W0.out hBa
  have XA_v1 : Hid (Cel wa w.heap.size (.slice p n c) (.slice p2 n2 c2)) := XA_v0.out.up hBa
  clear XA_v0
  clear hBa
  have cg := great7_any p p2 n c n2 c2 200 (by decide) wa
  by_cases hga : 10 < n ∨ 200 < n2
  · rw [decide_eq_true hga] at cg
    obtain ⟨xa0, xa1, _, _⟩ := XA_v1.out
    have xaz := cell_lt xa0
    go_wp2_with fail
    refine (cg).mono ?_
    rintro e wb ⟨rfl, hBwb⟩
    have HB_wb : Hid (Below w.heap.size w wb) := bstep HB_wa.out hBwb
    have XA_v2 : Hid (Cel wb w.heap.size (.slice p n c) (.slice p2 n2 c2)) := XA_v1.out.up hBwb
    clear XA_v1
    clear hBwb xa0 xa1 xaz
    go_wp2
    go_ret
    exact ⟨rfl, HB_wb.out⟩
  rw [decide_eq_false hga] at cg
  obtain ⟨xa0, xa1, _, _⟩ := XA_v1.out
  have xaz := cell_lt xa0
  go_wp2_with fail
  refine (cg).mono ?_
  rintro e wb ⟨rfl, hBwb⟩
  have HB_wb : Hid (Below w.heap.size w wb) := bstep HB_wa.out hBwb
  have XA_v2 : Hid (Cel wb w.heap.size (.slice p n c) (.slice p2 n2 c2)) := XA_v1.out.up hBwb
  clear XA_v1
  clear hBwb xa0 xa1 xaz
  clear cg
  have hn10 : (n : Int) ≤ 10 := by omega
  clear hga
  rcases (Decidable.em (n = 2)).symm with hn | hn
  · have hne : ((n : Int) != 2) = true := by simp; omega
    have hne' : ¬ ((n : Int) = 2) := by omega
    obtain ⟨xa0, xa1, _, _⟩ := XA_v2.out
    have xaz := cell_lt xa0
    go_wp2
    go_ret
    exact ⟨rfl, HB_wb.out⟩
  subst hn
  have cg := is_tn (HTa.out wb HB_wb.out).tn HI.out.1
  rcases (Decidable.em (isP d x)).symm with hp | hp
  · rw [decide_eq_false hp] at cg
    obtain ⟨xa0, xa1, _, _⟩ := XA_v2.out
    have xaz := cell_lt xa0
    go_wp2_with fail
    refine (cg).mono ?_
    rintro e wc ⟨rfl, hBwc⟩
    have HB_wc : Hid (Below w.heap.size w wc) := bstep HB_wb.out hBwc
    have XA_v3 : Hid (Cel wc w.heap.size (.slice p 2 c) (.slice p2 n2 c2)) := XA_v2.out.up hBwc
    clear XA_v2
    clear hBwc xa0 xa1 xaz
    go_wp2
    go_ret
    exact ⟨rfl, HB_wc.out⟩
  rw [decide_eq_true hp] at cg
  obtain ⟨xa0, xa1, _, _⟩ := XA_v2.out
  have xaz := cell_lt xa0
  go_wp2_with fail
  refine (cg).mono ?_
  rintro e wc ⟨rfl, hBwc⟩
  have HB_wc : Hid (Below w.heap.size w wc) := bstep HB_wb.out hBwc
  have XA_v3 : Hid (Cel wc w.heap.size (.slice p 2 c) (.slice p2 n2 c2)) := XA_v2.out.up hBwc
  clear XA_v2
  clear hBwc xa0 xa1 xaz
  clear cg
  obtain ⟨N, K, rfl, hx0, k0, k1, k2⟩ := two_sides hp HC.out.2
  have s1 := le_side k2 k0 k1
  obtain ⟨_, _, _, e4, HD⟩ := HA.out.1.lst
  cases e4
  obtain ⟨qa, oa, rfl, hcA⟩ := HD.out.2 1 (by omega)
  have hcA : w.cell? ⟨qa, oa + 1, none⟩ = some (.int .i64 (K : Int)) := hcA
  have ua := cell_low hcA HB_wc.out
  have ua9 := cell_lt ua
  have zK : (K : Int) ≤ 4096 := by omega
  rcases (Decidable.em ((K : Int) ≤ 40)).symm with hK | hK
  · have hK' : (40 : Int) < (K : Int) := by omega
    obtain ⟨xa0, xa1, _, _⟩ := XA_v3.out
    have xaz := cell_lt xa0
    go_wp2
    go_ret
    exact ⟨rfl, HB_wc.out⟩
  obtain ⟨xa0, xa1, _, _⟩ := XA_v3.out
  have xaz := cell_lt xa0
  have HG : Hid (goodN (ntl [(K : Int), (K : Int)]) ∧ 1 ≤ N ∧ 1 ≤ K ∧ K ≤ 40 ∧ N * K ≤ 4096 ∧ x.length = N * K ∧ K * K ≤ 4096) := by
    have h40 : K ≤ 40 := by omega
    have hkk : K * K ≤ 40 * 40 := Nat.mul_le_mul h40 h40
    exact ⟨good_two.2 ⟨k1, k1, by omega⟩, k0, k1, h40, k2, hx0, by omega⟩
  clear hp hx0 k0 k2 s1 HD
  go_wp2_with fail
  generalize hW7 : World.alloc _ _ = W7
  have hB7 : Below wc.heap.size wc W7 := by rw [← hW7]; exact up_alloc wc _
  have HL7 : Hid (Nums .i64 W7 (.slice (some ⟨wc.heap.size, 0, none⟩) 2 2) [(K : Int), (K : Int)]) := by show Nums _ _ _ _; rw [← hW7]; exact nums_lit (k := .i64) wc [(K : Int), (K : Int)] 2 (0, 0) rfl
  have epN : prodN (ntl [(K : Int), (K : Int)]) = K * K := by rw [show ntl [(K : Int), (K : Int)] = [K, K] from ntl_itl [K, K]]; simp [prodN]
  have cN := rnew_any _ [(K : Int), (K : Int)] (RI_two (by omega) (by omega)) HG.out.1 0 W7 HL7.out
  rw [epN] at cN
  have HB_W7 : Hid (Below w.heap.size w W7) := bstep HB_wc.out hB7
  have XA_v4 : Hid (Cel W7 w.heap.size (.slice (some ⟨qa, oa, none⟩) 2 c) (.slice p2 n2 c2)) := XA_v3.out.up hB7
  clear XA_v3
  clear hW7 hB7 ua ua9 xa0 xa1 xaz
  have hw7 := cell_lt XA_v4.out.1
  refine cN.mono ?_
  rintro e w8 ⟨v8, rfl, ⟨s8, g, cg_, rfl, hs8, ht8, hOff, hgB⟩, hB8⟩
  obtain ⟨p8, n8, c8, rfl, _⟩ := hs8.nums.lst
  have HB_w8 : Hid (Below w.heap.size w w8) := bstep HB_W7.out hB8
  have XA_v5 : Hid (Cel w8 w.heap.size (.slice (some ⟨qa, oa, none⟩) 2 c) (.slice p2 n2 c2)) := XA_v4.out.up hB8
  clear XA_v4
  obtain ⟨KK, eKK⟩ : ∃ KK, K * K = KK := ⟨_, rfl⟩
  have hKK : KK ≤ 4096 := by rw [← eKK]; exact HG.out.2.2.2.2.2.2
  rw [eKK] at ht8 ⊢
  go_wp2_with fail
  generalize hW9 : World.alloc _ _ = W9
  have hB9 : Below w8.heap.size w8 W9 := by rw [← hW9]; exact up_alloc w8 _
  have XT : Hid (Cel W9 w8.heap.size (.slice p8 n8 c8) (.slice (some ⟨g, 0, none⟩) KK cg_)) := by show Cel _ _ _ _; unfold Cel; rw [← hW9]; simp [go_sem]
  have HD9 : Hid (OwnK .i64 3 W9 W7.heap.size (.slice p8 n8 c8) [(K : Int), (K : Int)] ∧ Off g (.slice p8 n8 c8) ∧ W7.heap.size ≤ g ∧ g < w8.heap.size) := ⟨hs8.up hB9, hOff, hgB, ht8.size⟩
  have HO9 : Hid (OwnK .i64 28 W9 g (.slice (some ⟨g, 0, none⟩) KK cg_) (oneW K 0)) := by
    show OwnK _ _ _ _ _ _
    rw [oneW_zero, eKK]
    exact (ht8.up hB9).base
  have HB_W9 : Hid (Below w.heap.size w W9) := bstep HB_w8.out hB9
  have XA_v6 : Hid (Cel W9 w.heap.size (.slice (some ⟨qa, oa, none⟩) 2 c) (.slice p2 n2 c2)) := XA_v5.out.up hB9
  clear XA_v5
  obtain ⟨b8, hb8⟩ : ∃ b8, w8.heap.size = b8 := ⟨_, rfl⟩
  have Hs : Hid (w.heap.size < W7.heap.size ∧ w8.heap.size = b8 ∧ K * K = KK) := ⟨hw7, hb8, eKK⟩
  rw [hb8] at XT HD9 ⊢
  have HBW : Hid (Below w.heap.size w W9) := HB_W9
  clear hW9 hB9 hs8 ht8 hOff hgB hB8 cN HL7 hb8 eKK
  have XA9 : Hid (Cel W9 w.heap.size (.slice (some ⟨qa, oa, none⟩) 2 c) (.slice p2 n2 c2)) := XA_v6
  go_loopg [5] K (fun gg i wr => ∃ (k : Nat), k ≤ K ∧ gg = K - k ∧ i = .int .i64 (k : Int) ∧ Hid (OwnK .i64 28 wr g (.slice (some ⟨g, 0, none⟩) KK cg_) (oneW K k)) ∧ Hid (Below w.heap.size w wr ∧ Stay g W9 wr))
  case atStart => exact ⟨0, by omega, by omega, by first | rfl | simp, HO9, HBW.out, Stay.refl _ _⟩
  case round =>
    obtain ⟨k, hk, hgk, rfl, HRk, hBS⟩ := hrel
    obtain ⟨R1, hR1⟩ : ∃ R1 : World, R1 = wr := ⟨_, rfl⟩
    subst hR1
    have xT : Cel R1 b8 (.slice p8 n8 c8) (.slice (some ⟨g, 0, none⟩) KK cg_) := XT.out.stay hBS.out.2 (by have := HD9.out.2.2.2; omega)
    have hgw : w.heap.size < g := by have := HD9.out.2.2.1; have := Hs.out; omega
    by_cases hkn : k < K
    · have hk' : (k : Int) < (K : Int) := by omega
      have hkk : k * K + k < KK := by rw [← Hs.out.2.2]; exact pair_lt hkn hkn
      obtain ⟨A, eA⟩ : ∃ A, k * K = A := ⟨_, rfl⟩
      have eA' : (k : Int) * (K : Int) = (A : Int) := by rw [← eA]; push_cast; rfl
      have HW := oneW_set K k hkn
      rw [eA] at hkk HW
      obtain ⟨B, eB⟩ : ∃ B, A + k = B := ⟨_, rfl⟩
      have eB' : (A : Int) + (k : Int) = (B : Int) := by omega
      rw [eB] at hkk HW
      have hl : (oneW K k).length = KK := by rw [oneW_len]; exact Hs.out.2.2
      obtain ⟨hown, hfz⟩ := HRk.out.cell hl B hkk
      have lt2 := cell_lt hown
      have H5 : Hid (OwnK .i64 28 (R1.setCell ⟨g, B, none⟩ (.int .i64 4294967296)) g (.slice (some ⟨g, 0, none⟩) KK cg_) (oneW K (k + 1))) := by
        have := HRk.out.store hl B 4294967296
        rw [HW] at this
        exact this
      have H6 : Hid (Below w.heap.size w (R1.setCell ⟨g, B, none⟩ (.int .i64 4294967296)) ∧ Stay g W9 (R1.setCell ⟨g, B, none⟩ (.int .i64 4294967296))) := ⟨hBS.out.1.setCell (p := ⟨g, B, none⟩) (by show w.heap.size ≤ g; omega) _, hBS.out.2.set _ _⟩
      have bnd : (B : Int) < (KK : Int) ∧ (KK : Int) ≤ 4096 ∧ (A : Int) ≤ 4096 := by omega
      obtain ⟨t0, t1, _, _⟩ := xT
      have t9 := cell_lt t0
      clear eA eB HW hl
      go_wp2
      go_roundg (K - (k + 1))
      case measure => omega
      case rel => exact ⟨k + 1, by omega, rfl, by first | rfl | simp, H5, H6⟩
    · obtain rfl : k = K := by omega
      have hfin := HRk.out
      rw [oneW_full] at hfin
      have xA : Cel R1 w.heap.size (.slice (some ⟨qa, oa, none⟩) 2 c) (.slice p2 n2 c2) := XA9.out.stay hBS.out.2 (by omega)
      have nO : Tn [(k : Int), (k : Int)] (oneV k) (.agg #[.slice p8 n8 c8, .slice (some ⟨g, 0, none⟩) KK cg_]) R1 := ⟨_, _, _, _, _, _, rfl, (HD9.out.1.stay hBS.out.2 HD9.out.2.1).nums, hfin.nums⟩
      have hyl : (oneV k).length = k * k := by simp [oneV]
      have F4 := m_at HG.out.2.2.2.2.2.1 hyl HG.out.2.1 HG.out.2.2.1 HG.out.2.2.1 HG.out.2.2.2.2.1 HG.out.2.2.2.2.2.2 HG.out.2.2.2.2.1
      rw [mul_ones HG.out.2.2.2.2.2.1 HI.out.2] at F4
      have cm := mul_tn (HTa.out R1 hBS.out.1) nO HI.out.1 HI.out.2 (RI_two (by omega) (by omega)) (RI_one k) (Hid.up_tz hT hBS.out.1)
      rw [F4.1, F4.2.1, F4.2.2] at cm
      obtain ⟨a0, a1, _, _⟩ := xA
      obtain ⟨t0, t1, _, _⟩ := xT
      have a9 := cell_lt a0
      have t9 := cell_lt t0
      have HXA : Hid (Cel R1 w.heap.size (.slice (some ⟨qa, oa, none⟩) 2 c) (.slice p2 n2 c2)) := XA9.out.stay hBS.out.2 (by omega)
      clear hfin nO hyl F4
      go_wp2_with fail
      refine cm.mono ?_
      rintro e w10 ⟨v10, rfl, ⟨s10, t10, rfl, hs10, ht10⟩, hB10⟩
      obtain ⟨p10, n10, c10, rfl, _⟩ := hs10.nums.lst
      obtain ⟨p11, n11, c11, rfl, _⟩ := ht10.nums.lst
      have T10 : Hid (Tn [(N : Int), (k : Int)] x (.agg #[.slice p10 n10 c10, .slice p11 n11 c11]) w10 ∧ Below w.heap.size w w10 ∧ Cel w10 w.heap.size (.slice (some ⟨qa, oa, none⟩) 2 c) (.slice p2 n2 c2)) := ⟨⟨_, _, _, _, _, _, rfl, hs10.nums, ht10.nums⟩, bstep hBS.out.1 hB10, HXA.out.up hB10⟩
      clear cm hs10 ht10 hB10 a0 a1 t0 t1 a9 t9
      obtain ⟨a0, a1, _, _⟩ := T10.out.2.2
      have a9 := cell_lt a0
      go_wp2_with fail
      generalize hW11 : World.alloc _ _ = W11
      have hB11 : Below w10.heap.size w10 W11 := by rw [← hW11]; exact up_alloc w10 _
      have X11 : Cel W11 w10.heap.size (.slice p10 n10 c10) (.slice p11 n11 c11) := by unfold Cel; rw [← hW11]; simp [go_sem]
      have HB11 : Hid (Below w.heap.size w W11) := bstep T10.out.2.1 hB11
      have ca := alike_tn (T10.out.1.up hB11) (HTa.out W11 HB11.out).tn (by unfold Few; simp) HF.out.2
      rw [decide_eq_true ⟨rfl, rfl⟩] at ca
      clear hW11 hB11 X11
      refine ca.mono ?_
      rintro e w12 ⟨rfl, hB12⟩
      have HB12 : Hid (Below w.heap.size w w12) := bstep HB11.out hB12
      clear hB12 ca a0 a1 a9
      go_wp2
      go_ret
      exact ⟨rfl, HB12.out⟩
end Go.Proofs.YthcfeiddbffcfaaDoor.Wd
