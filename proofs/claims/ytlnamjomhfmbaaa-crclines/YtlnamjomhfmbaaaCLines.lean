/- The law CrcLines. -/
import Derived.Test.YtlnamjomhfmbaaaCrcC
namespace Go.Proofs.Ytlnamjomhfmbaaa.Wd
open Go.RowKit
set_option linter.unusedVariables false
set_option linter.unusedSimpArgs false
/-- A row in the making: the first k numbers stand, the others are noughts. -/
def rowX (n : Nat) (x : Nat → Int) (k : Nat) : List Int := lst n fun i => if i < k then x i else 0
theorem rowX_len (n : Nat) (x : Nat → Int) (k : Nat) : (rowX n x k).length = n := lst_len _ _
theorem rowX_zero (n : Nat) (x : Nat → Int) : rowX n x 0 = List.replicate n 0 := by
  refine List.ext_getElem (by simp [rowX_len]) fun i h1 h2 => ?_
  simp [rowX, lst]
theorem rowX_full (n : Nat) (x : Nat → Int) : rowX n x n = lst n x := by
  refine List.ext_getElem (by simp [rowX_len, lst_len]) fun i h1 h2 => ?_
  rw [lst_len] at h2
  simp [rowX, lst, h2]
theorem rowX_set (n : Nat) (x : Nat → Int) (k : Nat) : (rowX n x k).set k (x k) = rowX n x (k + 1) := by
  refine List.ext_getElem (by simp [rowX_len]) fun i h1 h2 => ?_
  rw [List.getElem_set]
  simp only [rowX, lst, List.getElem_map, List.getElem_range]
  by_cases h : k = i
  · subst h
    simp
  · rw [if_neg h]
    by_cases h' : i < k
    · rw [if_pos h', if_pos (by omega)]
    · rw [if_neg h', if_neg (by omega)]
def x3 (a b c : Nat → Int) (i : Nat) : Int := (((a i).toNat ^^^ (b i).toNat ^^^ (c i).toNat : Nat) : Int)
theorem nats_x3 (n : Nat) (a b c : Nat → Int) : nats (lst n (x3 a b c)) = List.zipWith (· ^^^ ·) (List.zipWith (· ^^^ ·) (nats (lst n a)) (nats (lst n b))) (nats (lst n c)) := by
  refine List.ext_getElem (by simp [nats, lst_len]) fun i h1 h2 => ?_
  simp [nats, lst, x3]
theorem xor_lt8 {x y : Nat} (hx : x < 256) (hy : y < 256) : x ^^^ y < 256 := Nat.xor_lt_two_pow (n := 8) hx hy
theorem byte3 (a b c : Int) (ha : 0 ≤ a ∧ a < 256) (hb : 0 ≤ b ∧ b < 256) (hc : 0 ≤ c ∧ c < 256) : ∃ t, bits .xor .u8 a b = t ∧ bits .xor .u8 t c = ((a.toNat ^^^ b.toNat ^^^ c.toNat : Nat) : Int) ∧ 0 ≤ t ∧ t < 256 := by
  have h1 := xor_lt8 (x := a.toNat) (y := b.toNat) (by omega) (by omega)
  have e1 := xor_8 a.toNat b.toNat (by omega) (by omega)
  have e2 := xor_8 (a.toNat ^^^ b.toNat) c.toNat h1 (by omega)
  rw [Int.toNat_of_nonneg ha.1, Int.toNat_of_nonneg hb.1] at e1
  rw [Int.toNat_of_nonneg hc.1] at e2
  exact ⟨_, e1, e2, by omega, by omega⟩
theorem nats_lt {l : List Int} (h : ∀ y, y ∈ l → 0 ≤ y ∧ y < 256) : ∀ b, b ∈ nats l → b < 256 := by
  intro b hb
  obtain ⟨y, hy, rfl⟩ := List.mem_map.1 hb
  have := h y hy
  omega
theorem ofN_lt {l : List Int} (h : ∀ y, y ∈ l → 0 ≤ y ∧ y < 256) : ofN (nats l) < 4294967296 :=
  xor_lt (by omega) (runN_lt _ (xor_lt (by omega) (by omega)) (nats_lt h))
theorem Bytes.cellAt {W : World} {p : Option Addr} {n c : Nat} {z : Nat → Int} (h : Bytes W (.slice p n c) (lst n z)) (j : Nat) (hj : j < n) : ∃ q o, p = some ⟨q, o, none⟩ ∧ W.cell? ⟨q, o + j, none⟩ = some (.int .u8 (z j)) := by
  obtain ⟨p', c', e, hc⟩ := h.viewN
  simp only [Value.slice.injEq] at e
  obtain ⟨rfl, _, rfl⟩ := e
  obtain ⟨q, o, rfl, hcell⟩ := hc j (by rw [lst_len]; exact hj)
  refine ⟨q, o, rfl, ?_⟩
  rw [hcell, List.getD_eq_getElem?_getD, lst_get n z j hj]
  rfl
set_option maxHeartbeats 4000000 in
theorem clines_walk (w : World) (za : Nat → Int) (n cap : Nat) (pa : Option Addr) (zb : Nat → Int) (nb capb : Nat) (pb : Option Addr) (zc : Nat → Int) (nc capc : Nat) (pc : Option Addr) (ha : RowN .u8 w pa n cap za) (hb : RowN .u8 w pb nb capb zb) (hc : RowN .u8 w pc nc capc zc) :
    Calls Try.prog 7 #[.slice pa n cap, .slice pb nb capb, .slice pc nc capc] w fun e w' => e = .returned (.bool true) ∧ Below w.heap.size w w' := by
  obtain ⟨i0, hi, hz0, hz1, hz2⟩ := info_parts info8
  have Ha : Hid (Bytes w (.slice pa n cap) (lst n za)) := ha.bytes
  have Hb : Hid (Bytes w (.slice pb nb capb) (lst nb zb)) := hb.bytes
  have Hc : Hid (Bytes w (.slice pc nc capc) (lst nc zc)) := hc.bytes
  have Ra := ha.rng
  have Rb := hb.rng
  have Rc := hc.rng
  have la : n ≤ 9223372036854775807 := Nat.le_trans ha.1.1 ha.1.2.1
  have lb : nb ≤ 9223372036854775807 := Nat.le_trans hb.1.1 hb.1.2.1
  have lc : nc ≤ 9223372036854775807 := Nat.le_trans hc.1.1 hc.1.2.1
  clear ha hb hc
  go_enter Try.func7, Try.ntmps7
  go_wp2_with fail
  refine (cawake_any w).mono ?_
  rintro e w1 ⟨rfl, B1⟩
  by_cases hn : 300 < n
  · have hn' : (300 : Int) < (n : Int) := by omega
    go_wp2
    go_ret
    exact ⟨rfl, B1⟩
  have hn' : (n : Int) ≤ 300 := by omega
  have hn2 : n ≤ 300 := by omega
  by_cases hbn : ¬ nb = n
  · have hne : ((nb : Int) != (n : Int)) = true := by simp; omega
    have hne' : ¬ ((nb : Int) = (n : Int)) := by omega
    go_wp2
    go_ret
    exact ⟨rfl, B1⟩
  obtain rfl := Decidable.not_not.1 hbn
  clear hbn
  by_cases hcn : ¬ nc = nb
  · have hne : ((nc : Int) != (nb : Int)) = true := by simp; omega
    have hne' : ¬ ((nc : Int) = (nb : Int)) := by omega
    go_wp2
    go_ret
    exact ⟨rfl, B1⟩
  obtain rfl := Decidable.not_not.1 hcn
  clear hcn
  have A1 : Hid (Bytes w1 (.slice pa nc cap) (lst nc za)) := Ha.out.up B1
  have A2 : Hid (Bytes w1 (.slice pb nc capb) (lst nc zb)) := Hb.out.up B1
  have A3 : Hid (Bytes w1 (.slice pc nc capc) (lst nc zc)) := Hc.out.up B1
  clear Ha Hb Hc
  have hzz : ∀ (z : Nat → Int), (∀ y, y ∈ lst nc z → 0 ≤ y ∧ y < 256) → ∀ i, i < nc → 0 ≤ z i ∧ z i < 256 := fun z h i hi => h _ (List.mem_map.2 ⟨i, List.mem_range.2 hi, rfl⟩)
  have Za : Hid (∀ i, i < nc → 0 ≤ za i ∧ za i < 256) := hzz _ Ra
  have Zb : Hid (∀ i, i < nc → 0 ≤ zb i ∧ zb i < 256) := hzz _ Rb
  have Zc : Hid (∀ i, i < nc → 0 ≤ zc i ∧ zc i < 256) := hzz _ Rc
  have RX : ∀ y, y ∈ lst nc (x3 za zb zc) → 0 ≤ y ∧ y < 256 := by
    intro y hy
    obtain ⟨i, hi, rfl⟩ := List.mem_map.1 hy
    have hi' := List.mem_range.1 hi
    have h1 := Za.out i hi'
    have h2 := Zb.out i hi'
    have h3 := Zc.out i hi'
    have := xor_lt8 (xor_lt8 (x := (za i).toNat) (y := (zb i).toNat) (by omega) (by omega)) (y := (zc i).toNat) (by omega)
    unfold x3
    omega
  have HF : Hid ((∀ y, y ∈ lst nc za → 0 ≤ y ∧ y < 256) ∧ (∀ y, y ∈ lst nc zb → 0 ≤ y ∧ y < 256) ∧ (∀ y, y ∈ lst nc zc → 0 ≤ y ∧ y < 256) ∧ ∀ y, y ∈ lst nc (x3 za zb zc) → 0 ≤ y ∧ y < 256) := ⟨Ra, Rb, Rc, RX⟩
  clear hzz Ra Rb Rc RX la lb lc
  go_wp2_with (at_make; refine wpList_make_full _ rfl (.tmp 29) (.tmp 29) 25 rfl w1.heap.size 5 i0 (.int .u8 0) 1 Try.underlying25 hi hz0 hz1 .i64 .i64 nc nc nc rfl rfl rfl rfl (by rw [hz2]; omega) (by unfold maxLen; omega) (Nat.le_refl _) ?_; intro w2 hown1 hgrow1; have B2 : Below w1.heap.size w1 w2 := Below.grown (Below.refl _ _) hgrow1 (Nat.le_refl _) (fun k hk => by cases hk); have R1 : Hid (w2.heap[w1.heap.size]? = some (.cells (bv (List.replicate nc 0)).toArray 5 (0, 0))) := made_row hown1 rfl; rw [← rowX_zero nc (x3 za zb zc)] at R1; clear hown1 hgrow1)
  go_loopg [8] nc (fun gg v wr => ∃ (k : Nat), k ≤ nc ∧ gg = nc - k ∧ v = .int .i64 (k : Int) ∧ Hid (wr.heap[w1.heap.size]? = some (.cells (bv (rowX nc (x3 za zb zc) k)).toArray 5 (0, 0))) ∧ Below w1.heap.size w1 wr)
  case atStart => exact ⟨0, by omega, by omega, rfl, R1, B2⟩
  case round =>
    obtain ⟨k, hk, hg, rfl, HR, hB⟩ := hrel
    by_cases hkn : k < nc
    · have hk' : (k : Int) < (nc : Int) := by omega
      obtain ⟨qa, oa, rfl, ca⟩ := (A1.out.up hB).cellAt k hkn
      obtain ⟨qb, ob, rfl, cb⟩ := (A2.out.up hB).cellAt k hkn
      obtain ⟨qc, oc, rfl, cc⟩ := (A3.out.up hB).cellAt k hkn
      obtain ⟨hcell, hfz⟩ := row_cell HR.out (i := k) (by rw [rowX_len]; exact hkn)
      obtain ⟨t, e1, e2, t1, t2⟩ := byte3 _ _ _ (Za.out k hkn) (Zb.out k hkn) (Zc.out k hkn)
      have H2 : Hid ((wr.setCell ⟨w1.heap.size, k, none⟩ (.int .u8 (x3 za zb zc k))).heap[w1.heap.size]? = some (.cells (bv (rowX nc (x3 za zb zc) (k + 1))).toArray 5 (0, 0))) := by
        have := row_set (i := k) (x := x3 za zb zc k) HR.out
        rw [rowX_set] at this
        exact this
      have B3 := hB.setCell (p := ⟨w1.heap.size, k, none⟩) (Nat.le_refl _) (.int .u8 (x3 za zb zc k))
      rw [show (((za k).toNat ^^^ (zb k).toNat ^^^ (zc k).toNat : Nat) : Int) = x3 za zb zc k from rfl] at e2
      obtain ⟨y, ey⟩ : ∃ y, x3 za zb zc k = y := ⟨_, rfl⟩
      rw [ey] at e2 H2 B3
      obtain ⟨y1, ey1⟩ : ∃ y, za k = y := ⟨_, rfl⟩
      obtain ⟨y2, ey2⟩ : ∃ y, zb k = y := ⟨_, rfl⟩
      obtain ⟨y3, ey3⟩ : ∃ y, zc k = y := ⟨_, rfl⟩
      rw [ey1] at e1 ca
      rw [ey2] at e1 cb
      rw [ey3] at e2 cc
      clear ey ey1 ey2 ey3
      have HB3 : Hid (Below w1.heap.size w1 (wr.setCell ⟨w1.heap.size, k, none⟩ (.int .u8 y))) := B3
      clear B3
      go_wp2
      go_region
      all_goals
        go_wp2
        go_roundg (nc - (k + 1))
      case measure => omega
      case rel => exact ⟨k + 1, by omega, rfl, by first | rfl | simp, H2, HB3.out.trans ⟨rfl, rfl, rfl, Nat.le_refl _, fun _ _ => rfl⟩⟩
    · obtain rfl : k = nc := by omega
      have hL := lines (nats (lst k za)) (nats (lst k zb)) (nats (lst k zc)) (by simp [nats, lst_len]) (by simp [nats, lst_len])
      rw [← nats_x3] at hL
      have hD := (row_own (B := w1.heap.size) (Nat.le_refl _) (by rw [rowX_len]; omega) HR.out).bytes
      rw [rowX_len, rowX_full] at hD
      have B5 := B1.trans (hB.mono B1.size)
      have kd := of_any _ _ HF.out.2.2.2 (by rw [lst_len]; omega) wr hD
      have ka := of_any _ _ HF.out.1 (by rw [lst_len]; omega) wr (A1.out.up hB)
      have kb := of_any _ _ HF.out.2.1 (by rw [lst_len]; omega) wr (A2.out.up hB)
      have kc := of_any _ _ HF.out.2.2.1 (by rw [lst_len]; omega) wr (A3.out.up hB)
      have e1 := xor_32 _ _ (ofN_lt HF.out.1) (ofN_lt HF.out.2.1)
      have e2 := xor_32 _ _ (xor_lt (ofN_lt HF.out.1) (ofN_lt HF.out.2.1)) (ofN_lt HF.out.2.2.1)
      rw [← hL] at e2
      obtain ⟨x1, h1⟩ : ∃ y : Int, ((ofN (nats (lst k za)) : Nat) : Int) = y := ⟨_, rfl⟩
      obtain ⟨x2, h2⟩ : ∃ y : Int, ((ofN (nats (lst k zb)) : Nat) : Int) = y := ⟨_, rfl⟩
      obtain ⟨x3', h3⟩ : ∃ y : Int, ((ofN (nats (lst k zc)) : Nat) : Int) = y := ⟨_, rfl⟩
      obtain ⟨x4, h4⟩ : ∃ y : Int, ((ofN (nats (lst k (x3 za zb zc))) : Nat) : Int) = y := ⟨_, rfl⟩
      obtain ⟨x5, h5⟩ : ∃ y : Int, ((ofN (nats (lst k za)) ^^^ ofN (nats (lst k zb)) : Nat) : Int) = y := ⟨_, rfl⟩
      rw [h1] at ka e1
      rw [h2] at kb e1
      rw [h5] at e1 e2
      rw [h3] at kc e2
      rw [h4] at kd e2
      clear h1 h2 h3 h4 h5 hL hD HR hB A1 A2 A3 Za Zb Zc HF B1 R1 B2
      go_wp2_with fail
      refine kd.mono ?_
      rintro e w5 ⟨rfl, rfl⟩
      go_wp2_with fail
      refine ka.mono ?_
      rintro e w6 ⟨rfl, rfl⟩
      go_wp2_with fail
      refine kb.mono ?_
      rintro e w7 ⟨rfl, rfl⟩
      go_wp2_with fail
      refine kc.mono ?_
      rintro e w8 ⟨rfl, rfl⟩
      go_wp2
      go_ret
      exact ⟨rfl, B5⟩
end Go.Proofs.Ytlnamjomhfmbaaa.Wd
