/- The program's Batch, Good, Shard. -/
import Derived.Test.YtimbidiogcfpeaaDaR
namespace Go.Proofs.Ytimbidiogcfpeaa.Wd
open Go.RowKit Fx
set_option linter.unusedVariables false
set_option linter.unusedSimpArgs false
set_option maxRecDepth 8000
set_option maxHeartbeats 4000000
theorem dbatch_any (t s k : Int) (ht : -9223372036854775808 ≤ t ∧ t ≤ 9223372036854775807) (hs : -9223372036854775808 ≤ s ∧ s ≤ 9223372036854775807) (hk : -9223372036854775808 ≤ k ∧ k ≤ 9223372036854775807) (w : World) :
    Calls Try.prog 10 #[.int .i64 t, .int .i64 s, .int .i64 k] w fun e w' => ∃ v, e = .returned (.tuple #[v, .int .i64 (batE t s k)]) ∧ OwnK .i64 3 w' w.heap.size v (batV t s k) ∧ Below w.heap.size w w' := by
  haveI : Nonempty World := ⟨w⟩
  by_cases hE : batE t s k = 0
  case neg =>
    obtain ⟨h1, h2⟩ := batE_bad hE
    rw [h1, h2]
    have hE2 : ¬ (1 ≤ t ∧ t ≤ 256 ∧ 1 ≤ s ∧ s ≤ t ∧ 0 ≤ k) := fun h => hE (batE_ok.2 h)
    clear h1 h2 hE
    go_enter Try.func10, Try.ntmps10
    by_cases c1 : t < 1
    · clear hE2
      go_wp2
      exact bodyPost_ret (v := .tuple #[.slice none 0 0, .int .i64 1]) (by simp [results, Try.results10, go_sem]) rfl ⟨_, rfl, OwnK.nil _ _ _ _, Below.refl _ _⟩
    have d1 : 1 ≤ t := by omega
    by_cases c2 : 256 < t
    · clear hE2
      go_wp2
      exact bodyPost_ret (v := .tuple #[.slice none 0 0, .int .i64 1]) (by simp [results, Try.results10, go_sem]) rfl ⟨_, rfl, OwnK.nil _ _ _ _, Below.refl _ _⟩
    have d2 : t ≤ 256 := by omega
    by_cases c3 : s < 1
    · clear hE2
      go_wp2
      exact bodyPost_ret (v := .tuple #[.slice none 0 0, .int .i64 1]) (by simp [results, Try.results10, go_sem]) rfl ⟨_, rfl, OwnK.nil _ _ _ _, Below.refl _ _⟩
    have d3 : 1 ≤ s := by omega
    by_cases c4 : t < s
    · clear hE2
      go_wp2
      exact bodyPost_ret (v := .tuple #[.slice none 0 0, .int .i64 1]) (by simp [results, Try.results10, go_sem]) rfl ⟨_, rfl, OwnK.nil _ _ _ _, Below.refl _ _⟩
    have d4 : s ≤ t := by omega
    have c5 : k < 0 := by omega
    clear hE2
    go_wp2
    exact bodyPost_ret (v := .tuple #[.slice none 0 0, .int .i64 1]) (by simp [results, Try.results10, go_sem]) rfl ⟨_, rfl, OwnK.nil _ _ _ _, Below.refl _ _⟩
  case pos =>
    obtain ⟨d1, d2, d3, d4, d5⟩ := batE_ok.1 hE
    obtain ⟨V, eV⟩ : ∃ V, batV t s k = V := ⟨_, rfl⟩
    obtain ⟨a, ea⟩ : ∃ a, baS t s k = a := ⟨_, rfl⟩
    obtain ⟨n, en⟩ : ∃ n : Nat, s = n := ⟨s.toNat, by omega⟩
    have HV : Hid (V.length = n ∧ ∀ i, i < n → V.getD i 0 = (a + (i : Int)) % t) := ⟨by rw [← eV, batV_len hE]; omega, fun i hi => by rw [← eV, batV_at hE i (by omega), ea]⟩
    have hd : (t == 0) = false := by simpa using (show t ≠ 0 by omega)
    obtain ⟨m1, m2, m3⟩ := mod_nat d5 d1
    obtain ⟨r, er⟩ : ∃ r, k % t = r := ⟨_, rfl⟩
    rw [er] at m1 m2 m3
    obtain ⟨pr, ep⟩ : ∃ x, r * s = x := ⟨_, rfl⟩
    have hp : 0 ≤ pr ∧ pr ≤ 65536 := by
      rw [← ep]
      refine ⟨Int.mul_nonneg m2 (by omega), ?_⟩
      have h1 : r * s ≤ 256 * s := Int.mul_le_mul_of_nonneg_right (by omega) (by omega)
      omega
    have e4 : pr % t = a := by rw [← ea, ← ep, ← er]; rfl
    have HM : Hid (∀ i : Nat, Int.tmod (pr + (i : Int)) t = (a + (i : Int)) % t) := fun i => by
      rw [(mod_nat (by omega) d1).1, ← e4, Int.emod_add_emod]
    obtain ⟨hp1, hp2⟩ := hp
    rw [hE, eV]
    subst en
    have dn : (n : Int) ≤ 256 := by omega
    clear eV ea er e4 hE ht hs hk
    go_enter Try.func10, Try.ntmps10
    go_wp2_with (at_make; refine wpList_makeK numT (by decide) _ rfl (.tmp 35) (.tmp 35) rfl .i64 .i64 n n n rfl rfl rfl rfl (by omega) w.heap.size w (Nat.le_refl _) (Below.refl _ _) ?_; intro w1 HO B0 B1; clear B0)
    rw [← HV.out.1, ← rowF_zero V, HV.out.1] at HO
    clear m1 m2 m3 ep d5
    go_loopg [39] n (fun gg i wr => ∃ (j : Nat), j ≤ n ∧ gg = n - j ∧ i = .int .i64 (j : Int) ∧ Hid (OwnK .i64 3 wr w.heap.size (.slice (some ⟨w.heap.size, 0, none⟩) n n) (rowF V j)) ∧ Hid (Below w.heap.size w wr))
    case atStart => exact ⟨0, by omega, by omega, by first | rfl | simp, HO, B1⟩
    case round =>
      obtain ⟨j, hj, hgg, rfl, HR, HB⟩ := hrel
      by_cases hjn : j < n
      · have hj' : (j : Int) < (n : Int) := by omega
        have hm := HM.out j
        have hv := HV.out.2 j hjn
        obtain ⟨x, ex⟩ : ∃ x, (a + (j : Int)) % t = x := ⟨_, rfl⟩
        rw [ex] at hm hv
        obtain ⟨hown, hfz⟩ := HR.out.cell (by rw [rowF_len]; exact HV.out.1) j hjn
        have H5 : Hid (OwnK .i64 3 (wr.setCell ⟨w.heap.size, j, none⟩ (.int .i64 x)) w.heap.size (.slice (some ⟨w.heap.size, 0, none⟩) n n) (rowF V (j + 1))) := by
          have := HR.out.store (by rw [rowF_len]; exact HV.out.1) j x
          rw [← hv, rowF_set V j (by rw [HV.out.1]; exact hjn)] at this
          rw [← hv]
          exact this
        have HB2 : Hid (Below w.heap.size w (wr.setCell ⟨w.heap.size, j, none⟩ (.int .i64 x))) := HB.out.setCell (p := ⟨w.heap.size, j, none⟩) (Nat.le_refl _) _
        clear ex hv
        go_wp2
        go_roundg (n - (j + 1))
        case measure => omega
        case rel => exact ⟨j + 1, by omega, rfl, by first | rfl | simp, H5, HB2⟩
      · obtain rfl : j = n := by omega
        have hfin := HR.out
        rw [← HV.out.1, rowF_full, HV.out.1] at hfin
        have HF : Hid (OwnK .i64 3 wr w.heap.size (.slice (some ⟨w.heap.size, 0, none⟩) j j) V) := hfin
        clear hfin
        go_wp2
        exact bodyPost_ret (v := .tuple #[.slice (some ⟨w.heap.size, 0, none⟩) j j, .int .i64 0]) (by simp [results, Try.results10, go_sem]) rfl ⟨_, rfl, HF.out, HB.out⟩
/-- GOOD -/
def laG (m : List Int) : Nat → Int
  | 0 => -1
  | j + 1 => m.getD j 0
theorem laG_0 (m : List Int) : laG m 0 = -1 := rfl
theorem laG_s (m : List Int) (j : Nat) : laG m (j + 1) = m.getD j 0 := rfl
theorem dgood_any (p : Option Addr) (n c : Nat) (m : List Int) (hn : n ≤ 1073741824) (w : World) (h1 : Nums .i64 w (.slice p n c) m) :
    Calls Try.prog 12 #[.slice p n c] w fun e w' => e = .returned (.bool (decide (goodM m))) ∧ Below w.heap.size w w' := by
  haveI : Nonempty World := ⟨w⟩
  obtain ⟨r, er⟩ : ∃ r : Bool, decide (goodM m) = r := ⟨_, rfl⟩
  have HRes : Hid (decide (goodM m) = r) := er
  obtain ⟨_, _, _, e1, HA⟩ := h1.lst
  cases e1
  rw [er]
  clear er h1
  go_enter Try.func12, Try.ntmps12
  go_wp2_with fail
  go_loopg [3, 8] n (fun gg la i wr => ∃ (j : Nat) (y : Int), j ≤ n ∧ gg = n - j ∧ i = .int .i64 (j : Int) ∧ la = .int .i64 y ∧ Hid (laG m j = y ∧ (j : Int) ≤ y + 1 ∧ y < 16) ∧ Hid (∀ i, i < j → (0 ≤ m.getD i 0 ∧ m.getD i 0 < 16) ∧ (0 < i → m.getD (i - 1) 0 < m.getD i 0)) ∧ Hid (Below w.heap.size w wr))
  case atStart => exact ⟨0, -1, by omega, by omega, by first | rfl | simp, rfl, ⟨rfl, by omega, by omega⟩, fun i hi => by omega, Below.refl _ _⟩
  case round =>
    obtain ⟨j, y, hj, hgg, rfl, rfl, HY, HI, HB⟩ := hrel
    by_cases hjn : j < n
    · have hj' : (j : Int) < (n : Int) := by omega
      obtain ⟨x, ex⟩ : ∃ x, m.getD j 0 = x := ⟨_, rfl⟩
      obtain ⟨q, o, rfl, c1⟩ := HA.out.2 j hjn
      replace c1 := cell_low c1 HB.out
      rw [ex] at c1
      have kx := cell_lt c1
      by_cases v1 : x ≤ y
      · have d1 : decide (x ≤ y) = true := decide_eq_true v1
        have er : r = false := by
          rw [← HRes.out]
          refine decide_eq_false fun h => ?_
          have h2 := h.2 j (by rw [HA.out.1]; exact hjn)
          rw [ex] at h2
          have h3 := HY.out.1
          cases j with
          | zero => rw [laG_0] at h3; omega
          | succ j => have h4 := h2.2 (by omega); rw [Nat.add_sub_cancel] at h4; rw [laG_s] at h3; omega
        subst er
        clear v1 ex
        go_wp2
        go_ret
        exact ⟨rfl, HB.out⟩
      have d1 : decide (x ≤ y) = false := decide_eq_false v1
      by_cases v2 : 16 ≤ x
      · have d2 : decide (16 ≤ x) = true := decide_eq_true v2
        have er : r = false := by
          rw [← HRes.out]
          refine decide_eq_false fun h => ?_
          have h2 := h.2 j (by rw [HA.out.1]; exact hjn)
          rw [ex] at h2
          omega
        subst er
        clear v1 v2 ex
        go_wp2
        go_ret
        exact ⟨rfl, HB.out⟩
      have d2 : decide (16 ≤ x) = false := decide_eq_false v2
      have HY2 : Hid (laG m (j + 1) = x ∧ ((j + 1 : Nat) : Int) ≤ x + 1 ∧ x < 16) := ⟨ex, by have := HY.out.2.1; omega, by omega⟩
      have HX : Hid (∀ i, i < j + 1 → (0 ≤ m.getD i 0 ∧ m.getD i 0 < 16) ∧ (0 < i → m.getD (i - 1) 0 < m.getD i 0)) := fun i hi => by
        rcases Nat.lt_succ_iff_lt_or_eq.1 hi with h | rfl
        · exact HI.out i h
        · rw [ex]
          have h1 := HY.out
          refine ⟨by omega, fun h => ?_⟩
          cases i with
          | zero => omega
          | succ i => have h2 := h1.1; rw [laG_s] at h2; rw [Nat.add_sub_cancel, h2]; omega
      clear v1 v2 ex
      go_wp2
      go_roundg (n - (j + 1))
      case measure => omega
      case rel => exact ⟨j + 1, x, by omega, rfl, by first | rfl | simp, rfl, HY2, HX, HB⟩
    · obtain rfl : j = n := by omega
      have er : r = decide (0 < j) := by
        rw [← HRes.out]
        refine decide_eq_decide.2 ⟨fun h => ?_, fun h => ⟨?_, fun i hi => HI.out i (by rw [← HA.out.1]; exact hi)⟩⟩
        · have := h.1.1
          rw [HA.out.1] at this
          omega
        · have := HY.out
          rw [HA.out.1]
          omega
      subst er
      go_wp2
      go_ret
      exact ⟨rfl, HB.out⟩
theorem dindex_any (q : Option Addr) (l d : Nat) (m : List Int) (who : Int) (hl : l ≤ 1073741824) (w : World) (h1 : Nums .i64 w (.slice q l d) m) :
    Calls Try.prog 17 #[.slice q l d, .int .i64 who] w fun e w' => ∃ z, e = .returned (.int .i64 z) ∧ w' = w ∧ ((z = -1 ∧ ∀ i, i < l → m.getD i 0 ≠ who) ∨ ∃ p : Nat, z = p ∧ p < l ∧ m.getD p 0 = who) := by
  haveI : Nonempty World := ⟨w⟩
  obtain ⟨_, _, _, e1, HA⟩ := h1.lst
  cases e1
  clear h1
  have HL : Hid (l ≤ 1073741824) := hl
  clear hl
  go_enter Try.func17, Try.ntmps17
  go_wp2_with fail
  go_loopg [8] l (fun gg i wr => ∃ (j : Nat), j ≤ l ∧ gg = l - j ∧ i = .int .i64 (j : Int) ∧ Hid (∀ i, i < j → m.getD i 0 ≠ who) ∧ wr = w)
  case atStart => exact ⟨0, by omega, by omega, by first | rfl | simp, fun i hi => by omega, rfl⟩
  case round =>
    obtain ⟨j, hj, hgg, rfl, HI, rfl⟩ := hrel
    by_cases hjn : j < l
    · have hj' : (j : Int) < (l : Int) := by omega
      have hl' : (l : Int) ≤ 1073741824 := by have := HL.out; omega
      obtain ⟨x, ex⟩ : ∃ x, m.getD j 0 = x := ⟨_, rfl⟩
      obtain ⟨g, o, rfl, c1⟩ := HA.out.2 j hjn
      rw [ex] at c1
      by_cases hx : who = x
      · have HZ : Hid (j < l ∧ m.getD j 0 = who) := ⟨hjn, by rw [ex, hx]⟩
        have hx' : (who == x) = true := by simpa using hx
        clear hx ex
        go_wp2
        go_ret
        exact ⟨_, rfl, rfl, .inr ⟨j, rfl, HZ.out⟩⟩
      · have HX : Hid (∀ i, i < j + 1 → m.getD i 0 ≠ who) := fun i hi => by
          rcases Nat.lt_succ_iff_lt_or_eq.1 hi with h | rfl
          · exact HI.out i h
          · rw [ex]; exact fun h => hx h.symm
        have hx' : (who == x) = false := by simpa using hx
        clear hx ex
        go_wp2
        go_roundg (l - (j + 1))
        case measure => omega
        case rel => exact ⟨j + 1, by omega, rfl, by first | rfl | simp, HX, rfl⟩
    · obtain rfl : j = l := by omega
      go_wp2
      go_ret
      exact ⟨-1, rfl, rfl, .inl ⟨rfl, HI.out⟩⟩
/-- SHARD -/
theorem dshard_any (p q : Option Addr) (n c l d : Nat) (b m : List Int) (who : Int) (hn : n ≤ 1073741000) (hl : l ≤ 1073741000) (w : World) (h1 : Nums .i64 w (.slice p n c) b) (h2 : Nums .i64 w (.slice q l d) m) :
    Calls Try.prog 11 #[.slice p n c, .slice q l d, .int .i64 who] w fun e w' => ∃ v, e = .returned (.tuple #[v, .int .i64 (shE m who)]) ∧ OwnK .i64 3 w' w.heap.size v (shV b m who) ∧ Below w.heap.size w w' := by
  haveI : Nonempty World := ⟨w⟩
  have HN : Hid (Nums .i64 w (.slice p n c) b ∧ Nums .i64 w (.slice q l d) m ∧ n ≤ 1073741000) := ⟨h1, h2, hn⟩
  obtain ⟨_, _, _, e1, HA⟩ := h1.lst
  cases e1
  obtain ⟨_, _, _, e2, HM⟩ := h2.lst
  cases e2
  have hl' : (l : Int) ≤ 1073741000 := by omega
  have ci := dindex_any q l d m who (by omega) w h2
  have cm := dgood_any q l d m (by omega) w h2
  obtain ⟨r, er⟩ : ∃ r : Bool, decide (goodM m) = r := ⟨_, rfl⟩
  have HRes : Hid (decide (goodM m) = r) := er
  rw [er] at cm
  clear h1 h2 hn er
  go_enter Try.func11, Try.ntmps11
  go_wp2_with fail
  refine ci.mono ?_
  rintro e w1 ⟨z, rfl, rfl, hz⟩
  have HZ : Hid ((z = -1 ∧ ∀ i, i < l → m.getD i 0 ≠ who) ∨ ∃ p : Nat, z = p ∧ p < l ∧ m.getD p 0 = who) := hz
  clear hz ci
  go_wp2_with fail
  refine cm.mono ?_
  rintro e w2 ⟨rfl, hB⟩
  have H2 : Hid (Below w1.heap.size w1 w2) := hB
  clear hB cm
  cases r with
  | false =>
    have HE : Hid (shE m who = 1 ∧ shV b m who = []) := by
      have h : shE m who ≠ 0 := fun h => by
        have := decide_eq_true (shE_ok.1 h).1
        rw [HRes.out] at this
        cases this
      exact ⟨(shE_bad h).1, (shE_bad h).2 b⟩
    go_wp2
    refine bodyPost_ret (v := .tuple #[.slice none 0 0, .int .i64 1]) (by simp [results, Try.results11, go_sem]) rfl ⟨_, by rw [HE.out.1], ?_, H2.out⟩
    rw [HE.out.2]
    exact OwnK.nil _ _ _ _
  | true =>
    have hg : goodM m := of_decide_eq_true HRes.out
    have HP : Hid (plI m who = z) := by
      show _ = _
      rcases HZ.out with ⟨rfl, h⟩ | ⟨p0, rfl, h3, h4⟩
      · exact plL_none _ fun i hi => h i (by rw [← HM.out.1]; exact hi)
      · exact plL_some hg (by rw [HM.out.1]; exact h3) h4 _ (by rw [HM.out.1]; exact h3) (Nat.le_refl _)
    clear HZ
    by_cases hz : z < 0
    · have HE : Hid (shE m who = 1 ∧ shV b m who = []) := by
        have h : shE m who ≠ 0 := fun h => by
          have := (shE_ok.1 h).2
          rw [HP.out] at this
          omega
        exact ⟨(shE_bad h).1, (shE_bad h).2 b⟩
      clear hg
      go_wp2
      refine bodyPost_ret (v := .tuple #[.slice none 0 0, .int .i64 1]) (by simp [results, Try.results11, go_sem]) rfl ⟨_, by rw [HE.out.1], ?_, H2.out⟩
      rw [HE.out.2]
      exact OwnK.nil _ _ _ _
    have hz' : 0 ≤ z := by omega
    obtain ⟨pl, epl⟩ : ∃ k : Nat, z = k := ⟨z.toNat, by omega⟩
    subst epl
    obtain ⟨T, eT⟩ : ∃ T, shC n l pl = T := ⟨_, rfl⟩
    have h0 : shE m who = 0 := shE_ok.2 ⟨hg, by rw [HP.out]; omega⟩
    have hj1 : 1 ≤ l ∧ l ≤ 16 := by
      have := hg.1
      rw [HM.out.1] at this
      exact this
    have HE : Hid (shE m who = 0 ∧ shV b m who = dshT b l pl T ∧ (∀ k, k < T ↔ pl + k * l < n) ∧ pl < l) := by
      refine ⟨h0, ?_, fun k => by rw [← eT]; exact shC_lt (by omega), ?_⟩
      · unfold shV
        rw [if_pos h0, HP.out, HM.out.1, HA.out.1, ← eT]
        rfl
      · obtain ⟨p0, hp0, hp1, _⟩ := plI_at (m := m) (who := who) (by rw [HP.out]; omega)
        rw [HP.out] at hp0
        rw [HM.out.1] at hp1
        omega
    have HN9 : Hid (1 ≤ l ∧ l ≤ 16 ∧ n ≤ 1073741000) := ⟨hj1.1, hj1.2, HN.out.2.2⟩
    clear hg h0 hj1 eT hz
    go_wp2_with fail
    go_loopg [9, 10] T (fun gg v i wr => ∃ (k t : Nat), k ≤ T ∧ gg = T - k ∧ i = .int .i64 (t : Int) ∧ Hid (t = pl + k * l) ∧ Hid (OwnK .i64 3 wr w1.heap.size v (dshT b l pl k)) ∧ Hid (Below w1.heap.size w1 wr))
    case atStart => exact ⟨0, pl, by omega, by omega, by first | rfl | simp, (by show _ = _; omega), OwnK.nil _ _ _ _, H2.out⟩
    case round =>
      obtain ⟨k, t, hk, hgg, rfl, Ht, HO, HB⟩ := hrel
      obtain ⟨R2, eR2⟩ : ∃ R2 : World, R2 = wr := ⟨_, rfl⟩
      subst eR2
      by_cases hkn : k < T
      · have htn : t < n := by rw [Ht.out]; exact (HE.out.2.2.1 k).1 hkn
        have ht' : (t : Int) < (n : Int) := by omega
        obtain ⟨x, ex⟩ : ∃ x, b.getD t 0 = x := ⟨_, rfl⟩
        obtain ⟨g, o, rfl, c1⟩ := HA.out.2 t htn
        replace c1 := cell_low c1 HB.out
        rw [ex] at c1
        have kx := cell_lt c1
        have HPu : Hid (dshT b l pl (k + 1) = dshT b l pl k ++ [x] ∧ (dshT b l pl k).length + [x].length ≤ 1073741824) := by
          refine ⟨by rw [shT_push, ← Ht.out, ex], ?_⟩
          rw [shT_len, List.length_singleton]
          have h3 := Ht.out
          have h4 : k ≤ k * l := Nat.le_mul_of_pos_right _ (by have := HN9.out; omega)
          have := HN9.out
          omega
        have Ht2 : Hid (t + l = pl + (k + 1) * l) := by
          show _ = _
          rw [Nat.add_mul, Nat.one_mul, Ht.out]
          omega
        have hU := up_alloc R2 (.cells #[.int .i64 x] 3)
        have H5 : Hid (OwnK .i64 3 (R2.alloc (.cells #[.int .i64 x] 3)) w1.heap.size u9 (dshT b l pl k) ∧ Nums .i64 (R2.alloc (.cells #[.int .i64 x] 3)) (.slice (some ⟨R2.heap.size, 0, none⟩) 1 1) [x] ∧ Below w1.heap.size w1 (R2.alloc (.cells #[.int .i64 x] 3))) := ⟨HO.out.up hU, nums_lit (k := .i64) R2 [x] 1 (0, 0) rfl, bstep HB.out hU⟩
        have hb9 : (t : Int) + (l : Int) ≤ 9223372036854775807 := by have := HN9.out; omega
        clear ex hU
        go_wp2_with (at_builtin; refine wpList_appendK numT (by decide) rfl (.tmp 30) (.tmp 35) rfl w1.heap.size _ _ rfl H5.out.1 _ [x] rfl H5.out.2.1 HPu.out.2 H5.out.2.2.size w1 H5.out.2.2 ?_; intro v6 w6 H6 B6; have HB6 := hid2 B6 B6; clear B6)
        have HF : Hid (OwnK .i64 3 w6 w1.heap.size v6 (dshT b l pl (k + 1))) := by
          show OwnK _ _ _ _ _ _
          rw [HPu.out.1]
          exact H6.out
        go_roundg (T - (k + 1))
        case measure => omega
        case rel => exact ⟨k + 1, t + l, by omega, rfl, by first | rfl | simp, Ht2, HF, HB6.out.1⟩
      · obtain rfl : k = T := by omega
        have htn : (n : Int) ≤ (t : Int) := by
          have := mt (HE.out.2.2.1 k).2 hkn
          rw [← Ht.out] at this
          omega
        have hfin := HO.out
        obtain ⟨pf, nf, cf, rfl, _⟩ := hfin.nums.lst
        have HF : Hid (OwnK .i64 3 R2 w1.heap.size (.slice pf nf cf) (dshT b l pl k)) := hfin
        clear hfin
        go_wp2
        refine bodyPost_ret (v := .tuple #[.slice pf nf cf, .int .i64 0]) (by simp [results, Try.results11, go_sem]) rfl ⟨_, by rw [HE.out.1], ?_, HB.out⟩
        rw [HE.out.2.1]
        exact HF.out
end Go.Proofs.Ytimbidiogcfpeaa.Wd
