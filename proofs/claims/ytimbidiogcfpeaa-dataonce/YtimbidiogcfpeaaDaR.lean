/- The reference's Batch, Members, Shard. -/
import Derived.Test.YtimbidiogcfpeaaDaM
import Derived.Test.YtimbidiogcfpeaaTenW
import Derived.Test.YtimbidiogcfpeaaTwo
namespace Go.Proofs.Ytimbidiogcfpeaa.Wd
open Go.RowKit Fx
set_option linter.unusedVariables false
set_option linter.unusedSimpArgs false
set_option maxRecDepth 8000
set_option maxHeartbeats 4000000
theorem mod_nat {a t : Int} (ha : 0 ≤ a) (ht : 1 ≤ t) : Int.tmod a t = a % t ∧ 0 ≤ a % t ∧ a % t < t := ⟨Int.tmod_eq_emod_of_nonneg ha, Int.emod_nonneg _ (by omega), Int.emod_lt_of_pos _ (by omega)⟩
theorem rbatch_any (t s k : Int) (ht : -9223372036854775808 ≤ t ∧ t ≤ 9223372036854775807) (hs : -9223372036854775808 ≤ s ∧ s ≤ 9223372036854775807) (hk : -9223372036854775808 ≤ k ∧ k ≤ 9223372036854775807) (w : World) :
    Calls Try.prog 13 #[.int .i64 t, .int .i64 s, .int .i64 k] w fun e w' => ∃ v, e = .returned (.tuple #[v, .int .i64 (batE t s k)]) ∧ OwnK .i64 3 w' w.heap.size v (batV t s k) ∧ Below w.heap.size w w' := by
  haveI : Nonempty World := ⟨w⟩
  by_cases hE : batE t s k = 0
  case neg =>
    obtain ⟨h1, h2⟩ := batE_bad hE
    rw [h1, h2]
    have hE2 : ¬ (1 ≤ t ∧ t ≤ 256 ∧ 1 ≤ s ∧ s ≤ t ∧ 0 ≤ k) := fun h => hE (batE_ok.2 h)
    clear h1 h2 hE
    go_enter Try.func13, Try.ntmps13
    by_cases c1 : t < 1
    · clear hE2
      go_wp2
      exact bodyPost_ret (v := .tuple #[.slice none 0 0, .int .i64 1]) (by simp [results, Try.results13, go_sem]) rfl ⟨_, rfl, OwnK.nil _ _ _ _, Below.refl _ _⟩
    have d1 : 1 ≤ t := by omega
    by_cases c2 : 256 < t
    · clear hE2
      go_wp2
      exact bodyPost_ret (v := .tuple #[.slice none 0 0, .int .i64 1]) (by simp [results, Try.results13, go_sem]) rfl ⟨_, rfl, OwnK.nil _ _ _ _, Below.refl _ _⟩
    have d2 : t ≤ 256 := by omega
    by_cases c3 : s < 1
    · clear hE2
      go_wp2
      exact bodyPost_ret (v := .tuple #[.slice none 0 0, .int .i64 1]) (by simp [results, Try.results13, go_sem]) rfl ⟨_, rfl, OwnK.nil _ _ _ _, Below.refl _ _⟩
    have d3 : 1 ≤ s := by omega
    by_cases c4 : t < s
    · clear hE2
      go_wp2
      exact bodyPost_ret (v := .tuple #[.slice none 0 0, .int .i64 1]) (by simp [results, Try.results13, go_sem]) rfl ⟨_, rfl, OwnK.nil _ _ _ _, Below.refl _ _⟩
    have d4 : s ≤ t := by omega
    have c5 : k < 0 := by omega
    clear hE2
    go_wp2
    exact bodyPost_ret (v := .tuple #[.slice none 0 0, .int .i64 1]) (by simp [results, Try.results13, go_sem]) rfl ⟨_, rfl, OwnK.nil _ _ _ _, Below.refl _ _⟩
  case pos =>
    obtain ⟨d1, d2, d3, d4, d5⟩ := batE_ok.1 hE
    obtain ⟨V, eV⟩ : ∃ V, batV t s k = V := ⟨_, rfl⟩
    obtain ⟨a, ea⟩ : ∃ a, baS t s k = a := ⟨_, rfl⟩
    obtain ⟨n, en⟩ : ∃ n : Nat, s = n := ⟨s.toNat, by omega⟩
    have HV : Hid (V.length = n ∧ ∀ i, i < n → V.getD i 0 = (a + (i : Int)) % t) := ⟨by rw [← eV, batV_len hE]; omega, fun i hi => by rw [← eV, batV_at hE i (by omega), ea]⟩
    have hra := baS_rng (t := t) (s := s) (k := k) d1
    rw [ea] at hra
    obtain ⟨m1, m2, m3⟩ := mod_nat d5 d1
    obtain ⟨r, er⟩ : ∃ r, k % t = r := ⟨_, rfl⟩
    rw [er] at m1 m2 m3
    obtain ⟨pr, ep⟩ : ∃ x, r * s = x := ⟨_, rfl⟩
    have hp : 0 ≤ pr ∧ pr ≤ 65536 := by
      rw [← ep]
      refine ⟨Int.mul_nonneg m2 (by omega), ?_⟩
      have h1 : r * s ≤ 256 * s := Int.mul_le_mul_of_nonneg_right (by omega) (by omega)
      omega
    obtain ⟨m4, _, _⟩ := mod_nat hp.1 d1
    have e4 : pr % t = a := by rw [← ea, ← ep, ← er]; rfl
    rw [e4] at m4
    obtain ⟨hp1, hp2⟩ := hp
    obtain ⟨ha1, ha2⟩ := hra
    rw [hE, eV]
    have hd : (t == 0) = false := by simpa using (show t ≠ 0 by omega)
    have HM : Hid (∀ i : Nat, Int.tmod (a + (i : Int)) t = (a + (i : Int)) % t) := fun i => (mod_nat (by omega) d1).1
    have HR : Hid (∀ i : Nat, 0 ≤ (a + (i : Int)) % t ∧ (a + (i : Int)) % t < t) := fun i => (mod_nat (by omega) d1).2
    subst en
    have dn : (n : Int) ≤ 256 := by omega
    clear eV ea er e4 hE ht hs hk
    go_enter Try.func13, Try.ntmps13
    go_wp2_with fail
    clear m1 m2 m3 m4 hp1 hp2 ep d5
    go_loopg [9, 10] n (fun gg v i wr => ∃ (j : Nat), j ≤ n ∧ gg = n - j ∧ i = .int .i64 (j : Int) ∧ Hid (OwnK .i64 3 wr w.heap.size v (V.take j)) ∧ Hid (Below w.heap.size w wr))
    case atStart => exact ⟨0, by omega, by omega, by first | rfl | simp, OwnK.nil _ _ _ _, Below.refl _ _⟩
    case round =>
      obtain ⟨j, hj, hgg, rfl, HO, HB⟩ := hrel
      by_cases hjn : j < n
      · have hj' : (j : Int) < (n : Int) := by omega
        have hm := HM.out j
        obtain ⟨hx1, hx2⟩ := HR.out j
        have hv := HV.out.2 j hjn
        obtain ⟨x, ex⟩ : ∃ x, (a + (j : Int)) % t = x := ⟨_, rfl⟩
        rw [ex] at hm hx1 hx2 hv
        have HP : Hid (V.take (j + 1) = V.take j ++ [x] ∧ (V.take j).length + [x].length ≤ 1073741824) := by
          have hl := HV.out.1
          refine ⟨?_, by rw [List.length_take, List.length_singleton]; omega⟩
          rw [List.take_add_one, ← hv, List.getD_eq_getElem?_getD, List.getElem?_eq_getElem (by omega)]
          rfl
        have hU := up_alloc wr (.cells #[.int .i64 x] 3)
        have H5 : Hid (OwnK .i64 3 (wr.alloc (.cells #[.int .i64 x] 3)) w.heap.size u9 (V.take j) ∧ Nums .i64 (wr.alloc (.cells #[.int .i64 x] 3)) (.slice (some ⟨wr.heap.size, 0, none⟩) 1 1) [x] ∧ Below w.heap.size w (wr.alloc (.cells #[.int .i64 x] 3))) := ⟨HO.out.up hU, nums_lit (k := .i64) wr [x] 1 (0, 0) rfl, bstep HB.out hU⟩
        clear ex hv hU
        go_wp2_with (at_builtin; refine wpList_appendK numT (by decide) rfl (.tmp 42) (.tmp 48) rfl w.heap.size _ _ rfl H5.out.1 _ [x] rfl H5.out.2.1 HP.out.2 H5.out.2.2.size w H5.out.2.2 ?_; intro v6 w6 H6 B6; have HB6 := hid2 B6 B6; clear B6)
        have HF : Hid (OwnK .i64 3 w6 w.heap.size v6 (V.take (j + 1))) := by
          show OwnK _ _ _ _ _ _
          rw [HP.out.1]
          exact H6.out
        go_roundg (n - (j + 1))
        case measure => omega
        case rel => exact ⟨j + 1, by omega, rfl, by first | rfl | simp, HF, HB6.out.1⟩
      · obtain rfl : j = n := by omega
        have hfin := HO.out
        rw [List.take_of_length_le (by rw [HV.out.1]; exact Nat.le_refl _)] at hfin
        obtain ⟨pf, nf, cf, rfl, _⟩ := hfin.nums.lst
        have HF : Hid (OwnK .i64 3 wr w.heap.size (.slice pf nf cf) V) := hfin
        clear hfin
        go_wp2
        exact bodyPost_ret (v := .tuple #[.slice pf nf cf, .int .i64 0]) (by simp [results, Try.results13, go_sem]) rfl ⟨_, rfl, HF.out, HB.out⟩
/-- MEMBERS -/
theorem rmem_any (p : Option Addr) (n c : Nat) (m : List Int) (hn : n ≤ 1073741824) (w : World) (h1 : Nums .i64 w (.slice p n c) m) :
    Calls Try.prog 16 #[.slice p n c] w fun e w' => e = .returned (.bool (decide (goodM m))) ∧ Below w.heap.size w w' := by
  haveI : Nonempty World := ⟨w⟩
  obtain ⟨r, er⟩ : ∃ r : Bool, decide (goodM m) = r := ⟨_, rfl⟩
  have HRes : Hid (decide (goodM m) = r) := er
  obtain ⟨_, _, _, e1, HA⟩ := h1.lst
  cases e1
  rw [er]
  clear er h1
  go_enter Try.func16, Try.ntmps16
  by_cases c1 : n < 1
  · have c1' : (n : Int) < 1 := by omega
    have er : r = false := by
      rw [← HRes.out]
      exact decide_eq_false fun h => by have := h.1.1; rw [HA.out.1] at this; omega
    subst er
    go_wp2
    go_ret
    exact ⟨rfl, Below.refl _ _⟩
  have c1' : 1 ≤ (n : Int) := by omega
  by_cases c2 : 16 < n
  · have c2' : (16 : Int) < (n : Int) := by omega
    have er : r = false := by
      rw [← HRes.out]
      exact decide_eq_false fun h => by have := h.1.2; rw [HA.out.1] at this; omega
    subst er
    go_wp2
    go_ret
    exact ⟨rfl, Below.refl _ _⟩
  have c2' : (n : Int) ≤ 16 := by omega
  have HN : Hid (1 ≤ n ∧ n ≤ 16) := ⟨by omega, by omega⟩
  clear c1 c2
  go_wp2_with fail
  clear c1'
  go_loopg [3] n (fun gg i wr => ∃ (j : Nat), j ≤ n ∧ gg = n - j ∧ i = .int .i64 (j : Int) ∧ Hid (∀ i, i < j → (0 ≤ m.getD i 0 ∧ m.getD i 0 < 16) ∧ (0 < i → m.getD (i - 1) 0 < m.getD i 0)) ∧ Hid (Below w.heap.size w wr))
  case atStart => exact ⟨0, by omega, by omega, by first | rfl | simp, fun i hi => by omega, Below.refl _ _⟩
  case round =>
    obtain ⟨j, hj, hgg, rfl, HI, HB⟩ := hrel
    by_cases hjn : j < n
    · have hj' : (j : Int) < (n : Int) := by omega
      obtain ⟨x, ex⟩ : ∃ x, m.getD j 0 = x := ⟨_, rfl⟩
      obtain ⟨q, o, rfl, c1⟩ := HA.out.2 j hjn
      replace c1 := cell_low c1 HB.out
      rw [ex] at c1
      have kx := cell_lt c1
      by_cases v1 : x < 0
      · have d1 : decide (x < 0) = true := decide_eq_true v1
        have er : r = false := by
          rw [← HRes.out]
          refine decide_eq_false fun h => ?_
          have := h.2 j (by rw [HA.out.1]; exact hjn)
          rw [ex] at this
          omega
        subst er
        clear v1 ex
        go_wp2_with fail
        refine flow 28 46 (by kernel_rfl) rfl rfl (by kernel_rfl) ?_
        apply Exists.intro
        refine ⟨?_, ?_⟩
        · intro F hF
          have hFc := hF.cell
          have hFf := hF.frozen
          simp only [List.take_succ_cons, List.take_zero, List.eraseIdx_cons_succ, List.eraseIdx_cons_zero]
          repeat (go_big_quiet_step (fail))
          refine wpQuiet_nil ?_
          exact rfl
        · intro W1 hb1
          simp only [List.drop_succ_cons, List.drop_zero]
          have H9 : Hid (Below w.heap.size w W1) := bstep HB.out hb1
          clear hb1 c1 kx
          go_wp2
          go_ret
          exact ⟨rfl, H9.out⟩
      have d1 : decide (x < 0) = false := decide_eq_false v1
      by_cases v2 : 16 ≤ x
      · have d2 : decide (16 ≤ x) = true := decide_eq_true v2
        have er : r = false := by
          rw [← HRes.out]
          refine decide_eq_false fun h => ?_
          have := h.2 j (by rw [HA.out.1]; exact hjn)
          rw [ex] at this
          omega
        subst er
        clear v1 v2 ex
        go_wp2_with fail
        refine flow 28 46 (by kernel_rfl) rfl rfl (by kernel_rfl) ?_
        apply Exists.intro
        refine ⟨?_, ?_⟩
        · intro F hF
          have hFc := hF.cell
          have hFf := hF.frozen
          simp only [List.take_succ_cons, List.take_zero, List.eraseIdx_cons_succ, List.eraseIdx_cons_zero]
          repeat (go_big_quiet_step (fail))
          refine wpQuiet_nil ?_
          exact rfl
        · intro W1 hb1
          simp only [List.drop_succ_cons, List.drop_zero]
          have H9 : Hid (Below w.heap.size w W1) := bstep HB.out hb1
          clear hb1 c1 kx
          go_wp2
          go_ret
          exact ⟨rfl, H9.out⟩
      have d2 : decide (16 ≤ x) = false := decide_eq_false v2
      by_cases hz : 0 < j
      case neg =>
        have HX : Hid (∀ i, i < j + 1 → (0 ≤ m.getD i 0 ∧ m.getD i 0 < 16) ∧ (0 < i → m.getD (i - 1) 0 < m.getD i 0)) := fun i hi => by
          obtain rfl : i = j := by omega
          rw [ex]
          exact ⟨by omega, fun h => absurd h hz⟩
        have d3 : decide (0 < j) = false := decide_eq_false hz
        clear v1 v2 ex hz
        go_wp2_with fail
        refine flow 28 46 (by kernel_rfl) rfl rfl (by kernel_rfl) ?_
        apply Exists.intro
        refine ⟨?_, ?_⟩
        · intro F hF
          have hFc := hF.cell
          have hFf := hF.frozen
          simp only [List.take_succ_cons, List.take_zero, List.eraseIdx_cons_succ, List.eraseIdx_cons_zero]
          repeat (go_big_quiet_step (fail))
          refine wpQuiet_nil ?_
          exact rfl
        · intro W1 hb1
          simp only [List.drop_succ_cons, List.drop_zero]
          have H9 : Hid (Below w.heap.size w W1) := bstep HB.out hb1
          clear hb1 c1 kx
          go_wp2
          go_roundg (n - (j + 1))
          case measure => omega
          case rel => exact ⟨j + 1, by omega, rfl, by first | rfl | simp, HX, H9⟩
      obtain ⟨i, rfl⟩ : ∃ i, j = i + 1 := ⟨j - 1, by omega⟩
      obtain ⟨y, ey⟩ : ∃ x, m.getD i 0 = x := ⟨_, rfl⟩
      have d3 : decide ((0 : Int) < (i : Int) + 1) = true := decide_eq_true (by omega)
      have hi' : (i : Int) < (n : Int) := by omega
      obtain ⟨_, _, e9, c9⟩ := HA.out.2 i (by omega)
      cases e9
      replace c9 := cell_low c9 HB.out
      rw [ey] at c9
      by_cases v3 : x ≤ y
      · have d4 : decide (x ≤ y) = true := decide_eq_true v3
        have er : r = false := by
          rw [← HRes.out]
          refine decide_eq_false fun h => ?_
          have := h.2 (i + 1) (by rw [HA.out.1]; exact hjn)
          rw [ex] at this
          have h2 := this.2 (by omega)
          rw [Nat.add_sub_cancel, ey] at h2
          omega
        subst er
        clear v1 v2 v3 ex ey
        go_wp2_with fail
        refine flow 28 46 (by kernel_rfl) rfl rfl (by kernel_rfl) ?_
        apply Exists.intro
        refine ⟨?_, ?_⟩
        · intro F hF
          have hFc := hF.cell
          have hFf := hF.frozen
          simp only [List.take_succ_cons, List.take_zero, List.eraseIdx_cons_succ, List.eraseIdx_cons_zero]
          repeat (go_big_quiet_step (fail))
          refine wpQuiet_nil ?_
          exact rfl
        · intro W1 hb1
          simp only [List.drop_succ_cons, List.drop_zero]
          have H9 : Hid (Below w.heap.size w W1) := bstep HB.out hb1
          clear hb1 c1 kx
          go_wp2
          go_ret
          exact ⟨rfl, H9.out⟩
      have d4 : decide (x ≤ y) = false := decide_eq_false v3
      have HX : Hid (∀ i_, i_ < i + 1 + 1 → (0 ≤ m.getD i_ 0 ∧ m.getD i_ 0 < 16) ∧ (0 < i_ → m.getD (i_ - 1) 0 < m.getD i_ 0)) := fun i_ hi => by
        rcases Nat.lt_succ_iff_lt_or_eq.1 hi with h | rfl
        · exact HI.out i_ h
        · rw [ex]
          exact ⟨by omega, fun _ => by rw [Nat.add_sub_cancel, ey]; omega⟩
      clear v1 v2 v3 ex ey
      go_wp2_with fail
      refine flow 28 46 (by kernel_rfl) rfl rfl (by kernel_rfl) ?_
      apply Exists.intro
      refine ⟨?_, ?_⟩
      · intro F hF
        have hFc := hF.cell
        have hFf := hF.frozen
        simp only [List.take_succ_cons, List.take_zero, List.eraseIdx_cons_succ, List.eraseIdx_cons_zero]
        repeat (go_big_quiet_step (fail))
        refine wpQuiet_nil ?_
        exact rfl
      · intro W1 hb1
        simp only [List.drop_succ_cons, List.drop_zero]
        have H9 : Hid (Below w.heap.size w W1) := bstep HB.out hb1
        clear hb1 c1 kx
        go_wp2
        go_roundg (n - (i + 1 + 1))
        case measure => omega
        case rel => exact ⟨i + 1 + 1, by omega, rfl, by first | rfl | simp, HX, H9⟩
    · obtain rfl : j = n := by omega
      have er : r = true := by
        rw [← HRes.out]
        exact decide_eq_true ⟨by rw [HA.out.1]; exact HN.out, fun i hi => HI.out i (by rw [← HA.out.1]; exact hi)⟩
      subst er
      go_wp2
      go_ret
      exact ⟨rfl, HB.out⟩
/-- SHARD -/
theorem rshard_any (p q : Option Addr) (n c l d : Nat) (b m : List Int) (who : Int) (hn : n ≤ 1073741000) (hl : l ≤ 1073741000) (w : World) (h1 : Nums .i64 w (.slice p n c) b) (h2 : Nums .i64 w (.slice q l d) m) :
    Calls Try.prog 14 #[.slice p n c, .slice q l d, .int .i64 who] w fun e w' => ∃ v, e = .returned (.tuple #[v, .int .i64 (shE m who)]) ∧ OwnK .i64 3 w' w.heap.size v (shV b m who) ∧ Below w.heap.size w w' := by
  haveI : Nonempty World := ⟨w⟩
  have HN : Hid (Nums .i64 w (.slice p n c) b ∧ Nums .i64 w (.slice q l d) m ∧ n ≤ 1073741000) := ⟨h1, h2, hn⟩
  obtain ⟨_, _, _, e1, HA⟩ := h1.lst
  cases e1
  obtain ⟨_, _, _, e2, HM⟩ := h2.lst
  cases e2
  have hl' : (l : Int) ≤ 1073741000 := by omega
  clear h1 h2 hn
  go_enter Try.func14, Try.ntmps14
  go_wp2_with fail
  go_loopg [8, 9] l (fun gg v i wr => ∃ (j : Nat) (z : Int), j ≤ l ∧ gg = l - j ∧ i = .int .i64 (j : Int) ∧ v = .int .i64 z ∧ Hid (plL m who j = z) ∧ Hid (Below w.heap.size w wr))
  case atStart => exact ⟨0, -1, by omega, by omega, by first | rfl | simp, rfl, rfl, Below.refl _ _⟩
  case round =>
    obtain ⟨j, z, hj, hgg, rfl, rfl, HZ, HB⟩ := hrel
    by_cases hjn : j < l
    · have hj' : (j : Int) < (l : Int) := by omega
      obtain ⟨x, ex⟩ : ∃ x, m.getD j 0 = x := ⟨_, rfl⟩
      obtain ⟨g, o, rfl, c1⟩ := HM.out.2 j hjn
      replace c1 := cell_low c1 HB.out
      rw [ex] at c1
      by_cases hx : x = who
      · have HZ2 : Hid (plL m who (j + 1) = (j : Int)) := by show _ = _; unfold plL; rw [if_pos (by rw [ex]; exact hx)]
        have hx' : (x == who) = true := by simpa using hx
        clear hx ex
        go_wp2
        go_roundg (l - (j + 1))
        case measure => omega
        case rel => exact ⟨j + 1, (j : Int), by omega, rfl, by first | rfl | simp, rfl, HZ2, HB⟩
      · have HZ2 : Hid (plL m who (j + 1) = z) := by show _ = _; unfold plL; rw [if_neg (by rw [ex]; exact hx)]; exact HZ.out
        have hx' : (x == who) = false := by simpa using hx
        clear hx ex
        go_wp2
        go_roundg (l - (j + 1))
        case measure => omega
        case rel => exact ⟨j + 1, z, by omega, rfl, by first | rfl | simp, rfl, HZ2, HB⟩
    · obtain rfl : j = l := by omega
      have HP : Hid (plI m who = z) := by
        show _ = _
        unfold plI
        rw [HM.out.1]
        exact HZ.out
      obtain ⟨R1, eR1⟩ : ∃ R1 : World, R1 = wr := ⟨_, rfl⟩
      subst eR1
      have cm := rmem_any q j d m (by omega) R1 (HN.out.2.1.up HB.out)
      obtain ⟨r, er⟩ : ∃ r : Bool, decide (goodM m) = r := ⟨_, rfl⟩
      have HRes : Hid (decide (goodM m) = r) := er
      rw [er] at cm
      clear er HZ hj hjn hgg
      go_wp2_with fail
      refine cm.mono ?_
      rintro e w2 ⟨rfl, hB⟩
      have H2 : Hid (Below w.heap.size w w2) := bstep HB.out hB
      clear hB cm HB
      cases r with
      | false =>
        have HE : Hid (shE m who = 1 ∧ shV b m who = []) := by
          have h : shE m who ≠ 0 := fun h => by
            have := decide_eq_true (shE_ok.1 h).1
            rw [HRes.out] at this
            cases this
          exact ⟨(shE_bad h).1, (shE_bad h).2 b⟩
        go_wp2
        refine bodyPost_ret (v := .tuple #[.slice none 0 0, .int .i64 1]) (by simp [results, Try.results14, go_sem]) rfl ⟨_, by rw [HE.out.1], ?_, H2.out⟩
        rw [HE.out.2]
        exact OwnK.nil _ _ _ _
      | true =>
        have hg : goodM m := of_decide_eq_true HRes.out
        by_cases hz : z < 0
        · have HE : Hid (shE m who = 1 ∧ shV b m who = []) := by
            have h : shE m who ≠ 0 := fun h => by
              have := (shE_ok.1 h).2
              rw [HP.out] at this
              omega
            exact ⟨(shE_bad h).1, (shE_bad h).2 b⟩
          clear hg
          go_wp2
          refine bodyPost_ret (v := .tuple #[.slice none 0 0, .int .i64 1]) (by simp [results, Try.results14, go_sem]) rfl ⟨_, by rw [HE.out.1], ?_, H2.out⟩
          rw [HE.out.2]
          exact OwnK.nil _ _ _ _
        have hz' : 0 ≤ z := by omega
        obtain ⟨pl, epl⟩ : ∃ k : Nat, z = k := ⟨z.toNat, by omega⟩
        subst epl
        obtain ⟨T, eT⟩ : ∃ T, shC n j pl = T := ⟨_, rfl⟩
        have h0 : shE m who = 0 := shE_ok.2 ⟨hg, by rw [HP.out]; omega⟩
        have hj1 : 1 ≤ j ∧ j ≤ 16 := by
          have := hg.1
          rw [HM.out.1] at this
          exact this
        have HE : Hid (shE m who = 0 ∧ shV b m who = dshT b j pl T ∧ (∀ k, k < T ↔ pl + k * j < n) ∧ pl < j) := by
          refine ⟨h0, ?_, fun k => by rw [← eT]; exact shC_lt (by omega), ?_⟩
          · unfold shV
            rw [if_pos h0, HP.out, HM.out.1, HA.out.1, ← eT]
            rfl
          · obtain ⟨p0, hp0, hp1, _⟩ := plI_at (m := m) (who := who) (by rw [HP.out]; omega)
            rw [HP.out] at hp0
            rw [HM.out.1] at hp1
            omega
        have HN9 : Hid (1 ≤ j ∧ j ≤ 16 ∧ n ≤ 1073741000) := ⟨hj1.1, hj1.2, HN.out.2.2⟩
        clear hg h0 hj1 eT hz
        go_wp2_with fail
        go_loopg [10, 11] T (fun gg v i wr => ∃ (k t : Nat), k ≤ T ∧ gg = T - k ∧ i = .int .i64 (t : Int) ∧ Hid (t = pl + k * j) ∧ Hid (OwnK .i64 3 wr w.heap.size v (dshT b j pl k)) ∧ Hid (Below w.heap.size w wr))
        case atStart => exact ⟨0, pl, by omega, by omega, by first | rfl | simp, (by show _ = _; omega), OwnK.nil _ _ _ _, H2.out⟩
        case round =>
          obtain ⟨k, t, hk, hgg, rfl, Ht, HO, HB⟩ := hrel
          obtain ⟨R2, eR2⟩ : ∃ R2 : World, R2 = wr := ⟨_, rfl⟩
          subst eR2
          by_cases hkn : k < T
          · have htn : t < n := by rw [Ht.out]; exact (HE.out.2.2.1 k).1 hkn
            have ht' : (t : Int) < (n : Int) := by omega
            obtain ⟨x, ex⟩ : ∃ x, b.getD t 0 = x := ⟨_, rfl⟩
            obtain ⟨g, o, rfl, c1⟩ := HA.out.2 t htn
            replace c1 := cell_low c1 HB.out
            rw [ex] at c1
            have kx := cell_lt c1
            have HPu : Hid (dshT b j pl (k + 1) = dshT b j pl k ++ [x] ∧ (dshT b j pl k).length + [x].length ≤ 1073741824) := by
              refine ⟨by rw [shT_push, ← Ht.out, ex], ?_⟩
              rw [shT_len, List.length_singleton]
              have h3 := Ht.out
              have h4 : k ≤ k * j := Nat.le_mul_of_pos_right _ (by have := HN9.out; omega)
              have := HN9.out
              omega
            have Ht2 : Hid (t + j = pl + (k + 1) * j) := by
              show _ = _
              rw [Nat.add_mul, Nat.one_mul, Ht.out]
              omega
            have hU := up_alloc R2 (.cells #[.int .i64 x] 3)
            have H5 : Hid (OwnK .i64 3 (R2.alloc (.cells #[.int .i64 x] 3)) w.heap.size u10 (dshT b j pl k) ∧ Nums .i64 (R2.alloc (.cells #[.int .i64 x] 3)) (.slice (some ⟨R2.heap.size, 0, none⟩) 1 1) [x] ∧ Below w.heap.size w (R2.alloc (.cells #[.int .i64 x] 3))) := ⟨HO.out.up hU, nums_lit (k := .i64) R2 [x] 1 (0, 0) rfl, bstep HB.out hU⟩
            have hb9 : (t : Int) + (j : Int) ≤ 9223372036854775807 := by have := HN9.out; omega
            clear ex hU
            go_wp2_with (at_builtin; refine wpList_appendK numT (by decide) rfl (.tmp 41) (.tmp 46) rfl w.heap.size _ _ rfl H5.out.1 _ [x] rfl H5.out.2.1 HPu.out.2 H5.out.2.2.size w H5.out.2.2 ?_; intro v6 w6 H6 B6; have HB6 := hid2 B6 B6; clear B6)
            have HF : Hid (OwnK .i64 3 w6 w.heap.size v6 (dshT b j pl (k + 1))) := by
              show OwnK _ _ _ _ _ _
              rw [HPu.out.1]
              exact H6.out
            go_roundg (T - (k + 1))
            case measure => omega
            case rel => exact ⟨k + 1, t + j, by omega, rfl, by first | rfl | simp, Ht2, HF, HB6.out.1⟩
          · obtain rfl : k = T := by omega
            have htn : (n : Int) ≤ (t : Int) := by
              have := mt (HE.out.2.2.1 k).2 hkn
              rw [← Ht.out] at this
              omega
            have hfin := HO.out
            obtain ⟨pf, nf, cf, rfl, _⟩ := hfin.nums.lst
            have HF : Hid (OwnK .i64 3 R2 w.heap.size (.slice pf nf cf) (dshT b j pl k)) := hfin
            clear hfin
            go_wp2
            refine bodyPost_ret (v := .tuple #[.slice pf nf cf, .int .i64 0]) (by simp [results, Try.results14, go_sem]) rfl ⟨_, by rw [HE.out.1], ?_, HB.out⟩
            rw [HE.out.2.1]
            exact HF.out
end Go.Proofs.Ytimbidiogcfpeaa.Wd
