/- Sums of numbers, exact: what matm.total hands back. -/
import Derived.Test.YthcfeiddbffcfaaDoorLie
import Derived.Test.YthcfeiddbffcfaaDoorTenA
import Derived.Test.YthcfeiddbffcfaaDoorMtM
namespace Go.Proofs.YthcfeiddbffcfaaDoor.Wd
open Go.RowKit Fx
set_option linter.unusedVariables false
set_option linter.unusedSimpArgs false
attribute [local go_sem] fld_hi fld_lo
/-- The words that lie there. -/
theorem Lies.words {W : World} {b : Nat} {x h l : Int} (H : Lies W b x) (e : x = h * 18446744073709551616 + l) (l1 : 0 ≤ l) (l2 : l ≤ 18446744073709551615) : W.cell? ⟨b, 0, none⟩ = some (.int .i64 h) ∧ W.cell? ⟨b, 1, none⟩ = some (.int .u64 l) := by
  refine ⟨?_, ?_⟩
  · rw [H.2.1, show x / 18446744073709551616 = h by omega]
  · rw [H.2.2.1, show x % 18446744073709551616 = l by omega]
set_option maxHeartbeats 4000000 in
theorem total_any (p : Option Addr) (n c : Nat) (x : List Int) (hx : RI x) (hn : n ≤ 4096) (w : World) (hv : Nums .i64 w (.slice p n c) x) :
    Calls Tryd.prog 33 #[.slice p n c] w fun e w' => e = .returned (wd (totalI x)) ∧ Below w.heap.size w w' := by
  obtain ⟨_, _, _, e4, HX⟩ := hv.lst
  cases e4
  have HS : Hid (totalI x = sumI (fun q => x.getD q 0) n) := by show _ = _; rw [totalI, HX.out.1]
  have HR : Hid (∀ k, k ≤ n → InW (sumI (fun q => x.getD q 0) k)) := fun k hk => by
    have h1 := sumI_rng (f := fun q => x.getD q 0) (B := 9223372036854775808) (by omega) k fun q _ => by have := getD_inR hx q; unfold InR at this; omega
    unfold InW
    omega
  have HI : Hid (RI x) := hx
  have hn1 : (n : Int) ≤ 4096 := by omega
  obtain ⟨T, eT⟩ : ∃ T, totalI x = T := ⟨_, rfl⟩
  rw [eT] at HS ⊢
  clear hv hx eT
  haveI : Nonempty World := ⟨w⟩
  go_enter Tryd.func33, Tryd.ntmps33
  go_wp2_with fail
  go_loopg [8] n (fun g i wr => ∃ (k : Nat), k ≤ n ∧ g = n - k ∧ i = .int .i64 (k : Int) ∧ Hid (Lies wr w.heap.size 0) ∧ Hid (Lies wr (w.heap.size + 1) (sumI (fun q => x.getD q 0) k)) ∧ Hid (Below w.heap.size w wr))
  case atStart =>
    refine ⟨0, by omega, by omega, rfl, ?_, ?_, show Below _ _ _ by go_grown⟩
    · show Lies _ _ _
      unfold Lies
      simp [go_sem]
    · show Lies _ _ _
      simp only [sumI]
      unfold Lies
      simp [go_sem]
  case round =>
    obtain ⟨k, hk, hg, rfl, L0, L1, HB⟩ := hrel
    obtain ⟨R1, hR1⟩ : ∃ R1 : World, R1 = wr := ⟨_, rfl⟩
    subst hR1
    by_cases hkn : k < n
    · have hk' : (k : Int) < (n : Int) := by omega
      obtain ⟨q, o, rfl, hc0⟩ := HX.out.2 k hkn
      have hc1 := cell_low hc0 HB.out
      have lt0 := wcell_lt hc1
      have hX := getD_inR HI.out k
      have wS := HR.out k hk
      have wT := HR.out (k + 1) (by omega)
      obtain ⟨S, eS⟩ : ∃ S, sumI (fun q => x.getD q 0) k = S := ⟨_, rfl⟩
      have eT1 : sumI (fun q => x.getD q 0) (k + 1) = S + x.getD k 0 := by rw [sumI, eS]
      rw [eT1] at wT
      obtain ⟨X, eX⟩ : ∃ X, x.getD k 0 = X := ⟨_, rfl⟩
      rw [eX] at hc1 hX wT eT1
      rw [eS] at wS L1
      have HT1 : Hid (sumI (fun q => x.getD q 0) (k + 1) = S + X) := eT1
      obtain ⟨sh, sl, es, s1, s2, s3, s4, Hs⟩ := words wS
      obtain ⟨xh, xl, exw, x1, x2, x3, x4, Hx⟩ := words (InR.w hX)
      obtain ⟨th, tl, et, t1, t2, t3, t4, Ht⟩ := words wT
      have cOf : ∀ W : World, Calls Tryd.prog 57 #[.int .i64 X] W fun e w' => e = .returned (.agg #[.int .i64 xh, .int .u64 xl]) ∧ Below W.heap.size W w' := by
        intro W; have := of_any X hX W; rw [exw] at this; exact this
      have cAd : ∀ W : World, Calls Tryd.prog 59 #[.agg #[.int .i64 sh, .int .u64 sl], .agg #[.int .i64 xh, .int .u64 xl]] W fun e w' => e = .returned (.agg #[.int .i64 th, .int .u64 tl]) ∧ Below W.heap.size W w' := by
        intro W; have := add_in S X wS (InR.w hX) wT W; rw [exw, es, et] at this; exact this
      obtain ⟨q0, q1⟩ := L1.out.words Hs.out s3 s4
      have lt1 := L1.out.1
      clear eS eX eT1 hc0 es exw et hX wS wT
      go_wp2_with fail
      refine flow 4 18 (by kernel_rfl) rfl rfl (by kernel_rfl) ?_
      apply Exists.intro
      refine ⟨?_, ?_⟩
      · intro F hF
        have hFc := hF.cell
        have hFf := hF.frozen
        simp only [List.take_succ_cons, List.take_zero, List.eraseIdx_cons_succ, List.eraseIdx_cons_zero]
        repeat (go_big_quiet_step (first | (go_at_call 57; with_reducible exact hF.call (cOf _)) | (go_at_call 59; with_reducible exact hF.call (cAd _))))
        refine wpQuiet_nil ?_
        exact rfl
      · intro W2 hW2
        simp only [List.drop_succ_cons, List.drop_zero]
        have M := L1.out.up hW2
        have N0 : Hid (Lies ((W2.setCell ⟨w.heap.size + 1, 0, none⟩ (.int .i64 th)).setCell ⟨w.heap.size + 1, 1, none⟩ (.int .u64 tl)) w.heap.size 0) := (L0.out.up hW2).off (by omega)
        have N1 : Hid (Lies ((W2.setCell ⟨w.heap.size + 1, 0, none⟩ (.int .i64 th)).setCell ⟨w.heap.size + 1, 1, none⟩ (.int .u64 tl)) (w.heap.size + 1) (S + X)) := M.set (by have := Ht.out; omega) (by have := Ht.out; omega)
        have B2 : Hid (Below w.heap.size w ((W2.setCell ⟨w.heap.size + 1, 0, none⟩ (.int .i64 th)).setCell ⟨w.heap.size + 1, 1, none⟩ (.int .u64 tl))) := below_set2 (HB.out.trans (hW2.mono HB.out.size)) _ (by omega) _ _
        obtain ⟨g0, g1, g2, g3, g4⟩ := M
        clear hW2 cOf cAd q0 q1 lt1 L0 L1 HB
        go_wp2
        go_roundg (n - (k + 1))
        case measure => omega
        case rel => exact ⟨k + 1, by omega, rfl, by first | rfl | simp, N0, by rw [HT1.out]; exact N1, B2⟩
    · obtain rfl : k = n := by omega
      have wS := HR.out k hk
      rw [← HS.out] at L1 wS
      obtain ⟨sh, sl, es, s1, s2, s3, s4, Hs⟩ := words wS
      obtain ⟨q0, q1⟩ := L1.out.words Hs.out s3 s4
      obtain ⟨g0, g1, g2, g3, g4⟩ := L0.out
      have lt1 := L1.out.1
      have cf := L0.out.set (y := T) (yh := sh) (yl := sl) (by have := Hs.out; omega) (by have := Hs.out; omega)
      have BF := below_set2 HB.out w.heap.size (Nat.le_refl _) (.int .i64 sh) (.int .u64 sl)
      obtain ⟨y0, y1⟩ := cf.words Hs.out s3 s4
      clear cf wS
      go_wp2
      exact bodyPost_ret (v := .agg #[.int .i64 sh, .int .u64 sl]) (by simp [results, Tryd.results33, go_sem, y0, y1]) rfl ⟨by rw [es], BF⟩
end Go.Proofs.YthcfeiddbffcfaaDoor.Wd
