/- act.All: what it hands back. -/
import Derived.Test.YtlehlikgehbnfaaActA
import Derived.Test.YtlehlikgehbnfaaTenP
namespace Go.Proofs.Ytlehlikgehbnfaa.Wd
open Go.RowKit Fx
set_option linter.unusedVariables false
set_option linter.unusedSimpArgs false
def bentE (k : Int) (d x : List Int) : Int := if (1 ≤ k ∧ k ≤ 5) ∧ isP d x then 0 else 1
def bentD (k : Int) (d x : List Int) : List Int := if (1 ≤ k ∧ k ≤ 5) ∧ isP d x then d else []
def bentV (k : Int) (d x : List Int) : List Int := if (1 ≤ k ∧ k ≤ 5) ∧ isP d x then x.map fun y => Fx.bendI k y else []
theorem map_at (f : Int → Int) (x : List Int) (k : Nat) (h : k < x.length) : (x.map f).getD k 0 = f (x.getD k 0) := by
  rw [List.getD_eq_getElem?_getD, List.getElem?_map, List.getElem?_eq_getElem h, getD_lt x k 0 h]
  rfl
set_option maxHeartbeats 2000000 in
theorem aall_any (k : Int) (p p2 : Option Addr) (n c n2 c2 : Nat) (d x : List Int) (hd : RI d) (hx : RI x) (w : World) (h1 : Nums .i64 w (.slice p n c) d) (h2 : Nums .i64 w (.slice p2 n2 c2) x) :
    Calls Try.prog 13 #[.int .i64 k, .agg #[.slice p n c, .slice p2 n2 c2]] w fun e w' => ∃ v', e = .returned (.tuple #[v', .int .i64 (bentE k d x)]) ∧ TRes w' w.heap.size v' (bentD k d x) (bentV k d x) ∧ Below w.heap.size w w' := by
  have cA : ∀ W, Below w.heap.size w W → Calls Try.prog 22 #[.agg #[.slice p n c, .slice p2 n2 c2]] W fun e w' => e = .returned (.bool (decide (isP d x))) ∧ Below W.heap.size W w' := fun W hW => tgood_any _ _ d x hd W (h1.up hW) (h2.up hW)
  unfold bentE bentD bentV
  by_cases hk : 1 ≤ k ∧ k ≤ 5
  · obtain ⟨K1, K2, e1, e2, f1, f2, cl⟩ := line_yes k hk
    by_cases hp : isP d x
    · rw [decide_eq_true hp] at cA
      rw [if_pos ⟨hk, hp⟩, if_pos ⟨hk, hp⟩, if_pos ⟨hk, hp⟩]
      obtain ⟨V, eV⟩ : ∃ V, (x.map fun y => Fx.bendI k y) = V := ⟨_, rfl⟩
      rw [eV]
      have HN : Hid (Nums .i64 w (.slice p n c) d ∧ Nums .i64 w (.slice p2 n2 c2) x) := ⟨h1, h2⟩
      obtain ⟨_, _, _, e4, HX⟩ := h2.lst
      cases e4
      have hlen : x.length ≤ 4096 := by rw [hp.2]; exact hp.1.2.2
      rw [HX.out.1] at hlen
      have hlen' : (n2 : Int) ≤ 4096 := by omega
      have HV : Hid ((x.map fun y => Fx.bendI k y) = V ∧ V.length = n2 ∧ isP d x ∧ RI x ∧ x.length = n2) := ⟨eV, by rw [← eV, List.length_map]; exact HX.out.1, hp, hx, HX.out.1⟩
      have HC1 : Hid (∀ x, InR x → ∀ W, Calls Try.prog K1 #[.int .i64 x] W fun e w' => e = .returned (.int .i64 (bendI k x)) ∧ ∃ n, w' = W.drewN n) := f1
      clear eV h1 h2 hd hx hp hk f1 f2 e2
      go_enter Try.func13, Try.ntmps13
      go_wp2_with fail
      generalize hW0 : World.alloc _ _ = W0
      have B0 : Below w.heap.size w W0 := by rw [← hW0]; go_grown
      have XA : Hid (Cel W0 w.heap.size (.slice p n c) (.slice p2 n2 c2)) := by show Cel _ _ _ _; unfold Cel; rw [← hW0]; simp [go_sem]
      have XR : Hid (Cel W0 (w.heap.size + 1) (.slice none 0 0) (.slice none 0 0)) := by show Cel _ _ _ _; unfold Cel; rw [← hW0]; simp [go_sem]
      have HB0 : Hid (Below w.heap.size w W0) := B0
      clear hW0 B0
      refine (cl W0).mono ?_
      rintro e w1 ⟨rfl, hB1⟩
      have HB1 : Hid (Below w.heap.size w w1 ∧ Below W0.heap.size W0 w1) := ⟨bstep HB0.out hB1, hB1⟩
      clear hB1 cl
      obtain ⟨a0, a1, _, _⟩ := XA.out.up HB1.out.2
      have z0 := cell_lt a0
      go_wp2_with fail
      generalize hW2 : World.alloc _ _ = W2
      have B2 : Below w1.heap.size w1 W2 := by rw [← hW2]; exact up_alloc w1 _
      have XL : Hid (Cel W2 w1.heap.size (.func (.func K1) #[] #[]) (.func (.func K2) #[] #[])) := by show Cel _ _ _ _; unfold Cel; rw [← hW2]; simp [go_sem]
      have HB2 : Hid (Below w.heap.size w W2 ∧ Below W0.heap.size W0 W2) := ⟨bstep HB1.out.1 B2, bstep HB1.out.2 B2⟩
      have HL : Hid (W0.heap.size ≤ w1.heap.size) := HB1.out.2.size
      obtain ⟨bl, hbl⟩ : ∃ bl, w1.heap.size = bl := ⟨_, rfl⟩
      rw [hbl] at XL HL ⊢
      clear hW2 B2
      refine (cA W2 HB2.out.1).mono ?_
      rintro e w3 ⟨rfl, hB3⟩
      have HB3 : Hid (Below w.heap.size w w3 ∧ Below W0.heap.size W0 w3 ∧ Below W2.heap.size W2 w3) := ⟨bstep HB2.out.1 hB3, bstep HB2.out.2 hB3, hB3⟩
      clear hB3 cA a0 a1 z0
      obtain ⟨a0, a1, _, _⟩ := XA.out.up HB3.out.2.1
      go_wp2_with (at_make; refine wpList_makeK fixT (by decide) _ rfl (.tmp 26) (.tmp 26) rfl .i64 .i64 n2 n2 n2 rfl rfl rfl rfl (by omega) w.heap.size w HB3.out.1.size HB3.out.1 ?_; intro w4 HO4 B4 B4'; clear B4'; have XA4 := (XA.out.up (bstep HB3.out.2.1 B4)); obtain ⟨a2, a3, _, _⟩ := XA4)
      obtain ⟨g, hg⟩ : ∃ g, w3.heap.size = g := ⟨_, rfl⟩
      have HB4 : Hid (Below w.heap.size w w4 ∧ Below W0.heap.size W0 w4 ∧ Below W2.heap.size W2 w4) := ⟨bstep HB3.out.1 B4, bstep HB3.out.2.1 B4, bstep HB3.out.2.2 B4⟩
      rw [hg] at HO4 ⊢
      have hz := cell_lt XR.out.1
      have Hg : Hid (W0.heap.size ≤ g ∧ w.heap.size + 1 < W0.heap.size ∧ bl < g) := ⟨by rw [← hg]; exact HB3.out.2.1.size, hz, by rw [← hg]; exact Nat.lt_of_lt_of_le (cell_lt XL.out.1) HB3.out.2.2.size⟩
      have HO5 : Hid (OwnK .i64 23 w4 g (.slice (some ⟨g, 0, none⟩) n2 n2) (rowF V 0)) := by
        show OwnK _ _ _ _ _ _
        rw [rowF_zero, HV.out.2.1]
        exact HO4.out
      clear a0 a1 a2 a3 HO4 B4 hg hz
      go_loopg [31] n2 (fun gg i wr => ∃ (k : Nat), k ≤ n2 ∧ gg = n2 - k ∧ i = .int .i64 (k : Int) ∧ Hid (OwnK .i64 23 wr g (.slice (some ⟨g, 0, none⟩) n2 n2) (rowF V k)) ∧ Hid (Below w.heap.size w wr ∧ Stay g w4 wr))
      case atStart => exact ⟨0, by omega, by omega, by first | rfl | simp, HO5, HB4.out.1, Stay.refl _ _⟩
      case round =>
        obtain ⟨j, hj, hg, rfl, HRk, hBS⟩ := hrel
        obtain ⟨R1, hR1⟩ : ∃ R1 : World, R1 = wr := ⟨_, rfl⟩
        subst hR1
        by_cases hjn : j < n2
        · have hj' : (j : Int) < (n2 : Int) := by omega
          obtain ⟨q, o, rfl, hc0⟩ := HX.out.2 j hjn
          have hc1 := cell_low hc0 hBS.out.1
          have rx := HV.out.2.2.2.1.at j (by rw [HV.out.2.2.2.2]; exact hjn)
          obtain ⟨X, eX⟩ : ∃ X, x.getD j 0 = X := ⟨_, rfl⟩
          rw [eX] at hc1 rx
          obtain ⟨Z, eZ⟩ : ∃ Z, Fx.bendI k X = Z := ⟨_, rfl⟩
          have HZ : Hid (V.getD j 0 = Z) := by
            show _ = _
            rw [← HV.out.1, map_at _ _ _ (by rw [HV.out.2.2.2.2]; exact hjn), eX, eZ]
          have cz : ∀ W, Calls Try.prog K1 #[.int .i64 X] W fun e w' => e = .returned (.int .i64 Z) ∧ ∃ n, w' = W.drewN n := fun W => by rw [← eZ]; exact HC1.out X rx W
          have hne : bl ≠ g := by have := Hg.out; omega
          obtain ⟨l0, l1, _, _⟩ := (XL.out.up HB4.out.2.2).stay hBS.out.2 hne
          have hgw : w.heap.size ≤ g := by have := Hg.out; have := HB0.out.size; omega
          clear eX eZ hc0 hne
          go_wp2_with fail
          refine (cz _).mono ?_
          rintro e w5 ⟨rfl, m, rfl⟩
          have HR5 : Hid (OwnK .i64 23 (R1.drewN m) g (.slice (some ⟨g, 0, none⟩) n2 n2) (rowF V j)) := HRk.out.up (bdrew _ _)
          have HS5 : Hid (Below w.heap.size w (R1.drewN m) ∧ Stay g w4 (R1.drewN m)) := ⟨bstep hBS.out.1 (bdrew _ _), hBS.out.2.up (bdrew _ _)⟩
          obtain ⟨R2, hR2⟩ : ∃ R2 : World, R1.drewN m = R2 := ⟨_, rfl⟩
          rw [hR2] at HR5 HS5 ⊢
          obtain ⟨hown, hfz⟩ := HR5.out.cell (by rw [rowF_len]; exact HV.out.2.1) j hjn
          have H5 : Hid (OwnK .i64 23 (R2.setCell ⟨g, j, none⟩ (.int .i64 Z)) g (.slice (some ⟨g, 0, none⟩) n2 n2) (rowF V (j + 1))) := by
            have := HR5.out.store (by rw [rowF_len]; exact HV.out.2.1) j Z
            rw [← HZ.out, rowF_set V j (by rw [HV.out.2.1]; exact hjn)] at this
            rw [← HZ.out]
            exact this
          have H6 : Hid (Below w.heap.size w (R2.setCell ⟨g, j, none⟩ (.int .i64 Z)) ∧ Stay g w4 (R2.setCell ⟨g, j, none⟩ (.int .i64 Z))) := ⟨HS5.out.1.setCell (p := ⟨g, j, none⟩) hgw _, HS5.out.2.set _ _⟩
          clear cz l0 l1 hc1 hR2
          go_wp2
          go_roundg (n2 - (j + 1))
          case measure => omega
          case rel => exact ⟨j + 1, by omega, rfl, by first | rfl | simp, H5, H6⟩
        · obtain rfl : j = n2 := by omega
          have hne0 : w.heap.size ≠ g := by have := Hg.out; omega
          have hne1 : w.heap.size + 1 ≠ g := by have := Hg.out; omega
          obtain ⟨a0, a1, _, _⟩ := (XA.out.up HB4.out.2.1).stay hBS.out.2 hne0
          have xr1 := (XR.out.up HB4.out.2.1).stay hBS.out.2 hne1
          have hfin := HRk.out
          rw [← HV.out.2.1, rowF_full, HV.out.2.1] at hfin
          have HF1 : Hid (OwnK .i64 23 R1 g (.slice (some ⟨g, 0, none⟩) j j) V) := hfin
          have cc := cloneI_any _ d (by have := HV.out.2.2.1.1.1; rw [ntl_len] at this; omega) R1 (HN.out.1.up hBS.out.1)
          have HXR : Hid (Cel R1 (w.heap.size + 1) (.slice none 0 0) (.slice none 0 0)) := xr1
          clear hfin xr1 hne0 hne1
          go_wp2_with fail
          refine cc.mono ?_
          rintro e w6 ⟨v6, rfl, h6, hB6⟩
          obtain ⟨p6, n6, c6, rfl, _⟩ := h6.nums.lst
          have HF : Hid (TRes (set2 w6 (w.heap.size + 1) (.slice p6 n6 c6) (.slice (some ⟨g, 0, none⟩) j j)) w.heap.size (.agg #[.slice p6 n6 c6, .slice (some ⟨g, 0, none⟩) j j]) d V ∧ Below w.heap.size w (set2 w6 (w.heap.size + 1) (.slice p6 n6 c6) (.slice (some ⟨g, 0, none⟩) j j))) := by
            have hs : g ≤ R1.heap.size := Nat.le_of_lt HF1.out.size
            exact ⟨(TRes.set (h6.low (Nat.le_trans Hg.out.1 hs)) ((HF1.out.up hB6).low Hg.out.1) Hg.out.2.1).low HB0.out.size, below_cell (bstep hBS.out.1 hB6) _ (by omega) _ _⟩
          clear cc h6 a0 a1
          have xr := (HXR.out.up hB6)
          have cf := xr.set (.slice p6 n6 c6) (.slice (some ⟨g, 0, none⟩) j j)
          obtain ⟨r0, r1, r2, r3⟩ := xr
          obtain ⟨y0, y1, _, _⟩ := cf
          go_wp2
          exact bodyPost_ret (v := .tuple #[.agg #[.slice p6 n6 c6, .slice (some ⟨g, 0, none⟩) j j], .int .i64 0]) (by simp [results, Try.results13, go_sem, y0, y1]) rfl ⟨_, rfl, HF.out⟩
    · rw [decide_eq_false hp] at cA
      rw [if_neg fun h => hp h.2, if_neg fun h => hp h.2, if_neg fun h => hp h.2]
      clear h1 h2 hd hx hp hk f1 f2 e1 e2
      go_enter Try.func13, Try.ntmps13
      go_wp2_with fail
      generalize hW0 : World.alloc _ _ = W0
      have B0 : Below w.heap.size w W0 := by rw [← hW0]; go_grown
      have XA : Hid (Cel W0 w.heap.size (.slice p n c) (.slice p2 n2 c2)) := by show Cel _ _ _ _; unfold Cel; rw [← hW0]; simp [go_sem]
      have XR : Hid (Cel W0 (w.heap.size + 1) (.slice none 0 0) (.slice none 0 0)) := by show Cel _ _ _ _; unfold Cel; rw [← hW0]; simp [go_sem]
      have HB0 : Hid (Below w.heap.size w W0) := B0
      clear hW0 B0
      refine (cl W0).mono ?_
      rintro e w1 ⟨rfl, hB1⟩
      have HB1 : Hid (Below w.heap.size w w1 ∧ Below W0.heap.size W0 w1) := ⟨bstep HB0.out hB1, hB1⟩
      clear hB1 cl
      obtain ⟨a0, a1, _, _⟩ := XA.out.up HB1.out.2
      have z0 := cell_lt a0
      go_wp2_with fail
      generalize hW2 : World.alloc _ _ = W2
      have B2 : Below w1.heap.size w1 W2 := by rw [← hW2]; exact up_alloc w1 _
      have XL : Hid (Cel W2 w1.heap.size (.func (.func K1) #[] #[]) (.func (.func K2) #[] #[])) := by show Cel _ _ _ _; unfold Cel; rw [← hW2]; simp [go_sem]
      have HB2 : Hid (Below w.heap.size w W2 ∧ Below W0.heap.size W0 W2) := ⟨bstep HB1.out.1 B2, bstep HB1.out.2 B2⟩
      have HL : Hid (W0.heap.size ≤ w1.heap.size) := HB1.out.2.size
      obtain ⟨bl, hbl⟩ : ∃ bl, w1.heap.size = bl := ⟨_, rfl⟩
      rw [hbl] at XL HL ⊢
      clear hW2 B2
      refine (cA W2 HB2.out.1).mono ?_
      rintro e w3 ⟨rfl, hB3⟩
      have HB3 : Hid (Below w.heap.size w w3 ∧ Below W0.heap.size W0 w3) := ⟨bstep HB2.out.1 hB3, bstep HB2.out.2 hB3⟩
      clear hB3 cA a0 a1 z0
      have xr := (XR.out.up (HB3.out).2)
      have BF := below_cell ((HB3.out).1) (w.heap.size + 1) (by omega) (.slice none 0 0) (.slice none 0 0)
      have cf := xr.set (.slice none 0 0) (.slice none 0 0)
      obtain ⟨r0, r1, r2, r3⟩ := xr
      obtain ⟨y0, y1, _, _⟩ := cf
      go_wp2
      exact bodyPost_ret (v := .tuple #[.agg #[.slice none 0 0, .slice none 0 0], .int .i64 1]) (by simp [results, Try.results13, go_sem, y0, y1]) rfl ⟨_, rfl, TRes.none _ _, BF⟩
  · have cl := line_no k (by omega)
    rw [if_neg fun h => hk h.1, if_neg fun h => hk h.1, if_neg fun h => hk h.1]
    clear h1 h2 hd hx hk cA
    go_enter Try.func13, Try.ntmps13
    go_wp2_with fail
    generalize hW0 : World.alloc _ _ = W0
    have B0 : Below w.heap.size w W0 := by rw [← hW0]; go_grown
    have XA : Hid (Cel W0 w.heap.size (.slice p n c) (.slice p2 n2 c2)) := by show Cel _ _ _ _; unfold Cel; rw [← hW0]; simp [go_sem]
    have XR : Hid (Cel W0 (w.heap.size + 1) (.slice none 0 0) (.slice none 0 0)) := by show Cel _ _ _ _; unfold Cel; rw [← hW0]; simp [go_sem]
    have HB0 : Hid (Below w.heap.size w W0) := B0
    clear hW0 B0
    refine (cl W0).mono ?_
    rintro e w1 ⟨rfl, hB1⟩
    have HB1 : Hid (Below w.heap.size w w1 ∧ Below W0.heap.size W0 w1) := ⟨bstep HB0.out hB1, hB1⟩
    clear hB1 cl
    have xr := (XR.out.up HB1.out.2)
    have hzr := cell_lt xr.1
    have BF := bstep (below_cell HB1.out.1 (w.heap.size + 1) (by omega) (.slice none 0 0) (.slice none 0 0)) (up_alloc _ (.cells #[.nilFunc, .nilFunc] 44))
    have cf := (xr.set (.slice none 0 0) (.slice none 0 0)).up (up_alloc _ (.cells #[.nilFunc, .nilFunc] 44))
    obtain ⟨r0, r1, r2, r3⟩ := xr
    obtain ⟨y0, y1, _, _⟩ := cf
    go_wp2
    exact bodyPost_ret (v := .tuple #[.agg #[.slice none 0 0, .slice none 0 0], .int .i64 1]) (by simp [results, Try.results13, go_sem, y0, y1]) rfl ⟨_, rfl, TRes.none _ _, BF⟩
end Go.Proofs.Ytlehlikgehbnfaa.Wd
