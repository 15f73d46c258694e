/- The law ShapeEach. -/
import Derived.Test.YthcbgmepkmimoaaSOrder
namespace Go.Proofs.Ythcbgmepkmimoaa.Wd
open Go.RowKit
set_option linter.unusedVariables false
set_option linter.unusedSimpArgs false
theorem OwnK.up {k : IntKind} {e : TypeId} {W W' : World} {B : Nat} {v : Value} {l : List Int} (h : OwnK k e W B v l) (hb : Below W.heap.size W W') : OwnK k e W' B v l := by
  refine ⟨h.1, ?_⟩
  rcases h.2 with h | ⟨g, cap, cur, h1, h2, h3, h4⟩
  · exact .inl h
  · refine .inr ⟨g, cap, cur, h1, h2, ?_, h4⟩
    have hg : g < W.heap.size := by
      rcases Nat.lt_or_ge g W.heap.size with h | h
      · exact h
      · rw [Array.getElem?_eq_none h] at h3; cases h3
    rw [hb.block g hg]
    exact h3
/-- How often each was met, behind the first k. -/
def cntL (S : Nat) (f : Nat → Nat) (k : Nat) : List Int := (List.range S).map fun n => ((cnt f k n : Nat) : Int)
theorem cntL_len (S : Nat) (f : Nat → Nat) (k : Nat) : (cntL S f k).length = S := by simp [cntL]
theorem cntL_zero (S : Nat) (f : Nat → Nat) : cntL S f 0 = List.replicate S 0 := by
  refine List.ext_getElem (by simp [cntL]) fun i h1 h2 => ?_
  simp [cntL, cnt]
theorem cntL_get (S : Nat) (f : Nat → Nat) (k j : Nat) (h : j < S) : (cntL S f k).getD j 0 = ((cnt f k j : Nat) : Int) := by
  rw [getD_lt _ _ _ (by rw [cntL_len]; exact h)]
  simp [cntL]
theorem cntL_set (S : Nat) (f : Nat → Nat) (k : Nat) (h : f k < S) : (cntL S f k).set (f k) (((cnt f k (f k) : Nat) : Int) + 1) = cntL S f (k + 1) := by
  refine List.ext_getElem (by simp [cntL]) fun i h1 h2 => ?_
  rw [List.getElem_set]
  simp only [cntL, List.getElem_map, List.getElem_range, cnt]
  by_cases hi : f k = i
  · subst hi
    simp
  · rw [if_neg hi, if_neg hi]
    rfl
theorem cnt_le (f : Nat → Nat) (n : Nat) : ∀ k, cnt f k n ≤ k
  | 0 => Nat.le_refl _
  | k + 1 => by
    have := cnt_le f n k
    rw [cnt]
    split <;> omega
/-- Whatever number of big: it is spread from there. -/
theorem from_in {x y : List Nat} (hx : goodN x) (hy : goodN y) (hf : fitsN x y) (hj : joinN x y = y) (k : Nat) (hk : k < prodN y) : fromB (itl x) (itl y) (k : Int) = true ∧ fromI (itl x) (itl y) (k : Int) = ((fromN x y k : Nat) : Int) := by
  have h0 := join_fine hx hy hf (by rw [hj]; exact hy)
  have h1 : fromB (itl x) (itl y) (k : Int) = true := by
    unfold fromB
    refine decide_eq_true ⟨h0.2, by rw [h0.1, hj], by omega, ?_⟩
    rw [ntl_itl, sizeN_good hy]
    omega
  refine ⟨h1, ?_⟩
  unfold fromI
  rw [if_pos h1, ntl_itl, ntl_itl, Int.toNat_natCast]
set_option maxHeartbeats 4000000 in
theorem seach_walk (w : World) (za : Nat → Int) (n cap : Nat) (p : Option Addr) (zb : Nat → Int) (n2 cap2 : Nat) (p2 : Option Addr) (hr : RowN .i64 w p n cap za) (hr2 : RowN .i64 w p2 n2 cap2 zb) :
    Calls Try.prog 8 #[.slice p n cap, .slice p2 n2 cap2] w fun e w' => e = .returned (.bool true) ∧ Below w.heap.size w w' := by
  have HA : Hid (Nums .i64 w (.slice p n cap) (nlst n za) ∧ RI (nlst n za) ∧ (nlst n za).length = n) := ⟨hr.nums, hr.ri2, nlst_len _ _⟩
  have HB : Hid (Nums .i64 w (.slice p2 n2 cap2) (nlst n2 zb) ∧ RI (nlst n2 zb)) := ⟨hr2.nums, hr2.ri2⟩
  obtain ⟨x, ex⟩ : ∃ x, nlst n za = x := ⟨_, rfl⟩
  obtain ⟨y, ey⟩ : ∃ y, nlst n2 zb = y := ⟨_, rfl⟩
  rw [ex] at HA
  rw [ey] at HB
  clear hr hr2 ex ey
  go_enter Try.func8, Try.ntmps8
  go_wp2_with fail
  refine (sawake_any w).mono ?_
  rintro e w0 ⟨rfl, hb⟩
  have H0 : Hid (Below w.heap.size w w0) := hb
  clear hb
  by_cases hn : 4 < n
  · have hn' : (4 : Int) < (n : Int) := by omega
    go_wp2
    go_ret
    exact ⟨rfl, H0.out⟩
  have hn' : (n : Int) ≤ 4 := by omega
  by_cases hn2 : 4 < n2
  · have hn2' : (4 : Int) < (n2 : Int) := by omega
    go_wp2
    go_ret
    exact ⟨rfl, H0.out⟩
  have hn2' : (n2 : Int) ≤ 4 := by omega
  have c1 := size_any _ x HA.out.2.1 w0 (HA.out.1.up H0.out)
  obtain ⟨S, eS⟩ : ∃ S : Nat, sizeN (ntl x) = S := ⟨_, rfl⟩
  have HS : Hid (sizeN (ntl x) = S) := eS
  rw [eS] at c1
  clear eS
  by_cases hS : 200 < S
  · have hS' : (200 : Int) < (S : Int) := by omega
    go_wp2_with fail
    refine c1.mono ?_
    rintro e w1 ⟨rfl, rfl⟩
    go_wp2
    go_ret
    exact ⟨rfl, H0.out⟩
  have hS' : (S : Int) ≤ 200 := by omega
  have c2 := size_any _ y HB.out.2 w0 (HB.out.1.up H0.out)
  obtain ⟨N, eN⟩ : ∃ N : Nat, sizeN (ntl y) = N := ⟨_, rfl⟩
  have HN : Hid (sizeN (ntl y) = N) := eN
  rw [eN] at c2
  clear eN
  go_wp2_with fail
  refine c1.mono ?_
  rintro e w1 ⟨rfl, rfl⟩
  clear c1
  by_cases hN : 200 < N
  · have hN' : (200 : Int) < (N : Int) := by omega
    go_wp2_with fail
    refine c2.mono ?_
    rintro e w1 ⟨rfl, rfl⟩
    go_wp2
    go_ret
    exact ⟨rfl, H0.out⟩
  have hN' : (N : Int) ≤ 200 := by omega
  go_wp2_with fail
  refine c2.mono ?_
  rintro e w1 ⟨rfl, rfl⟩
  clear c2
  have c3 := join_any _ _ x y HA.out.2.1 HB.out.2 w1 (HA.out.1.up H0.out) (HB.out.1.up H0.out)
  have hE := joinE_rng x y
  obtain ⟨E, eE⟩ : ∃ E, joinE x y = E := ⟨_, rfl⟩
  have HE : Hid (joinE x y = E) := eE
  rw [eE] at c3 hE
  clear eE
  go_wp2_with fail
  refine c3.mono ?_
  rintro e w2 ⟨v2, rfl, ho, hb⟩
  have H2 : Hid (Nums .i64 w2 v2 (joinL x y) ∧ Below w.heap.size w w2) := ⟨ho.nums, bstep H0.out hb⟩
  clear ho hb c3 H0
  by_cases hE0 : E = 0
  · subst hE0
    have c4 := same_any v2 _ (joinL x y) y (by have := joinL_len x y; omega) w2 H2.out.1 (HB.out.1.up H2.out.2)
    by_cases hsame : joinL x y = y
    · rw [decide_eq_true hsame] at c4
      have h0 := joinE_zero HE.out
      have hj : joinN (ntl x) (ntl y) = ntl y := by
        have := hsame
        unfold joinL at this
        rw [if_pos ⟨h0.1, h0.2.1, (fitsB_iff _ _).2 h0.2.2.1, h0.2.2.2⟩] at this
        have := congrArg ntl this
        rw [ntl_itl] at this
        exact this
      obtain ⟨gx, gy, gf, _⟩ := h0
      obtain ⟨x, hx, rfl⟩ := good_itl gx
      obtain ⟨y, hy, rfl⟩ := good_itl gy
      rw [ntl_itl, ntl_itl] at gf hj
      have hSx : prodN x = S := by have := HS.out; rw [ntl_itl, sizeN_good hx] at this; exact this
      have hNy : prodN y = N := by have := HN.out; rw [ntl_itl, sizeN_good hy] at this; exact this
      have HX : Hid (goodN x ∧ goodN y ∧ fitsN x y ∧ joinN x y = y ∧ prodN x = S ∧ prodN y = N) := ⟨hx, hy, gf, hj, hSx, hNy⟩
      clear hsame gx gy gf hj hx hy hSx hNy
      go_wp2_with fail
      refine c4.mono ?_
      rintro e w3 ⟨rfl, d, hw⟩
      have H3 : Hid (Below w.heap.size w w3) := by rw [hw]; exact below_drew H2.out.2 d
      clear c4 hw H2
      have c5 := size_any _ (itl x) HA.out.2.1 w3 (HA.out.1.up H3.out)
      rw [HS.out] at c5
      go_wp2_with fail
      refine c5.mono ?_
      rintro e w4 ⟨rfl, rfl⟩
      clear c5
      go_wp2_with (at_make; refine wpList_makeK numT (by decide) _ rfl (.tmp 47) (.tmp 47) rfl .i64 .i64 S S S rfl rfl rfl rfl (by omega) w.heap.size w H3.out.size H3.out ?_; intro w5 HO B0 B1; clear B0)
      rw [← cntL_zero S (fromN x y)] at HO
      obtain ⟨bk, ebk⟩ : ∃ bk, w4.heap.size = bk := ⟨_, rfl⟩
      have Hbk : Hid (w.heap.size ≤ bk) := by show _ ≤ _; rw [← ebk]; exact H3.out.size
      rw [ebk] at HO ⊢
      go_loopg [8] N (fun gg b wr => ∃ (k : Nat), k ≤ N ∧ gg = N - k ∧ b = .int .i64 (k : Int) ∧ Hid (OwnK .i64 3 wr bk (.slice (some ⟨bk, 0, none⟩) S S) (cntL S (fromN x y) k)) ∧ Hid (Below w.heap.size w wr))
      case atStart => exact ⟨0, by omega, by omega, by first | rfl | simp, HO, B1⟩
      case round =>
        obtain ⟨k, hk, hg, rfl, HR, hB⟩ := hrel
        have c6 := size_any _ (itl y) HB.out.2 wr (HB.out.1.up hB.out)
        rw [HN.out] at c6
        by_cases hkn : k < N
        · have hkn' : (k : Int) < (N : Int) := by omega
          have c7 := from_any _ _ (itl x) (itl y) HA.out.2.1 HB.out.2 (k : Int) wr (HA.out.1.up hB.out) (HB.out.1.up hB.out)
          have e7 := from_in HX.out.1 HX.out.2.1 HX.out.2.2.1 HX.out.2.2.2.1 k (by rw [HX.out.2.2.2.2.2]; exact hkn)
          have hlt := fromN_lt HX.out.1.2.1 HX.out.2.1.2.1 HX.out.2.2.1 HX.out.2.2.2.1 k (by rw [HX.out.2.2.2.2.2]; exact hkn)
          rw [HX.out.2.2.2.2.1] at hlt
          rw [e7.1, e7.2] at c7
          obtain ⟨f, ef⟩ : ∃ f, fromN x y k = f := ⟨_, rfl⟩
          have Hf : Hid (fromN x y k = f) := ef
          rw [ef] at c7 hlt
          have hlt' : (f : Int) < (S : Int) := by omega
          clear e7 ef
          go_wp2_with fail
          refine c6.mono ?_
          rintro e wa ⟨rfl, rfl⟩
          clear c6
          go_wp2_with fail
          refine c7.mono ?_
          rintro e wb ⟨rfl, hb⟩
          have HR2 : Hid (OwnK .i64 3 wb bk (.slice (some ⟨bk, 0, none⟩) S S) (cntL S (fromN x y) k)) := HR.out.up hb
          have HB2 : Hid (Below w.heap.size w wb) := bstep hB.out hb
          clear hb c7
          obtain ⟨hown, hfz⟩ := HR2.out.cell (cntL_len _ _ _) f hlt
          rw [cntL_get _ _ _ _ hlt] at hown
          have hcl := cnt_le (fromN x y) f k
          obtain ⟨c, ec⟩ : ∃ c : Int, ((cnt (fromN x y) k f : Nat) : Int) = c := ⟨_, rfl⟩
          have hc : 0 ≤ c ∧ c ≤ 200 := by omega
          rw [ec] at hown
          have H5 : Hid (OwnK .i64 3 (wb.setCell ⟨bk, f, none⟩ (.int .i64 (c + 1))) bk (.slice (some ⟨bk, 0, none⟩) S S) (cntL S (fromN x y) (k + 1))) := by
            have := HR2.out.store (cntL_len _ _ _) f (c + 1)
            rw [← ec, ← Hf.out, cntL_set S (fromN x y) k (by rw [Hf.out]; exact hlt)] at this
            rw [← ec, ← Hf.out]
            exact this
          have HB5 : Hid (Below w.heap.size w (wb.setCell ⟨bk, f, none⟩ (.int .i64 (c + 1)))) := HB2.out.setCell (p := ⟨bk, f, none⟩) Hbk.out _
          clear ec hcl
          go_wp2
          go_roundg (N - (k + 1))
          case measure => omega
          case rel => exact ⟨k + 1, by omega, rfl, by first | rfl | simp, H5, HB5⟩
        · obtain rfl : k = N := by omega
          have HC : Hid (∀ j, j < S → ((cnt (fromN x y) k j : Nat) : Int) * (S : Int) = (k : Int)) := fun j hj => by
            have := cnt_from HX.out.1.2.1 HX.out.2.1.2.1 HX.out.2.2.1 HX.out.2.2.2.1 j (by rw [HX.out.2.2.2.2.1]; exact hj)
            rw [HX.out.2.2.2.2.1, HX.out.2.2.2.2.2] at this
            rw [← Int.natCast_mul, this]
          have HW : Hid (∀ W, Below wr.heap.size wr W → Below w.heap.size w W ∧ Nums .i64 W (.slice p2 n2 cap2) (itl y)) := fun W hW => ⟨bstep hB.out hW, HB.out.1.up (bstep hB.out hW)⟩
          go_wp2_with fail
          refine c6.mono ?_
          rintro e wa ⟨rfl, rfl⟩
          clear c6
          go_wp2_with fail
          go_loopg [11] S (fun gg b wz => ∃ (j : Nat), j ≤ S ∧ gg = S - j ∧ b = .int .i64 (j : Int) ∧ Hid (Below wa.heap.size wa wz))
          case atStart => exact ⟨0, by omega, by omega, by first | rfl | simp, Below.refl _ _⟩
          case round =>
            obtain ⟨j, hj, hg2, rfl, hZ⟩ := hrel
            by_cases hjn : j < S
            · have hjn' : (j : Int) < (S : Int) := by omega
              obtain ⟨hown, _⟩ := (HR.out.up hZ.out).cell (cntL_len _ _ _) j hjn
              rw [cntL_get _ _ _ _ hjn] at hown
              have hm := HC.out j hjn
              have hcl := cnt_le (fromN x y) j k
              obtain ⟨c, ec⟩ : ∃ c : Int, ((cnt (fromN x y) k j : Nat) : Int) = c := ⟨_, rfl⟩
              have hc : 0 ≤ c ∧ c ≤ 200 := by omega
              rw [ec] at hown hm
              have cz : ∀ m, Calls Try.prog 20 #[.slice p2 n2 cap2] (wr.drewN m) fun e w' => e = .returned (.int .i64 (k : Int)) ∧ w' = wr.drewN m := fun m => by
                have := size_any _ (itl y) HB.out.2 (wr.drewN m) (HW.out _ (below_drew hZ.out m)).2
                rw [HN.out] at this
                exact this
              clear ec hcl
              go_wp2_with fail
              go_quiet (exact Calls.quiet_of_same (cz _))
              go_wp2
              go_roundg (S - (j + 1))
              case measure => omega
              case rel => exact ⟨j + 1, by omega, rfl, by first | rfl | simp, below_drew hZ.out nq⟩
            · obtain rfl : j = S := by omega
              go_wp2
              go_ret
              exact ⟨rfl, (HW.out _ hZ.out).1⟩
    · rw [decide_eq_false hsame] at c4
      clear hsame
      go_wp2_with fail
      refine c4.mono ?_
      rintro e w3 ⟨rfl, d, hw⟩
      have H3 : Hid (Below w.heap.size w w3) := by rw [hw]; exact below_drew H2.out.2 d
      clear c4 hw H2
      go_wp2
      go_ret
      exact ⟨rfl, H3.out⟩
  · have hE1 : (E != 0) = true := by simp [hE0]
    go_wp2
    go_ret
    exact ⟨rfl, H2.out.2⟩
end Go.Proofs.Ythcbgmepkmimoaa.Wd
