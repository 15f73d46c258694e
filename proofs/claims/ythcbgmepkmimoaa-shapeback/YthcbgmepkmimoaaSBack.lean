/- The law ShapeBack. -/
import Derived.Test.YthcbgmepkmimoaaSOrder
namespace Go.Proofs.Ythcbgmepkmimoaa.Wd
open Go.RowKit
set_option linter.unusedVariables false
set_option linter.unusedSimpArgs false
theorem placeN_mem : ∀ (d : List Nat) (a : Nat) (y : Nat), y ∈ placeN d a → y ≤ a
  | [], _, y, h => by simp [placeN] at h
  | x :: ds, a, y, h => by
    rw [placeN, List.mem_cons] at h
    rcases h with rfl | h
    · exact Nat.div_le_self _ _
    · exact Nat.le_trans (placeN_mem ds _ y h) (Nat.mod_le _ _)
theorem at_place {x : List Nat} (hx : goodN x) (a : Nat) (ha : a < prodN x) : atB (itl x) (itl (placeN x a)) = true ∧ atI (itl x) (itl (placeN x a)) = (a : Int) := by
  have h1 : atB (itl x) (itl (placeN x a)) = true := by
    unfold atB
    rw [ntl_itl, decide_eq_true hx, inside_inB (inside_place x a hx.2.1 ha)]
    rfl
  refine ⟨h1, ?_⟩
  unfold atI
  rw [if_pos h1, ntl_itl, ntl_itl, eval_place x a hx.2.1 ha]
def dK (p s : List Nat) (k : Nat) : Int := ((dotK p s k : Nat) : Int)
theorem dK_succ (p s : List Nat) (k : Nat) : dK p s (k + 1) = dK p s k + (itl p).getD k 0 * (itl s).getD k 0 := by
  unfold dK
  rw [dotK, itl_getD, itl_getD, Int.natCast_add, Int.natCast_mul]
theorem placeI_in {x : List Nat} {a : Nat} (hx : goodN x) (ha : a < prodN x) : placeI (itl x) (a : Int) = itl (placeN x a) := by
  unfold placeI
  rw [ntl_itl, sizeN_good hx, if_pos ⟨by omega, by omega⟩, Int.toNat_natCast]
theorem stridesI_in {x : List Nat} (hx : goodN x) : stridesI (itl x) = itl (stridesN x) := by
  unfold stridesI
  rw [ntl_itl, if_pos hx]
set_option maxHeartbeats 4000000 in
theorem sback_walk (w : World) (za : Nat → Int) (n cap : Nat) (p : Option Addr) (a : Int) (hr : RowN .i64 w p n cap za) (ha : -9223372036854775808 ≤ a ∧ a ≤ 9223372036854775807) :
    Calls Try.prog 6 #[.slice p n cap, .int .i64 a] w fun e w' => e = .returned (.bool true) ∧ Below w.heap.size w w' := by
  have HA : Hid (Nums .i64 w (.slice p n cap) (nlst n za) ∧ RI (nlst n za) ∧ (nlst n za).length = n) := ⟨hr.nums, hr.ri2, nlst_len _ _⟩
  obtain ⟨x, ex⟩ : ∃ x, nlst n za = x := ⟨_, rfl⟩
  rw [ex] at HA
  clear hr ex
  go_enter Try.func6, Try.ntmps6
  go_wp2_with fail
  refine (sawake_any w).mono ?_
  rintro e w0 ⟨rfl, hb⟩
  have H0 : Hid (Below w.heap.size w w0) := hb
  clear hb
  by_cases hn : 4 < n
  · have hn' : (4 : Int) < (n : Int) := by omega
    go_wp2
    go_ret
    exact ⟨rfl, H0.out⟩
  have hn' : (n : Int) ≤ 4 := by omega
  have c1 := good_any _ x HA.out.2.1 w0 (HA.out.1.up H0.out)
  by_cases hg : goodN (ntl x)
  · rw [decide_eq_true hg] at c1
    by_cases ha0 : a < 0
    · clear hg
      go_wp2_with fail
      refine c1.mono ?_
      rintro e w1 ⟨rfl, rfl⟩
      go_wp2
      go_ret
      exact ⟨rfl, H0.out⟩
    have ha0' : 0 ≤ a := by omega
    have c2 := size_any _ x HA.out.2.1 w0 (HA.out.1.up H0.out)
    rw [sizeN_good hg] at c2
    obtain ⟨x, hx, rfl⟩ := good_itl hg
    rw [ntl_itl] at c2
    obtain ⟨z, ez⟩ : ∃ z : Int, ((prodN x : Nat) : Int) = z := ⟨_, rfl⟩
    rw [ez] at c2
    by_cases haz : z ≤ a
    · clear hg ez
      go_wp2_with fail
      refine c1.mono ?_
      rintro e w1 ⟨rfl, rfl⟩
      go_wp2_with fail
      refine c2.mono ?_
      rintro e w1 ⟨rfl, rfl⟩
      go_wp2
      go_ret
      exact ⟨rfl, H0.out⟩
    have haz' : a < z := by omega
    obtain ⟨a', haa⟩ : ∃ a' : Nat, a = (a' : Int) := Int.eq_ofNat_of_zero_le ha0'
    have hap : a' < prodN x := by omega
    have hz : z ≤ 4096 := by have := hx.2.2; omega
    have hxn : x.length = n := by rw [← itl_len x]; exact HA.out.2.2
    have HX : Hid (goodN x ∧ a' < prodN x ∧ x.length = n ∧ a = (a' : Int)) := ⟨hx, hap, hxn, haa⟩
    obtain ⟨P, eP⟩ : ∃ P, itl (placeN x a') = P := ⟨_, rfl⟩
    obtain ⟨S, eS⟩ : ∃ S, itl (stridesN x) = S := ⟨_, rfl⟩
    have HP : Hid (itl (placeN x a') = P ∧ itl (stridesN x) = S) := ⟨eP, eS⟩
    have HPL : Hid (P.length = n ∧ S.length = n) := ⟨by rw [← eP, itl_len, placeN_len]; exact hxn, by rw [← eS, itl_len, stridesN_len]; exact hxn⟩
    have HPR : Hid (RI P) := by
      show RI P
      rw [← eP]
      exact RI_itl fun y hy => by have := placeN_mem x a' y hy; omega
    have ez' : decide (0 ≤ a ∧ a < ((sizeN (ntl (itl x)) : Nat) : Int)) = true := by
      rw [ntl_itl, sizeN_good hx, ez]
      exact decide_eq_true ⟨ha0', haz'⟩
    have ePI : placeI (itl x) a = P := by rw [haa, placeI_in hx hap, eP]
    have eSI : stridesI (itl x) = S := by rw [stridesI_in hx, eS]
    have eAB : atB (itl x) P = true ∧ atI (itl x) P = a := by rw [← eP, haa]; exact at_place hx a' hap
    have HQ : Hid (decide (0 ≤ a ∧ a < ((sizeN (ntl (itl x)) : Nat) : Int)) = true ∧ placeI (itl x) a = P ∧ stridesI (itl x) = S ∧ atB (itl x) P = true ∧ atI (itl x) P = a) := ⟨ez', ePI, eSI, eAB.1, eAB.2⟩
    clear hg ez hx hxn eP eS haa hap ez' ePI eSI eAB
    go_wp2_with fail
    refine c1.mono ?_
    rintro e w1 ⟨rfl, rfl⟩
    clear c1
    go_wp2_with fail
    refine c2.mono ?_
    rintro e w1 ⟨rfl, rfl⟩
    clear c2
    have c3 := place_any _ (itl x) HA.out.2.1 a w1 (HA.out.1.up H0.out)
    rw [HQ.out.1, HQ.out.2.1] at c3
    go_wp2_with fail
    refine c3.mono ?_
    rintro e w3 ⟨v3, rfl, ho, hb⟩
    have H3 : Hid (Nums .i64 w3 v3 P ∧ Below w.heap.size w w3) := ⟨ho.nums, bstep H0.out hb⟩
    clear ho hb c3 H0
    have c4 := sat_any _ v3 (itl x) P HA.out.2.1 HPR.out w3 (HA.out.1.up H3.out.2) H3.out.1
    rw [HQ.out.2.2.2.1, HQ.out.2.2.2.2] at c4
    go_wp2_with fail
    refine c4.mono ?_
    rintro e w4 ⟨rfl, rfl⟩
    clear c4
    have c5 := strides_any _ (itl x) HA.out.2.1 w4 (HA.out.1.up H3.out.2)
    rw [HQ.out.2.2.1] at c5
    go_wp2_with fail
    refine c5.mono ?_
    rintro e w5 ⟨v5, rfl, ho, hb⟩
    have hP := H3.out.1.up hb
    obtain ⟨p3, n3, c3, rfl, HL3⟩ := hP.lst
    have hS := ho.nums
    obtain ⟨p5, n5, c5, rfl, HL5⟩ := hS.lst
    obtain rfl : n3 = n := by rw [← HL3.out.1]; exact HPL.out.1
    obtain rfl : n5 = n3 := by rw [← HL5.out.1]; exact HPL.out.2
    have HB5 : Hid (Below w.heap.size w w5) := bstep H3.out.2 hb
    clear ho hb c5 H3 hP hS
    go_wp2_with fail
    go_loopg [10, 11] n5 (fun gg f b wr => ∃ (k d : Nat) (F : Int), k ≤ n5 ∧ gg = n5 - k ∧ f = .int .i64 F ∧ b = .int .i64 (k : Int) ∧ Hid (F = dK (placeN x a') (stridesN x) k) ∧ 0 ≤ F ∧ F ≤ (k : Int) * 16777216 ∧ wr = w5.drewN d)
    case atStart => exact ⟨0, 0, 0, by omega, by omega, rfl, by first | rfl | simp, rfl, by omega, by omega, rfl⟩
    case round =>
      obtain ⟨k, d, F, hk, hg, rfl, rfl, HK, hF0, hF1, rfl⟩ := hrel
      by_cases hkn : k < n5
      · have hkn' : (k : Int) < (n5 : Int) := by omega
        obtain ⟨q3, o3, rfl, c3⟩ := HL3.out.2 k hkn
        obtain ⟨q5, o5, rfl, c5⟩ := HL5.out.2 k hkn
        have e1 := dK_succ (placeN x a') (stridesN x) k
        rw [HP.out.1, HP.out.2, ← HK.out] at e1
        have r1 : 0 ≤ P.getD k 0 ∧ P.getD k 0 ≤ 4096 := by
          rw [← HP.out.1, itl_getD]
          have h1 : (placeN x a').getD k 0 ∈ placeN x a' := by
            rw [getD_lt _ _ _ (by rw [placeN_len, HX.out.2.2.1]; exact hkn)]
            exact List.getElem_mem _
          have := placeN_mem x a' _ h1
          have := HX.out.1.2.2
          have := HX.out.2.1
          omega
        have r2 : 0 ≤ S.getD k 0 ∧ S.getD k 0 ≤ 4096 := by
          rw [← HP.out.2, strides_at x k (n5 - 1 - k) (by rw [HX.out.2.2.1]; omega)]
          have := sK_rng HX.out.1 (n5 - 1 - k)
          omega
        obtain ⟨X, eX⟩ : ∃ X : Int, P.getD k 0 = X := ⟨_, rfl⟩
        obtain ⟨Y, eY⟩ : ∃ Y : Int, S.getD k 0 = Y := ⟨_, rfl⟩
        rw [eX] at c3 e1 r1
        rw [eY] at c5 e1 r2
        obtain ⟨t, et⟩ : ∃ t, X * Y = t := ⟨_, rfl⟩
        have r3 := mul_small X Y r1.1 r1.2 r2.1 r2.2
        rw [et] at e1 r3
        obtain ⟨t2, et2⟩ : ∃ t2, F + t = t2 := ⟨_, rfl⟩
        rw [et2] at e1
        have HN : Hid (t2 = dK (placeN x a') (stridesN x) (k + 1)) := e1.symm
        have hF2 : t2 ≤ ((k + 1 : Nat) : Int) * 16777216 := by omega
        have hF3 : 0 ≤ t2 := by omega
        have hF4 : t2 ≤ 67108864 := by omega
        clear eX eY e1
        go_wp2
        go_quiet (fail)
        go_wp2
        go_roundg (n5 - (k + 1))
        case measure => omega
        case rel => exact ⟨k + 1, d + nq, t2, by omega, rfl, by first | rfl | simp [et, et2], by first | rfl | simp, HN, hF3, hF2, by first | rfl | exact drewN_add _ _ _⟩
      · obtain rfl : k = n5 := by omega
        have hfin : F = a := by
          rw [HK.out, HX.out.2.2.2]
          unfold dK
          rw [← HX.out.2.2.1, dotK_strides x _ (placeN_len x a'), eval_place x a' HX.out.1.2.1 HX.out.2.1]
        subst hfin
        go_wp2
        go_ret
        exact ⟨rfl, below_drew HB5.out d⟩
  · rw [decide_eq_false hg] at c1
    clear hg
    go_wp2_with fail
    refine c1.mono ?_
    rintro e w1 ⟨rfl, rfl⟩
    go_wp2
    go_ret
    exact ⟨rfl, H0.out⟩
end Go.Proofs.Ythcbgmepkmimoaa.Wd
