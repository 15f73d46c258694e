/- The law ShapeOnes. -/
import Derived.Test.YthcbgmepkmimoabSBack
import Derived.Test.YthcbgmepkmimoabSEach
namespace Go.Proofs.Ythcbgmepkmimoab.Wd
open Go.RowKit
set_option linter.unusedVariables false
set_option linter.unusedSimpArgs false
theorem OwnK.room {k : IntKind} {e : TypeId} {W : World} {B : Nat} {p : Option Addr} {n c : Nat} {l : List Int} (h : OwnK k e W B (.slice p n c) l) : n ≤ c := by
  rcases h.2 with ⟨h1, _⟩ | ⟨g, cap, cur, h1, _, _, h2, _⟩
  · cases h1; exact Nat.le_refl _
  · cases h1; exact h2
theorem cut1_run (p : Option Addr) (n cap : Nat) (h : 1 ≤ n) (W : World) : Sem.run Try.prog (Instr.slice 22 (.slice p n cap) (some (.int .i64 1)) none none) W = .ok (sliced p 1 n cap 1) W := by
  have hz : ∀ W, Sem.run Try.prog (sizeOf (Try.prog.elem 22)) W = .ok 1 W := fun W => by kernel_rfl
  have := run_slice_l (P := Try.prog) W 22 p n cap (by kernel_rfl) .i64 1 (by omega) (by omega)
  rw [this, hz]
  simp [Result.andThen]
theorem cut1_nums {k : IntKind} {W : World} {p : Option Addr} {n cap : Nat} {x : Int} {l : List Int} (hl : l.length + 1 = n) (hn : n ≤ cap) (hb : Nums k W (.slice p n cap) (x :: l)) : Nums k W (sliced p 1 n cap 1) l := by
  rcases hb with ⟨e, h⟩ | ⟨ad, c', e, hx⟩
  · cases h
  · cases e
    unfold sliced
    by_cases c : cap = 1
    · rw [if_pos c]
      refine .inr ⟨ad, cap - 1, by simp, fun j u hu => ?_⟩
      have : l = [] := by
        cases l with
        | nil => rfl
        | cons a b => simp at hn; omega
      subst this
      simp [vals] at hu
    · rw [if_neg c]
      refine .inr ⟨ad.add (1 * 1), cap - 1, by simp, fun j u hu => ?_⟩
      have h0 := hx (j + 1) u (by unfold vals at *; simpa using hu)
      have e0 := hx 0 (.int k x) (by simp [vals])
      have e1 : ad = ⟨ad.block, ad.off, none⟩ := spot_none (by
        have : ad.add 0 = ad := by simp [Addr.add]
        rw [this] at e0; exact e0)
      rw [e1, addr_plus] at h0
      rw [e1, addr_plus, addr_plus, show ad.off + 1 * 1 + j = ad.off + (j + 1) by omega]
      exact h0
theorem good_one {x : List Nat} (hx : goodN x) (h : x.length ≤ 3) : goodN (1 :: x) := by
  refine ⟨by simp; omega, fun y hy => ?_, ?_⟩
  · rcases List.mem_cons.1 hy with rfl | h
    · omega
    · exact hx.2.1 y h
  · rw [prodN, Nat.one_mul]; exact hx.2.2
set_option maxHeartbeats 4000000 in
theorem sones_walk (w : World) (za : Nat → Int) (n cap : Nat) (p : Option Addr) (a : Int) (hr : RowN .i64 w p n cap za) (ha : -9223372036854775808 ≤ a ∧ a ≤ 9223372036854775807) :
    Calls Try.prog 3 #[.slice p n cap, .int .i64 a] w fun e w' => e = .returned (.bool true) ∧ Below w.heap.size w w' := by
  have HA : Hid (Nums .i64 w (.slice p n cap) (nlst n za) ∧ RI (nlst n za) ∧ (nlst n za).length = n) := ⟨hr.nums, hr.ri2, nlst_len _ _⟩
  obtain ⟨x, ex⟩ : ∃ x, nlst n za = x := ⟨_, rfl⟩
  rw [ex] at HA
  clear hr ex
  go_enter Try.func3, Try.ntmps3
  go_wp2_with fail
  refine (sawake_any w).mono ?_
  rintro e w0 ⟨rfl, hb⟩
  have H0 : Hid (Below w.heap.size w w0) := hb
  clear hb
  by_cases hn : 3 < n
  · have hn' : (3 : Int) < (n : Int) := by omega
    go_wp2
    go_ret
    exact ⟨rfl, H0.out⟩
  have hn' : (n : Int) ≤ 3 := by omega
  have c1 := good_any _ x HA.out.2.1 w0 (HA.out.1.up H0.out)
  by_cases hg : goodN (ntl x)
  · rw [decide_eq_true hg] at c1
    by_cases ha0 : a < 0
    · clear hg
      go_wp2_with fail
      refine c1.mono ?_
      rintro e w1 ⟨rfl, rfl⟩
      go_wp2
      go_ret
      exact ⟨rfl, H0.out⟩
    have ha0' : 0 ≤ a := by omega
    have c2 := size_any _ x HA.out.2.1 w0 (HA.out.1.up H0.out)
    rw [sizeN_good hg] at c2
    obtain ⟨x, hx, rfl⟩ := good_itl hg
    rw [ntl_itl] at c2
    obtain ⟨z, ez⟩ : ∃ z : Int, ((prodN x : Nat) : Int) = z := ⟨_, rfl⟩
    rw [ez] at c2
    by_cases haz : z ≤ a
    · clear hg ez
      go_wp2_with fail
      refine c1.mono ?_
      rintro e w1 ⟨rfl, rfl⟩
      go_wp2_with fail
      refine c2.mono ?_
      rintro e w1 ⟨rfl, rfl⟩
      go_wp2
      go_ret
      exact ⟨rfl, H0.out⟩
    have haz' : a < z := by omega
    obtain ⟨a', haa⟩ : ∃ a' : Nat, a = (a' : Int) := Int.eq_ofNat_of_zero_le ha0'
    have hap : a' < prodN x := by omega
    have hz : z ≤ 4096 := by have := hx.2.2; omega
    have hxn : x.length = n := by rw [← itl_len x]; exact HA.out.2.2
    have h1x : goodN (1 :: x) := good_one hx (by omega)
    have hpx : prodN (1 :: x) = prodN x := by rw [prodN, Nat.one_mul]
    obtain ⟨P, eP⟩ : ∃ P, itl (placeN x a') = P := ⟨_, rfl⟩
    have HPL : Hid (P.length = n) := by show _ = _; rw [← eP, itl_len, placeN_len]; exact hxn
    have HLX : Hid ((1 : Int) :: itl x = itl (1 :: x)) := rfl
    have HRX : Hid (RI (itl (1 :: x))) := RI_itl h1x.le
    have HQ : Hid (decide (0 ≤ a ∧ a < ((sizeN (ntl (itl (1 :: x))) : Nat) : Int)) = true ∧ placeI (itl (1 :: x)) a = 0 :: P ∧ decide (0 ≤ a ∧ a < ((sizeN (ntl (itl x)) : Nat) : Int)) = true ∧ placeI (itl x) a = P ∧ fromB (itl x) (itl (1 :: x)) a = true ∧ fromI (itl x) (itl (1 :: x)) a = a ∧ ((sizeN (ntl (itl (1 :: x))) : Nat) : Int) = z ∧ ((sizeN (ntl (itl x)) : Nat) : Int) = z) := by
      have hs1 : ((sizeN (ntl (itl (1 :: x))) : Nat) : Int) = z := by rw [ntl_itl, sizeN_good h1x, hpx, ez]
      have hs2 : ((sizeN (ntl (itl x)) : Nat) : Int) = z := by rw [ntl_itl, sizeN_good hx, ez]
      have hj := join_one hx.2.1
      have hfr := from_in hx h1x hj.1 hj.2 a' (by rw [hpx]; exact hap)
      rw [from_one x a' hx.2.1 hap, ← haa] at hfr
      refine ⟨by rw [hs1]; exact decide_eq_true ⟨ha0', haz'⟩, ?_, by rw [hs2]; exact decide_eq_true ⟨ha0', haz'⟩, ?_, hfr.1, hfr.2, hs1, hs2⟩
      · rw [haa, placeI_in h1x (by rw [hpx]; exact hap), place_one x a' hap, ← eP]; rfl
      · rw [haa, placeI_in hx hap, eP]
    clear hg ez hx hxn eP haa hap h1x hpx
    go_wp2_with fail
    refine c1.mono ?_
    rintro e w1 ⟨rfl, rfl⟩
    clear c1
    go_wp2_with fail
    refine c2.mono ?_
    rintro e w1 ⟨rfl, rfl⟩
    clear c2
    have HO : Hid (OwnK .i64 3 (w1.alloc (.cells #[.int .i64 1] 3)) w1.heap.size (.slice (some ⟨w1.heap.size, 0, none⟩) 1 1) [1]) := own_lit (k := .i64) w1 [1] 1 rfl (by decide)
    have HN0 : Hid (Nums .i64 (w1.alloc (.cells #[.int .i64 1] 3)) (.slice p n cap) (itl x) ∧ (itl x).length = n) := ⟨(HA.out.1.up H0.out).up (up_alloc _ _), HA.out.2.2⟩
    go_wp2_with (at_builtin; refine wpList_appendK numT (by decide) rfl (.tmp 32) (.tmp 33) rfl w1.heap.size _ [1] rfl HO.out _ (itl x) rfl HN0.out.1 (by rw [HN0.out.2]; simp; omega) (up_alloc w1 _).size w1 (up_alloc w1 _) ?_; intro v5 w5 HO5 hB5; clear HO HN0)
    rw [show ([1] : List Int) ++ itl x = itl (1 :: x) from HLX.out] at HO5
    have H5 : Hid (Nums .i64 w5 v5 (itl (1 :: x)) ∧ Below w.heap.size w w5) := ⟨HO5.out.nums, bstep H0.out hB5⟩
    clear HO5 hB5 H0
    have c3 := place_any v5 (itl (1 :: x)) HRX.out a w5 H5.out.1
    rw [HQ.out.1, HQ.out.2.1] at c3
    go_wp2_with fail
    refine c3.mono ?_
    rintro e w6 ⟨v6, rfl, ho, hb⟩
    have H6 : Hid (OwnK .i64 3 w6 w5.heap.size v6 (0 :: P) ∧ Nums .i64 w6 v5 (itl (1 :: x)) ∧ Below w.heap.size w w6) := ⟨ho, H5.out.1.up hb, bstep H5.out.2 hb⟩
    clear ho hb c3 H5
    have c4 := place_any _ (itl x) HA.out.2.1 a w6 (HA.out.1.up H6.out.2.2)
    rw [HQ.out.2.2.1, HQ.out.2.2.2.1] at c4
    go_wp2_with fail
    refine c4.mono ?_
    rintro e w7 ⟨v7, rfl, ho, hb⟩
    have H7 : Hid (OwnK .i64 3 w7 w5.heap.size v6 (0 :: P) ∧ Nums .i64 w7 v5 (itl (1 :: x)) ∧ Below w.heap.size w w7 ∧ Nums .i64 w7 v7 P) := ⟨H6.out.1.up hb, H6.out.2.1.up hb, bstep H6.out.2.2 hb, ho.nums⟩
    clear ho hb c4 H6
    have c5 := from_any _ v5 (itl x) (itl (1 :: x)) HA.out.2.1 HRX.out a w7 (HA.out.1.up H7.out.2.2.1) H7.out.2.1
    rw [HQ.out.2.2.2.2.1, HQ.out.2.2.2.2.2.1] at c5
    go_wp2_with fail
    refine c5.mono ?_
    rintro e w8 ⟨rfl, hb⟩
    have H8 : Hid (OwnK .i64 3 w8 w5.heap.size v6 (0 :: P) ∧ Nums .i64 w8 v5 (itl (1 :: x)) ∧ Below w.heap.size w w8 ∧ Nums .i64 w8 v7 P) := ⟨H7.out.1.up hb, H7.out.2.1.up hb, bstep H7.out.2.2.1 hb, H7.out.2.2.2.up hb⟩
    clear hb c5 H7
    have c6 := size_any v5 (itl (1 :: x)) HRX.out w8 H8.out.2.1
    rw [HQ.out.2.2.2.2.2.2.1] at c6
    go_wp2_with fail
    refine c6.mono ?_
    rintro e w9 ⟨rfl, rfl⟩
    clear c6
    have c7 := size_any _ (itl x) HA.out.2.1 w9 (HA.out.1.up H8.out.2.2.1)
    rw [HQ.out.2.2.2.2.2.2.2] at c7
    go_wp2_with fail
    refine c7.mono ?_
    rintro e w10 ⟨rfl, rfl⟩
    clear c7
    obtain ⟨g, c, ev6, _⟩ := H8.out.1.at (by simp)
    subst ev6
    have hcell := (H8.out.1.cell rfl 0 (by simp)).1
    rw [show (0 :: P : List Int).getD 0 0 = 0 from rfl] at hcell
    have hcut := cut1_nums rfl H8.out.1.room H8.out.1.nums
    have c8 := fun u (hu : Nums .i64 w10 u P) => same_any u v7 P P (by rw [HPL.out]; omega) w10 hu H8.out.2.2.2
    rw [decide_eq_true rfl] at c8
    have hroom := H8.out.1.room
    rw [List.length_cons] at hroom
    have H9 : Hid (Below w.heap.size w w10) := H8.out.2.2.1
    have hlen : ((P.length : Nat) : Int) ≤ 3 := by rw [HPL.out]; omega
    clear H8
    by_cases hc : c = 1
    · subst hc
      have hP0 : P.length = 0 := by omega
      have HC : Hid (Nums .i64 w10 (.slice (some ⟨g, 0, none⟩) P.length 0) P) := hcut
      clear hcut hP0 hroom
      go_wp2_with fail
      refine (c8 _ ?_).mono ?_
      · exact HC.out
      rintro e w11 ⟨rfl, d, hw⟩
      have H11 : Hid (Below w.heap.size w w11) := by rw [hw]; exact below_drew H9.out d
      clear c8 hw
      go_wp2
      go_ret
      exact ⟨rfl, H11.out⟩
    · unfold sliced at hcut
      rw [if_neg hc] at hcut
      have HC : Hid (Nums .i64 w10 (.slice (some ⟨g, 1, none⟩) P.length (c - 1)) P) := hcut
      clear hcut
      go_wp2_with fail
      refine (c8 _ ?_).mono ?_
      · exact HC.out
      rintro e w11 ⟨rfl, d, hw⟩
      have H11 : Hid (Below w.heap.size w w11) := by rw [hw]; exact below_drew H9.out d
      clear c8 hw
      go_wp2
      go_ret
      exact ⟨rfl, H11.out⟩
  · rw [decide_eq_false hg] at c1
    clear hg
    go_wp2_with fail
    refine c1.mono ?_
    rintro e w1 ⟨rfl, rfl⟩
    go_wp2
    go_ret
    exact ⟨rfl, H0.out⟩
end Go.Proofs.Ythcbgmepkmimoab.Wd
