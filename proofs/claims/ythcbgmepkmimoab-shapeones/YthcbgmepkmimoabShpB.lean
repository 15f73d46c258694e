/- What package shape's Strides, Place, At and the reference's hand back. -/
import Derived.Test.YthcbgmepkmimoabShpA
namespace Go.Proofs.Ythcbgmepkmimoab.Wd
open Go.RowKit
set_option linter.unusedVariables false
set_option linter.unusedSimpArgs false
theorem numT : NumT Try.prog 22 3 .i64 8 := ⟨Try.underlying22, by kernel_rfl⟩
theorem drewN_add (w : World) (a b : Nat) : (w.drewN a).drewN b = w.drewN (a + b) := by unfold World.drewN; simp [Nat.add_assoc]
theorem Lst.up {w w' : World} {p : Option Addr} {n : Nat} {l : List Int} (h : Lst w p n l) (hB : Below w.heap.size w w') : Lst w' p n l :=
  ⟨h.1, fun j hj => by
    obtain ⟨q, o, e, hc⟩ := h.2 j hj
    exact ⟨q, o, e, still_cell hB hc⟩⟩
theorem Lst.block {w : World} {q o n : Nat} {l : List Int} (h : Lst w (some ⟨q, o, none⟩) n l) (hn : 0 < n) : q < w.heap.size := by
  obtain ⟨q', o', e, hc⟩ := h.2 0 hn
  cases e
  exact cell_block hc
theorem good_itl {l : List Int} (h : goodN (ntl l)) : ∃ d, goodN d ∧ l = itl d := ⟨ntl l, h, (itl_ntl h.2.1).symm⟩
set_option maxHeartbeats 2000000 in
theorem place_any (v : Value) (l : List Int) (hl : RI l) (a : Int) (w : World) (hv : Nums .i64 w v l) :
    Calls Try.prog 7 #[v, .int .i64 a] w fun e w' => ∃ v', e = .returned (.tuple #[v', .bool (decide (0 ≤ a ∧ a < ((sizeN (ntl l) : Nat) : Int)))]) ∧ OwnK .i64 3 w' w.heap.size v' (placeI l a) ∧ Below w.heap.size w w' := by
  have cz := size_any v l hl w hv
  obtain ⟨p, n, c, rfl, HC⟩ := hv.lst
  clear hv hl
  obtain ⟨z, ez⟩ : ∃ z : Int, ((sizeN (ntl l) : Nat) : Int) = z := ⟨_, rfl⟩
  rw [ez] at cz
  by_cases hin : 0 ≤ a ∧ a < ((sizeN (ntl l) : Nat) : Int)
  · have hgood : goodN (ntl l) := (sizeN_iff _).1 (by omega)
    have eL : placeI l a = itl (placeN (ntl l) a.toNat) := if_pos hin
    rw [eL, decide_eq_true hin]
    clear eL
    obtain ⟨a', rfl⟩ := Int.eq_ofNat_of_zero_le hin.1
    rw [ez] at hin
    obtain ⟨d, hd, rfl⟩ := good_itl hgood
    rw [ntl_itl] at ez ⊢
    rw [sizeN_good hd] at ez
    simp only [Int.ofNat_eq_natCast, Int.toNat_natCast] at hin ⊢
    have haz : Hid (a' < prodN d) := by show _ < _; omega
    have HD : Hid (goodN d) := hd
    obtain ⟨L, eL⟩ : ∃ L, itl (placeN d a') = L := ⟨_, rfl⟩
    have HL : Hid (itl (placeN d a') = L) := eL
    have hLn : L.length = n := by rw [← eL, itl_len, placeN_len, ← itl_len d]; exact HC.out.1
    have HLn : Hid (L.length = n) := hLn
    have hdn : Hid (d.length = n) := by show _ = _; rw [← itl_len d]; exact HC.out.1
    rw [eL]
    have hn : n ≤ 4 := by rw [← hdn.out]; exact hd.1
    have hn' : (n : Int) ≤ 4 := by omega
    have hz2 : z ≤ 4096 := by have := hd.2.2; omega
    have Ha4 : Hid (a' < 4096) := by have := hd.2.2; have := haz.out; show _ < _; omega
    obtain ⟨a, ea⟩ : ∃ a : Int, (a' : Int) = a := ⟨_, rfl⟩
    have Ha : Hid (a = aK d a' 0) := by show _ = _; rw [aK_zero, ea]
    rw [ea] at hin ⊢
    clear hgood hd eL hLn ez ea
    go_enter Try.func7, Try.ntmps7
    go_wp2_with fail
    refine cz.mono ?_
    rintro e w0 ⟨rfl, rfl⟩
    clear cz
    go_wp2_with (at_make; refine wpList_makeK numT (by decide) _ rfl (.tmp 17) (.tmp 17) rfl .i64 .i64 n n n rfl rfl rfl rfl (by omega) w0.heap.size w0 (Nat.le_refl _) (Below.refl _ _) ?_; intro w1 HO B0 B1; clear B0)
    rw [← HLn.out, ← rowB_zero L, HLn.out] at HO
    go_loopg [1, 7] n (fun gg u v wr => ∃ (k : Nat) (x i : Int), k ≤ n ∧ gg = n - k ∧ u = .int .i64 x ∧ v = .int .i64 i ∧ Hid (i = (n : Int) - 1 - (k : Int)) ∧ Hid (x = aK d a' k) ∧ Hid (OwnK .i64 3 wr w0.heap.size (.slice (some ⟨w0.heap.size, 0, none⟩) n n) (rowB L k)) ∧ Hid (Below w0.heap.size w0 wr))
    case atStart => exact ⟨0, a, (n : Int) - 1, by omega, by omega, rfl, by first | rfl | simp, by show _ = _; omega, Ha, HO, B1⟩
    case round =>
      obtain ⟨k, x, i, hk, hg, rfl, rfl, Hi, Hx, HR, hB⟩ := hrel
      by_cases hkn : k < n
      · obtain ⟨j, hj⟩ : ∃ j, j = n - 1 - k := ⟨_, rfl⟩
        have hij : i = (j : Int) := by have := Hi.out; omega
        subst hij
        have hjn : j < n := by omega
        have hjn' : (j : Int) < (n : Int) := by omega
        have Hj : Hid (j + k + 1 = n) := by show _ = _; omega
        clear hj
        obtain ⟨q, o, rfl, hcell⟩ := (HC.out.up hB.out).2 j hjn
        have hqB := HC.out.block (by omega)
        obtain ⟨hown, hfz⟩ := HR.out.cell (by rw [rowB_len]; exact HLn.out) j hjn
        have hx := aK_rng d a' k Ha4.out
        rw [← Hx.out] at hx
        rw [itl_getD] at hcell
        have hy := HD.out.at j (by rw [hdn.out]; exact hjn)
        have ep := place_at HD.out a' j k haz.out (by rw [hdn.out]; exact Hj.out)
        have eq := aK_succ d a' j k (by rw [hdn.out]; exact Hj.out)
        rw [← Hx.out] at ep eq
        obtain ⟨y, ey⟩ : ∃ y : Int, ((d.getD j 0 : Nat) : Int) = y := ⟨_, rfl⟩
        have hy' : 1 ≤ y ∧ y ≤ 4096 := by omega
        rw [ey] at hcell ep eq
        obtain ⟨m, em⟩ : ∃ m, x / y = m := ⟨_, rfl⟩
        obtain ⟨r, er⟩ : ∃ r, x % y = r := ⟨_, rfl⟩
        rw [er] at ep
        rw [em] at eq
        have Hm : Hid (m = aK d a' (k + 1)) := eq.symm
        have hm : 0 ≤ m ∧ m < 4096 := by rw [← eq]; exact aK_rng d a' (k + 1) Ha4.out
        have hr : 0 ≤ r ∧ r < y := by rw [← er]; exact ⟨Int.emod_nonneg _ (by omega), Int.emod_lt_of_pos _ (by omega)⟩
        have emt : Int.tdiv x y = m := by rw [Int.tdiv_eq_ediv_of_nonneg hx.1]; exact em
        have ert : Int.tmod x y = r := by rw [Int.tmod_eq_emod_of_nonneg hx.1]; exact er
        have H2 : Hid (OwnK .i64 3 (wr.setCell ⟨w0.heap.size, j, none⟩ (.int .i64 r)) w0.heap.size (.slice (some ⟨w0.heap.size, 0, none⟩) n n) (rowB L (k + 1))) := by
          have := HR.out.store (by rw [rowB_len]; exact HLn.out) j r
          rw [show r = L.getD j 0 by rw [← HL.out, ep], rowB_set L j k (by rw [HLn.out]; exact Hj.out)] at this
          rw [show r = L.getD j 0 by rw [← HL.out, ep]]
          exact this
        have HB2 : Hid (Below w0.heap.size w0 (wr.setCell ⟨w0.heap.size, j, none⟩ (.int .i64 r))) := hB.out.setCell (p := ⟨w0.heap.size, j, none⟩) (Nat.le_refl _) _
        have hcell2 := still_cell HB2.out (show w0.cell? ⟨q, o + j, none⟩ = some (.int .i64 y) by
          obtain ⟨q', o', e', h'⟩ := HC.out.2 j hjn
          cases e'
          rw [h', itl_getD, ey])
        have hne : ¬ q = w0.heap.size := by omega
        clear ey hy ep eq
        go_wp2
        go_roundg (n - (k + 1))
        case measure => omega
        case rel => exact ⟨k + 1, m, (j : Int) - 1, by omega, rfl, by first | rfl | simp [em], by first | rfl | simp, by have := Hj.out; show _ = _; omega, Hm, H2, HB2⟩
      · obtain rfl : k = n := by omega
        have hi0 : i < 0 := by have := Hi.out; omega
        have hfin := HR.out
        rw [← HLn.out, rowB_full, HLn.out] at hfin
        have HF : Hid (OwnK .i64 3 wr w0.heap.size (.slice (some ⟨w0.heap.size, 0, none⟩) k k) L ∧ Below w0.heap.size w0 wr) := ⟨hfin, hB.out⟩
        clear hfin
        go_wp2
        go_ret2
        exact ⟨_, rfl, HF.out⟩
  · have eL : placeI l a = [] := if_neg hin
    rw [eL, decide_eq_false hin]
    rw [ez] at hin
    clear eL ez
    by_cases ha0 : a < 0
    · clear hin
      go_enter Try.func7, Try.ntmps7
      go_wp2
      go_ret2
      exact ⟨_, rfl, OwnK.nil _ _ _ _, Below.refl _ _⟩
    · have haz : z ≤ a := by omega
      clear hin
      go_enter Try.func7, Try.ntmps7
      go_wp2_with fail
      refine cz.mono ?_
      rintro e w8 ⟨rfl, rfl⟩
      go_wp2
      go_ret2
      exact ⟨_, rfl, OwnK.nil _ _ _ _, Below.refl _ _⟩
end Go.Proofs.Ythcbgmepkmimoab.Wd
