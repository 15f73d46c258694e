/- What package shape's Strides, Place, At and the reference's hand back. -/
import Derived.Test.YtbndiadgnglkhaaShpA
namespace Go.Proofs.Ytbndiadgnglkhaa.Wd
open Go.RowKit
set_option linter.unusedVariables false
set_option linter.unusedSimpArgs false
theorem numT : NumT Try.prog 23 3 .i64 8 := ⟨Try.underlying23, by kernel_rfl⟩
theorem drewN_add (w : World) (a b : Nat) : (w.drewN a).drewN b = w.drewN (a + b) := by unfold World.drewN; simp [Nat.add_assoc]
theorem Lst.up {w w' : World} {p : Option Addr} {n : Nat} {l : List Int} (h : Lst w p n l) (hB : Below w.heap.size w w') : Lst w' p n l :=
  ⟨h.1, fun j hj => by
    obtain ⟨q, o, e, hc⟩ := h.2 j hj
    exact ⟨q, o, e, still_cell hB hc⟩⟩
theorem Lst.block {w : World} {q o n : Nat} {l : List Int} (h : Lst w (some ⟨q, o, none⟩) n l) (hn : 0 < n) : q < w.heap.size := by
  obtain ⟨q', o', e, hc⟩ := h.2 0 hn
  cases e
  exact cell_block hc
theorem good_itl {l : List Int} (h : goodN (ntl l)) : ∃ d, goodN d ∧ l = itl d := ⟨ntl l, h, (itl_ntl h.2.1).symm⟩
set_option maxHeartbeats 2000000 in
theorem strides_any (v : Value) (l : List Int) (hl : RI l) (w : World) (hv : Nums .i64 w v l) :
    Calls Try.prog 34 #[v] w fun e w' => ∃ v', e = .returned v' ∧ OwnK .i64 3 w' w.heap.size v' (stridesI l) ∧ Below w.heap.size w w' := by
  have cg := good_any v l hl w hv
  obtain ⟨p, n, c, rfl, HC⟩ := hv.lst
  clear hv hl
  by_cases hgood : goodN (ntl l)
  · rw [decide_eq_true hgood] at cg
    have eL : stridesI l = itl (stridesN (ntl l)) := if_pos hgood
    rw [eL]
    clear eL
    obtain ⟨d, hd, rfl⟩ := good_itl hgood
    rw [ntl_itl]
    have HD : Hid (goodN d) := hd
    obtain ⟨L, eL⟩ : ∃ L, itl (stridesN d) = L := ⟨_, rfl⟩
    have HL : Hid (itl (stridesN d) = L) := eL
    have hLn : L.length = n := by rw [← eL, itl_len, stridesN_len, ← itl_len d]; exact HC.out.1
    have HLn : Hid (L.length = n) := hLn
    have hdn : Hid (d.length = n) := by show _ = _; rw [← itl_len d]; exact HC.out.1
    rw [eL]
    have hn : n ≤ 4 := by rw [← hdn.out]; exact hd.1
    have hn' : (n : Int) ≤ 4 := by omega
    clear hgood hd eL hLn
    go_enter Try.func34, Try.ntmps34
    go_wp2_with fail
    refine cg.mono ?_
    rintro e w0 ⟨rfl, rfl⟩
    clear cg
    go_wp2_with (at_make; refine wpList_makeK numT (by decide) _ rfl (.tmp 10) (.tmp 10) rfl .i64 .i64 n n n rfl rfl rfl rfl (by omega) w0.heap.size w0 (Nat.le_refl _) (Below.refl _ _) ?_; intro w1 HO B0 B1; clear B0)
    rw [← HLn.out, ← rowB_zero L, HLn.out] at HO
    go_loopg [4, 5] n (fun gg u v wr => ∃ (k : Nat) (x i : Int), k ≤ n ∧ gg = n - k ∧ u = .int .i64 x ∧ v = .int .i64 i ∧ Hid (i = (n : Int) - 1 - (k : Int)) ∧ Hid (x = sK d k) ∧ Hid (OwnK .i64 3 wr w0.heap.size (.slice (some ⟨w0.heap.size, 0, none⟩) n n) (rowB L k)) ∧ Hid (Below w0.heap.size w0 wr))
    case atStart => exact ⟨0, 1, (n : Int) - 1, by omega, by omega, rfl, by first | rfl | simp, by show _ = _; omega, (sK_zero d).symm, HO, B1⟩
    case round =>
      obtain ⟨k, x, i, hk, hg, rfl, rfl, Hi, Hx, HR, hB⟩ := hrel
      by_cases hkn : k < n
      · obtain ⟨j, hj⟩ : ∃ j, j = n - 1 - k := ⟨_, rfl⟩
        have hij : i = (j : Int) := by have := Hi.out; omega
        subst hij
        have hjn : j < n := by omega
        have hjn' : (j : Int) < (n : Int) := by omega
        have Hj : Hid (j + k + 1 = n) := by show _ = _; omega
        clear hj
        obtain ⟨q, o, rfl, hcell⟩ := (HC.out.up hB.out).2 j hjn
        have hqB := HC.out.block (by omega)
        obtain ⟨hown, hfz⟩ := HR.out.cell (by rw [rowB_len]; exact HLn.out) j hjn
        have hx := sK_rng HD.out k
        have hx2 := sK_rng HD.out (k + 1)
        rw [sK_succ d j k (by rw [hdn.out]; exact Hj.out)] at hx2
        rw [itl_getD] at hcell
        have hy := HD.out.at j (by rw [hdn.out]; exact hjn)
        obtain ⟨y, ey⟩ : ∃ y : Int, ((d.getD j 0 : Nat) : Int) = y := ⟨_, rfl⟩
        rw [← Hx.out] at hx hx2
        obtain ⟨m, em⟩ : ∃ m, x * y = m := ⟨_, rfl⟩
        have Hm : Hid (m = sK d (k + 1)) := by show _ = _; rw [sK_succ d j k (by rw [hdn.out]; exact Hj.out), ← Hx.out, ey, em]
        have hy' : 1 ≤ y ∧ y ≤ 4096 := by omega
        rw [ey] at hcell hx2
        rw [em] at hx2
        have H2 : Hid (OwnK .i64 3 (wr.setCell ⟨w0.heap.size, j, none⟩ (.int .i64 x)) w0.heap.size (.slice (some ⟨w0.heap.size, 0, none⟩) n n) (rowB L (k + 1))) := by
          have := HR.out.store (by rw [rowB_len]; exact HLn.out) j x
          rw [show x = L.getD j 0 by rw [Hx.out, ← HL.out, strides_at d j k (by rw [hdn.out]; exact Hj.out)], rowB_set L j k (by rw [HLn.out]; exact Hj.out)] at this
          rw [show x = L.getD j 0 by rw [Hx.out, ← HL.out, strides_at d j k (by rw [hdn.out]; exact Hj.out)]]
          exact this
        have HB2 : Hid (Below w0.heap.size w0 (wr.setCell ⟨w0.heap.size, j, none⟩ (.int .i64 x))) := hB.out.setCell (p := ⟨w0.heap.size, j, none⟩) (Nat.le_refl _) _
        have hcell2 := still_cell HB2.out (show w0.cell? ⟨q, o + j, none⟩ = some (.int .i64 y) by
          obtain ⟨q', o', e', h'⟩ := HC.out.2 j hjn
          cases e'
          rw [h', itl_getD, ey])
        have hne : ¬ q = w0.heap.size := by omega
        clear ey hy
        go_wp2
        go_roundg (n - (k + 1))
        case measure => omega
        case rel => exact ⟨k + 1, m, (j : Int) - 1, by omega, rfl, by first | rfl | simp [em], by first | rfl | simp, by have := Hj.out; show _ = _; omega, Hm, H2, HB2⟩
      · obtain rfl : k = n := by omega
        have hi0 : i < 0 := by have := Hi.out; omega
        have hfin := HR.out
        rw [← HLn.out, rowB_full, HLn.out] at hfin
        have HF : Hid (OwnK .i64 3 wr w0.heap.size (.slice (some ⟨w0.heap.size, 0, none⟩) k k) L ∧ Below w0.heap.size w0 wr) := ⟨hfin, hB.out⟩
        clear hfin
        go_wp2
        exact bodyPost_ret (v := .slice (some ⟨w0.heap.size, 0, none⟩) k k) (by simp [results, Try.results34, go_sem]) rfl ⟨_, rfl, HF.out⟩
  · rw [decide_eq_false hgood] at cg
    have eL : stridesI l = [] := if_neg hgood
    rw [eL]
    clear eL hgood
    go_enter Try.func34, Try.ntmps34
    go_wp2_with fail
    refine cg.mono ?_
    rintro e w0 ⟨rfl, rfl⟩
    go_wp2
    exact bodyPost_ret (v := .slice none 0 0) (by simp [results, Try.results34, go_sem]) rfl ⟨_, rfl, OwnK.nil _ _ _ _, Below.refl _ _⟩
set_option maxHeartbeats 2000000 in
theorem rplace_any (v : Value) (l : List Int) (hl : RI l) (a : Int) (w : World) (hv : Nums .i64 w v l) :
    Calls Try.prog 54 #[v, .int .i64 a] w fun e w' => ∃ v', e = .returned (.tuple #[v', .bool (decide (0 ≤ a ∧ a < ((sizeN (ntl l) : Nat) : Int)))]) ∧ OwnK .i64 3 w' w.heap.size v' (placeI l a) ∧ Below w.heap.size w w' := by
  have cg := rgood_any v l hl w hv
  have cz := rsize_any v l hl w hv
  obtain ⟨p, n, c, rfl, HC⟩ := hv.lst
  clear hv hl
  obtain ⟨z, ez⟩ : ∃ z : Int, ((sizeN (ntl l) : Nat) : Int) = z := ⟨_, rfl⟩
  rw [ez] at cz
  by_cases hin : 0 ≤ a ∧ a < ((sizeN (ntl l) : Nat) : Int)
  · have hgood : goodN (ntl l) := (sizeN_iff _).1 (by omega)
    have eL : placeI l a = itl (placeN (ntl l) a.toNat) := if_pos hin
    rw [eL, decide_eq_true hin]
    clear eL
    rw [decide_eq_true hgood] at cg
    obtain ⟨a', rfl⟩ := Int.eq_ofNat_of_zero_le hin.1
    rw [ez] at hin
    obtain ⟨d, hd, rfl⟩ := good_itl hgood
    rw [ntl_itl] at ez ⊢
    rw [sizeN_good hd] at ez
    simp only [Int.ofNat_eq_natCast, Int.toNat_natCast] at hin ⊢
    have haz : Hid (a' < prodN d) := by show _ < _; omega
    have HD : Hid (goodN d) := hd
    obtain ⟨L, eL⟩ : ∃ L, itl (placeN d a') = L := ⟨_, rfl⟩
    have HL : Hid (itl (placeN d a') = L) := eL
    have hLn : L.length = n := by rw [← eL, itl_len, placeN_len, ← itl_len d]; exact HC.out.1
    have HLn : Hid (L.length = n) := hLn
    have hdn : Hid (d.length = n) := by show _ = _; rw [← itl_len d]; exact HC.out.1
    rw [eL]
    have hn : n ≤ 4 := by rw [← hdn.out]; exact hd.1
    have hn' : (n : Int) ≤ 4 := by omega
    have hz2 : z ≤ 4096 := by have := hd.2.2; omega
    have Ha4 : Hid (a' < 4096) := by have := hd.2.2; have := haz.out; show _ < _; omega
    obtain ⟨a, ea⟩ : ∃ a : Int, (a' : Int) = a := ⟨_, rfl⟩
    have Ha : Hid (a = aK d a' 0) := by show _ = _; rw [aK_zero, ea]
    rw [ea] at hin ⊢
    clear hgood hd eL hLn ez ea
    go_enter Try.func54, Try.ntmps54
    go_wp2_with fail
    refine cg.mono ?_
    rintro e w9 ⟨rfl, rfl⟩
    clear cg
    go_wp2_with fail
    refine cz.mono ?_
    rintro e w0 ⟨rfl, rfl⟩
    clear cz
    go_wp2_with (at_make; refine wpList_makeK numT (by decide) _ rfl (.tmp 22) (.tmp 22) rfl .i64 .i64 n n n rfl rfl rfl rfl (by omega) w0.heap.size w0 (Nat.le_refl _) (Below.refl _ _) ?_; intro w1 HO B0 B1; clear B0)
    rw [← HLn.out, ← rowB_zero L, HLn.out] at HO
    go_loopg [1, 7] n (fun gg u v wr => ∃ (k : Nat) (x i : Int), k ≤ n ∧ gg = n - k ∧ u = .int .i64 x ∧ v = .int .i64 i ∧ Hid (i = (n : Int) - 1 - (k : Int)) ∧ Hid (x = aK d a' k) ∧ Hid (OwnK .i64 3 wr w0.heap.size (.slice (some ⟨w0.heap.size, 0, none⟩) n n) (rowB L k)) ∧ Hid (Below w0.heap.size w0 wr))
    case atStart => exact ⟨0, a, (n : Int) - 1, by omega, by omega, rfl, by first | rfl | simp, by show _ = _; omega, Ha, HO, B1⟩
    case round =>
      obtain ⟨k, x, i, hk, hg, rfl, rfl, Hi, Hx, HR, hB⟩ := hrel
      by_cases hkn : k < n
      · obtain ⟨j, hj⟩ : ∃ j, j = n - 1 - k := ⟨_, rfl⟩
        have hij : i = (j : Int) := by have := Hi.out; omega
        subst hij
        have hjn : j < n := by omega
        have hjn' : (j : Int) < (n : Int) := by omega
        have Hj : Hid (j + k + 1 = n) := by show _ = _; omega
        clear hj
        obtain ⟨q, o, rfl, hcell⟩ := (HC.out.up hB.out).2 j hjn
        have hqB := HC.out.block (by omega)
        obtain ⟨hown, hfz⟩ := HR.out.cell (by rw [rowB_len]; exact HLn.out) j hjn
        have hx := aK_rng d a' k Ha4.out
        rw [← Hx.out] at hx
        rw [itl_getD] at hcell
        have hy := HD.out.at j (by rw [hdn.out]; exact hjn)
        have ep := place_at HD.out a' j k haz.out (by rw [hdn.out]; exact Hj.out)
        have eq := aK_succ d a' j k (by rw [hdn.out]; exact Hj.out)
        rw [← Hx.out] at ep eq
        obtain ⟨y, ey⟩ : ∃ y : Int, ((d.getD j 0 : Nat) : Int) = y := ⟨_, rfl⟩
        have hy' : 1 ≤ y ∧ y ≤ 4096 := by omega
        rw [ey] at hcell ep eq
        obtain ⟨m, em⟩ : ∃ m, x / y = m := ⟨_, rfl⟩
        obtain ⟨r, er⟩ : ∃ r, x % y = r := ⟨_, rfl⟩
        rw [er] at ep
        rw [em] at eq
        have Hm : Hid (m = aK d a' (k + 1)) := eq.symm
        have hm : 0 ≤ m ∧ m < 4096 := by rw [← eq]; exact aK_rng d a' (k + 1) Ha4.out
        have hr : 0 ≤ r ∧ r < y := by rw [← er]; exact ⟨Int.emod_nonneg _ (by omega), Int.emod_lt_of_pos _ (by omega)⟩
        have emt : Int.tdiv x y = m := by rw [Int.tdiv_eq_ediv_of_nonneg hx.1]; exact em
        have ert : Int.tmod x y = r := by rw [Int.tmod_eq_emod_of_nonneg hx.1]; exact er
        have H2 : Hid (OwnK .i64 3 (wr.setCell ⟨w0.heap.size, j, none⟩ (.int .i64 r)) w0.heap.size (.slice (some ⟨w0.heap.size, 0, none⟩) n n) (rowB L (k + 1))) := by
          have := HR.out.store (by rw [rowB_len]; exact HLn.out) j r
          rw [show r = L.getD j 0 by rw [← HL.out, ep], rowB_set L j k (by rw [HLn.out]; exact Hj.out)] at this
          rw [show r = L.getD j 0 by rw [← HL.out, ep]]
          exact this
        have HB2 : Hid (Below w0.heap.size w0 (wr.setCell ⟨w0.heap.size, j, none⟩ (.int .i64 r))) := hB.out.setCell (p := ⟨w0.heap.size, j, none⟩) (Nat.le_refl _) _
        have hcell2 := still_cell HB2.out (show w0.cell? ⟨q, o + j, none⟩ = some (.int .i64 y) by
          obtain ⟨q', o', e', h'⟩ := HC.out.2 j hjn
          cases e'
          rw [h', itl_getD, ey])
        have hne : ¬ q = w0.heap.size := by omega
        clear ey hy ep eq
        go_wp2
        go_roundg (n - (k + 1))
        case measure => omega
        case rel => exact ⟨k + 1, m, (j : Int) - 1, by omega, rfl, by first | rfl | simp [em], by first | rfl | simp, by have := Hj.out; show _ = _; omega, Hm, H2, HB2⟩
      · obtain rfl : k = n := by omega
        have hi0 : i < 0 := by have := Hi.out; omega
        have hfin := HR.out
        rw [← HLn.out, rowB_full, HLn.out] at hfin
        have HF : Hid (OwnK .i64 3 wr w0.heap.size (.slice (some ⟨w0.heap.size, 0, none⟩) k k) L ∧ Below w0.heap.size w0 wr) := ⟨hfin, hB.out⟩
        clear hfin
        go_wp2
        go_ret2
        exact ⟨_, rfl, HF.out⟩
  · have eL : placeI l a = [] := if_neg hin
    rw [eL, decide_eq_false hin]
    have hz0 := sizeN_iff (ntl l)
    by_cases hgood : goodN (ntl l)
    · rw [decide_eq_true hgood] at cg
      rw [ez] at hin
      clear eL hz0 ez
      by_cases ha0 : a < 0
      · go_enter Try.func54, Try.ntmps54
        go_wp2_with fail
        refine cg.mono ?_
        rintro e w9 ⟨rfl, rfl⟩
        clear hin
        go_wp2
        go_ret2
        exact ⟨_, rfl, OwnK.nil _ _ _ _, Below.refl _ _⟩
      · have haz : z ≤ a := by omega
        clear hin
        go_enter Try.func54, Try.ntmps54
        go_wp2_with fail
        refine cg.mono ?_
        rintro e w9 ⟨rfl, rfl⟩
        go_wp2_with fail
        refine cz.mono ?_
        rintro e w8 ⟨rfl, rfl⟩
        go_wp2
        go_ret2
        exact ⟨_, rfl, OwnK.nil _ _ _ _, Below.refl _ _⟩
    · rw [decide_eq_false hgood] at cg
      clear eL hz0 ez hin
      go_enter Try.func54, Try.ntmps54
      go_wp2_with fail
      refine cg.mono ?_
      rintro e w9 ⟨rfl, rfl⟩
      go_wp2
      go_ret2
      exact ⟨_, rfl, OwnK.nil _ _ _ _, Below.refl _ _⟩
set_option maxHeartbeats 2000000 in
theorem rat_any (u v : Value) (a b : List Int) (ha : RI a) (hb : RI b) (w : World) (hu : Nums .i64 w u a) (hv : Nums .i64 w v b) :
    Calls Try.prog 55 #[u, v] w fun e w' => e = .returned (.tuple #[.int .i64 (atI a b), .bool (atB a b)]) ∧ ∃ n, w' = w.drewN n := by
  have cg := rgood_any u a ha w hu
  obtain ⟨p, n, c, rfl, HA⟩ := hu.lst
  obtain ⟨p2, n2, c2, rfl, HB⟩ := hv.lst
  have HRA : Hid (RI a) := ha
  have HRB : Hid (RI b) := hb
  clear hu hv ha hb
  have bad : atB a b = false → ∀ (x : Int) (y : Bool), x = 0 → y = false → Ending.returned (.tuple #[.int .i64 x, .bool y]) = Ending.returned (.tuple #[.int .i64 (atI a b), .bool (atB a b)]) := by
    intro h x y hx hy
    subst hx hy
    unfold atI
    rw [h]
    rfl
  have HBad : Hid (atB a b = false → ∀ (x : Int) (y : Bool), x = 0 → y = false → Ending.returned (.tuple #[.int .i64 x, .bool y]) = Ending.returned (.tuple #[.int .i64 (atI a b), .bool (atB a b)])) := bad
  clear bad
  by_cases hgood : goodN (ntl a)
  · rw [decide_eq_true hgood] at cg
    have HG : Hid (goodN (ntl a)) := hgood
    have hn : n ≤ 4 := by rw [← HA.out.1, ← ntl_len]; exact hgood.1
    have hn' : (n : Int) ≤ 4 := by omega
    clear hgood
    by_cases hnn : n2 = n
    · subst hnn
      go_enter Try.func55, Try.ntmps55
      go_wp2_with fail
      refine cg.mono ?_
      rintro e w0 ⟨rfl, rfl⟩
      clear cg
      go_wp2_with fail
      go_loopg [6, 7] n2 (fun gg u v wr => ∃ (k d : Nat) (x : Int), k ≤ n2 ∧ gg = n2 - k ∧ u = .int .i64 x ∧ v = .int .i64 (k : Int) ∧ Hid (x = hK a b k ∧ ∀ i, i < k → 0 ≤ b.getD i 0 ∧ b.getD i 0 < a.getD i 0) ∧ wr = w0.drewN d)
      case atStart => exact ⟨0, 0, 0, by omega, by omega, rfl, rfl, ⟨rfl, fun i hi => by omega⟩, rfl⟩
      case round =>
        obtain ⟨k, d, x, hk, hg, rfl, rfl, Hx, rfl⟩ := hrel
        by_cases hkn : k < n2
        · have hk' : (k : Int) < (n2 : Int) := by omega
          obtain ⟨q, o, rfl, ca⟩ := HA.out.2 k hkn
          obtain ⟨q2, o2, rfl, cb⟩ := HB.out.2 k hkn
          have hka : k < a.length := by rw [HA.out.1]; exact hkn
          have hkb : k < b.length := by rw [HB.out.1]; exact hkn
          have hy := good_at HG.out k hka
          have hz := HRB.out.at k hkb
          have hl : b.length = a.length := by rw [HA.out.1, HB.out.1]
          have hx := hK_lt hl k (by omega) Hx.out.2
          have hp := good_pK HG.out k
          rw [← Hx.out.1] at hx
          have hx' : 0 ≤ x ∧ x < 4096 := by omega
          obtain ⟨y, ey⟩ : ∃ y, a.getD k 0 = y := ⟨_, rfl⟩
          obtain ⟨z, ez⟩ : ∃ z, b.getD k 0 = z := ⟨_, rfl⟩
          have HE : Hid (a.getD k 0 = y ∧ b.getD k 0 = z ∧ k < a.length ∧ k < b.length ∧ b.length = a.length) := ⟨ey, ez, hka, hkb, hl⟩
          rw [ey] at ca hy
          rw [ez] at cb hz
          clear ey ez hka hkb hl hx hp
          by_cases hz0 : z < 0
          · have hd0 : decide (z < 0) = true := decide_eq_true hz0
            have Hf : Hid (atB a b = false) := by
              show _ = _
              rcases Bool.eq_false_or_eq_true (atB a b) with h | h
              · unfold atB at h
                rw [Bool.and_eq_true] at h
                have := inB_get h.2 k HE.out.2.2.1
                rw [HE.out.2.1] at this
                omega
              · exact h
            go_wp2
            go_quiet (fail)
            go_wp2
            go_ret2
            refine ⟨HBad.out Hf.out _ _ rfl rfl, ?_⟩
            exact ⟨_, drewN_add _ _ _⟩
          have hd0 : decide (z < 0) = false := decide_eq_false hz0
          by_cases hzy : y ≤ z
          · have Hf : Hid (atB a b = false) := by
              show _ = _
              rcases Bool.eq_false_or_eq_true (atB a b) with h | h
              · unfold atB at h
                rw [Bool.and_eq_true] at h
                have := inB_get h.2 k HE.out.2.2.1
                rw [HE.out.2.1, HE.out.1] at this
                omega
              · exact h
            go_wp2
            go_quiet (fail)
            go_wp2
            go_ret2
            refine ⟨HBad.out Hf.out _ _ rfl rfl, ?_⟩
            exact ⟨_, drewN_add _ _ _⟩
          have hzy' : z < y := by omega
          have hz0' : 0 ≤ z := by omega
          obtain ⟨m, em⟩ : ∃ m, x * y = m := ⟨_, rfl⟩
          have hm : 0 ≤ m ∧ m ≤ 16777216 := by
            rw [← em]
            have h1 : 0 ≤ x * y := Int.mul_nonneg hx'.1 (by omega)
            have h2 : x * y ≤ 4096 * 4096 := Int.mul_le_mul (by omega) hy.2 (by omega) (by omega)
            omega
          have Hn : Hid (m + z = hK a b (k + 1) ∧ ∀ i, i < k + 1 → 0 ≤ b.getD i 0 ∧ b.getD i 0 < a.getD i 0) := by
            refine ⟨?_, fun i hi => ?_⟩
            · rw [hK_succ a b k HE.out.2.2.1 HE.out.2.2.2.1 (by rw [HE.out.1]; omega) (by rw [HE.out.2.1]; omega), HE.out.1, HE.out.2.1, ← Hx.out.1, em]
            · rcases Nat.lt_succ_iff_lt_or_eq.1 hi with h | rfl
              · exact Hx.out.2 i h
              · rw [HE.out.1, HE.out.2.1]; exact ⟨hz0', hzy'⟩
          obtain ⟨s, es⟩ : ∃ s, m + z = s := ⟨_, rfl⟩
          rw [es] at Hn
          go_wp2
          go_quiet (fail)
          go_wp2
          go_quiet (fail)
          go_wp2
          go_roundg (n2 - (k + 1))
          case measure => omega
          case rel => exact ⟨k + 1, _, s, by omega, rfl, by first | rfl | simp [em, es], by first | rfl | simp, Hn, by first | rfl | exact rfl⟩
        · obtain rfl : k = n2 := by omega
          have ht : atB a b = true := by
            unfold atB
            rw [decide_eq_true HG.out, inB_of (by rw [HA.out.1, HB.out.1]) (by rw [HA.out.1]; exact Hx.out.2)]
            rfl
          have Ht : Hid (x = atI a b ∧ true = atB a b) := by
            refine ⟨?_, ht.symm⟩
            unfold atI
            rw [if_pos ht, ← hK_full (by rw [HA.out.1, HB.out.1]), HA.out.1]
            exact Hx.out.1
          clear ht
          go_wp2
          go_ret2
          rw [← Ht.out.1, ← Ht.out.2]
          exact ⟨rfl, _, rfl⟩
    · have hne : ((n2 : Int) != (n : Int)) = true := by simp; omega
      have hne' : ¬ ((n2 : Int) = (n : Int)) := by omega
      have Hf : Hid (atB a b = false) := by
        show _ = _
        rcases Bool.eq_false_or_eq_true (atB a b) with h | h
        · unfold atB at h
          rw [Bool.and_eq_true] at h
          have := inB_len h.2
          rw [HA.out.1, HB.out.1] at this
          omega
        · exact h
      go_enter Try.func55, Try.ntmps55
      go_wp2_with fail
      refine cg.mono ?_
      rintro e w0 ⟨rfl, rfl⟩
      clear cg
      go_wp2
      go_ret2
      exact ⟨HBad.out Hf.out _ _ rfl rfl, 0, rfl⟩
  · rw [decide_eq_false hgood] at cg
    have Hf : Hid (atB a b = false) := by show _ = _; unfold atB; rw [decide_eq_false hgood]; rfl
    clear hgood
    go_enter Try.func55, Try.ntmps55
    go_wp2_with fail
    refine cg.mono ?_
    rintro e w0 ⟨rfl, rfl⟩
    clear cg
    go_wp2
    go_ret2
    exact ⟨HBad.out Hf.out _ _ rfl rfl, 0, rfl⟩
end Go.Proofs.Ytbndiadgnglkhaa.Wd
