/- What package shape's Strides, Place, At and the reference's hand back. -/
import Derived.Test.YtbndiadgnglkhabShpA
namespace Go.Proofs.Ytbndiadgnglkhab.Wd
open Go.RowKit
set_option linter.unusedVariables false
set_option linter.unusedSimpArgs false
theorem numT : NumT Try.prog 22 3 .i64 8 := ⟨Try.underlying22, by kernel_rfl⟩
theorem drewN_add (w : World) (a b : Nat) : (w.drewN a).drewN b = w.drewN (a + b) := by unfold World.drewN; simp [Nat.add_assoc]
theorem Lst.up {w w' : World} {p : Option Addr} {n : Nat} {l : List Int} (h : Lst w p n l) (hB : Below w.heap.size w w') : Lst w' p n l :=
  ⟨h.1, fun j hj => by
    obtain ⟨q, o, e, hc⟩ := h.2 j hj
    exact ⟨q, o, e, still_cell hB hc⟩⟩
theorem Lst.block {w : World} {q o n : Nat} {l : List Int} (h : Lst w (some ⟨q, o, none⟩) n l) (hn : 0 < n) : q < w.heap.size := by
  obtain ⟨q', o', e, hc⟩ := h.2 0 hn
  cases e
  exact cell_block hc
theorem good_itl {l : List Int} (h : goodN (ntl l)) : ∃ d, goodN d ∧ l = itl d := ⟨ntl l, h, (itl_ntl h.2.1).symm⟩
set_option maxHeartbeats 2000000 in
theorem strides_any (v : Value) (l : List Int) (hl : RI l) (w : World) (hv : Nums .i64 w v l) :
    Calls Try.prog 37 #[v] w fun e w' => ∃ v', e = .returned v' ∧ OwnK .i64 3 w' w.heap.size v' (stridesI l) ∧ Below w.heap.size w w' := by
  have cg := good_any v l hl w hv
  obtain ⟨p, n, c, rfl, HC⟩ := hv.lst
  clear hv hl
  by_cases hgood : goodN (ntl l)
  · rw [decide_eq_true hgood] at cg
    have eL : stridesI l = itl (stridesN (ntl l)) := if_pos hgood
    rw [eL]
    clear eL
    obtain ⟨d, hd, rfl⟩ := good_itl hgood
    rw [ntl_itl]
    have HD : Hid (goodN d) := hd
    obtain ⟨L, eL⟩ : ∃ L, itl (stridesN d) = L := ⟨_, rfl⟩
    have HL : Hid (itl (stridesN d) = L) := eL
    have hLn : L.length = n := by rw [← eL, itl_len, stridesN_len, ← itl_len d]; exact HC.out.1
    have HLn : Hid (L.length = n) := hLn
    have hdn : Hid (d.length = n) := by show _ = _; rw [← itl_len d]; exact HC.out.1
    rw [eL]
    have hn : n ≤ 4 := by rw [← hdn.out]; exact hd.1
    have hn' : (n : Int) ≤ 4 := by omega
    clear hgood hd eL hLn
    go_enter Try.func37, Try.ntmps37
    go_wp2_with fail
    refine cg.mono ?_
    rintro e w0 ⟨rfl, rfl⟩
    clear cg
    go_wp2_with (at_make; refine wpList_makeK numT (by decide) _ rfl (.tmp 10) (.tmp 10) rfl .i64 .i64 n n n rfl rfl rfl rfl (by omega) w0.heap.size w0 (Nat.le_refl _) (Below.refl _ _) ?_; intro w1 HO B0 B1; clear B0)
    rw [← HLn.out, ← rowB_zero L, HLn.out] at HO
    go_loopg [4, 5] n (fun gg u v wr => ∃ (k : Nat) (x i : Int), k ≤ n ∧ gg = n - k ∧ u = .int .i64 x ∧ v = .int .i64 i ∧ Hid (i = (n : Int) - 1 - (k : Int)) ∧ Hid (x = sK d k) ∧ Hid (OwnK .i64 3 wr w0.heap.size (.slice (some ⟨w0.heap.size, 0, none⟩) n n) (rowB L k)) ∧ Hid (Below w0.heap.size w0 wr))
    case atStart => exact ⟨0, 1, (n : Int) - 1, by omega, by omega, rfl, by first | rfl | simp, by show _ = _; omega, (sK_zero d).symm, HO, B1⟩
    case round =>
      obtain ⟨k, x, i, hk, hg, rfl, rfl, Hi, Hx, HR, hB⟩ := hrel
      by_cases hkn : k < n
      · obtain ⟨j, hj⟩ : ∃ j, j = n - 1 - k := ⟨_, rfl⟩
        have hij : i = (j : Int) := by have := Hi.out; omega
        subst hij
        have hjn : j < n := by omega
        have hjn' : (j : Int) < (n : Int) := by omega
        have Hj : Hid (j + k + 1 = n) := by show _ = _; omega
        clear hj
        obtain ⟨q, o, rfl, hcell⟩ := (HC.out.up hB.out).2 j hjn
        have hqB := HC.out.block (by omega)
        obtain ⟨hown, hfz⟩ := HR.out.cell (by rw [rowB_len]; exact HLn.out) j hjn
        have hx := sK_rng HD.out k
        have hx2 := sK_rng HD.out (k + 1)
        rw [sK_succ d j k (by rw [hdn.out]; exact Hj.out)] at hx2
        rw [itl_getD] at hcell
        have hy := HD.out.at j (by rw [hdn.out]; exact hjn)
        obtain ⟨y, ey⟩ : ∃ y : Int, ((d.getD j 0 : Nat) : Int) = y := ⟨_, rfl⟩
        rw [← Hx.out] at hx hx2
        obtain ⟨m, em⟩ : ∃ m, x * y = m := ⟨_, rfl⟩
        have Hm : Hid (m = sK d (k + 1)) := by show _ = _; rw [sK_succ d j k (by rw [hdn.out]; exact Hj.out), ← Hx.out, ey, em]
        have hy' : 1 ≤ y ∧ y ≤ 4096 := by omega
        rw [ey] at hcell hx2
        rw [em] at hx2
        have H2 : Hid (OwnK .i64 3 (wr.setCell ⟨w0.heap.size, j, none⟩ (.int .i64 x)) w0.heap.size (.slice (some ⟨w0.heap.size, 0, none⟩) n n) (rowB L (k + 1))) := by
          have := HR.out.store (by rw [rowB_len]; exact HLn.out) j x
          rw [show x = L.getD j 0 by rw [Hx.out, ← HL.out, strides_at d j k (by rw [hdn.out]; exact Hj.out)], rowB_set L j k (by rw [HLn.out]; exact Hj.out)] at this
          rw [show x = L.getD j 0 by rw [Hx.out, ← HL.out, strides_at d j k (by rw [hdn.out]; exact Hj.out)]]
          exact this
        have HB2 : Hid (Below w0.heap.size w0 (wr.setCell ⟨w0.heap.size, j, none⟩ (.int .i64 x))) := hB.out.setCell (p := ⟨w0.heap.size, j, none⟩) (Nat.le_refl _) _
        have hcell2 := still_cell HB2.out (show w0.cell? ⟨q, o + j, none⟩ = some (.int .i64 y) by
          obtain ⟨q', o', e', h'⟩ := HC.out.2 j hjn
          cases e'
          rw [h', itl_getD, ey])
        have hne : ¬ q = w0.heap.size := by omega
        clear ey hy
        go_wp2
        go_roundg (n - (k + 1))
        case measure => omega
        case rel => exact ⟨k + 1, m, (j : Int) - 1, by omega, rfl, by first | rfl | simp [em], by first | rfl | simp, by have := Hj.out; show _ = _; omega, Hm, H2, HB2⟩
      · obtain rfl : k = n := by omega
        have hi0 : i < 0 := by have := Hi.out; omega
        have hfin := HR.out
        rw [← HLn.out, rowB_full, HLn.out] at hfin
        have HF : Hid (OwnK .i64 3 wr w0.heap.size (.slice (some ⟨w0.heap.size, 0, none⟩) k k) L ∧ Below w0.heap.size w0 wr) := ⟨hfin, hB.out⟩
        clear hfin
        go_wp2
        exact bodyPost_ret (v := .slice (some ⟨w0.heap.size, 0, none⟩) k k) (by simp [results, Try.results37, go_sem]) rfl ⟨_, rfl, HF.out⟩
  · rw [decide_eq_false hgood] at cg
    have eL : stridesI l = [] := if_neg hgood
    rw [eL]
    clear eL hgood
    go_enter Try.func37, Try.ntmps37
    go_wp2_with fail
    refine cg.mono ?_
    rintro e w0 ⟨rfl, rfl⟩
    go_wp2
    exact bodyPost_ret (v := .slice none 0 0) (by simp [results, Try.results37, go_sem]) rfl ⟨_, rfl, OwnK.nil _ _ _ _, Below.refl _ _⟩
end Go.Proofs.Ytbndiadgnglkhab.Wd
