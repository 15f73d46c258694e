/- TensBack: sides that change places and back are as they were; a shape and back, too. -/
import Derived.Test.YtbndiadgnglkhaaTenM
import Derived.Test.YtbndiadgnglkhaaTenT
namespace Go.Proofs.Ytbndiadgnglkhaa.Wd
open Go.RowKit
set_option linter.unusedVariables false
set_option linter.unusedSimpArgs false
theorem map_as {x : List Int} {N : Nat} {f : Nat → Int} (hl : x.length = N) (h : ∀ i, i < N → f i = x.getD i 0) : (List.range N).map f = x := by
  refine List.ext_getElem (by simp [hl]) fun i h1 h2 => ?_
  rw [List.getElem_map, List.getElem_range, h i (by omega), getD_lt x i 0 h2]
theorem tn_numsB {D X : List Int} {p p2 : Option Addr} {n c n2 c2 : Nat} {W : World} (h : Tn D X (.agg #[.slice p n c, .slice p2 n2 c2]) W) : Nums .i64 W (.slice p n c) D ∧ Nums .i64 W (.slice p2 n2 c2) X := by
  obtain ⟨p', n', c', p2', n2', c2', e, h1, h2⟩ := h
  cases e
  exact ⟨h1, h2⟩
theorem ordP_of {n : Nat} {r : List Nat} (h : orderN n r) : ordP (itl r) n := by
  refine ⟨by rw [itl_len]; exact h.1, fun k hk => ?_, fun i hi k hk e => ?_⟩
  · rw [itl_getD]
    have : r.getD k 0 < n := by
      rw [getD_lt r k 0 (by rw [h.1]; exact hk)]
      exact h.2.1 _ (List.getElem_mem _)
    omega
  · rw [itl_getD, itl_getD] at e
    exact order_inj h i k hi hk (by omega)
theorem back_all {d x o : List Int} {a r : List Nat} (h : Turns d x o a r) :
    turnE (itl (dimsT a r)) ((List.range (prodN a)).map fun i => x.getD (turnI a r i) 0) (itl (backN r a.length)) = 0 ∧ turnD (itl (dimsT a r)) ((List.range (prodN a)).map fun i => x.getD (turnI a r i) 0) (itl (backN r a.length)) = d ∧ turnV (itl (dimsT a r)) ((List.range (prodN a)).map fun i => x.getD (turnI a r i) 0) (itl (backN r a.length)) = x := by
  have hl : (dimsT a r).length = a.length := by rw [dimsT_len, h.or.1]
  have hg := good_turn h.ga h.or
  have ho : orderN (dimsT a r).length (backN r a.length) := by rw [hl]; exact backN_order h.or
  have hT : Turns (itl (dimsT a r)) ((List.range (prodN a)).map fun i => x.getD (turnI a r i) 0) (itl (backN r a.length)) (dimsT a r) (backN r a.length) := ⟨rfl, rfl, hg, ho, by rw [List.length_map, List.length_range, prodN_turn h.or]⟩
  have hp : turnP (itl (dimsT a r)) ((List.range (prodN a)).map fun i => x.getD (turnI a r i) 0) (itl (backN r a.length)) := ⟨⟨by rw [ntl_itl]; exact hg, by rw [ntl_itl]; exact hT.lx⟩, by rw [itl_len]; exact ordP_of ho⟩
  obtain ⟨e1, e2, e3⟩ := hT.V hp
  refine ⟨e1, by rw [e2, dims_back h.or]; exact h.da.symm, ?_⟩
  rw [e3, prodN_turn h.or]
  refine map_as h.lx fun i hi => ?_
  have hlt := turnI_lt hg ho i (by rw [prodN_turn h.or]; exact hi)
  rw [prodN_turn h.or] at hlt
  rw [getD_map_range _ _ _ _ hlt, turn_back h.ga h.or i hi]
theorem shp_zero {d x d' : List Int} (h : shpE d x d' = 0) : isP d x ∧ goodN (ntl d') ∧ prodN (ntl d') = x.length ∧ shpD d x d' = d' ∧ shpV d x d' = x := by
  unfold shpE at h
  by_cases hp : isP d x ∧ goodN (ntl d')
  · rw [if_pos hp] at h
    by_cases hq : prodN (ntl d') = x.length
    · exact ⟨hp.1, hp.2, hq, if_pos ⟨hp, hq⟩, if_pos ⟨hp, hq⟩⟩
    · rw [if_neg hq] at h; cases h
  · rw [if_neg hp] at h; cases h
theorem shp_back {d x d' : List Int} (h : shpE d x d' = 0) : shpE d' x d = 0 ∧ shpD d' x d = d ∧ shpV d' x d = x := by
  obtain ⟨h1, h2, h3, _⟩ := shp_zero h
  have hp : isP d' x ∧ goodN (ntl d) := ⟨⟨h2, h3.symm⟩, h1.1⟩
  unfold shpE shpD shpV
  rw [if_pos hp, if_pos h1.2.symm, if_pos ⟨hp, h1.2.symm⟩, if_pos ⟨hp, h1.2.symm⟩]
  exact ⟨rfl, rfl, rfl⟩
theorem turn_zero {d x o : List Int} (h : turnE d x o = 0) : turnP d x o := by
  by_cases hp : turnP d x o
  · exact hp
  · rw [(turn_none hp).1] at h; cases h
set_option maxRecDepth 8000 in
set_option maxHeartbeats 8000000 in
theorem tback_walk (w : World) (za : Nat → Int) (n c : Nat) (p : Option Addr) (zb : Nat → Int) (n2 c2 : Nat) (p2 : Option Addr) (zc : Nat → Int) (n3 c3 : Nat) (p3 : Option Addr) (zd : Nat → Int) (n4 c4 : Nat) (p4 : Option Addr)
    (r1 : RowN .i64 w p n c za) (r2 : RowN .i64 w p2 n2 c2 zb) (r3 : RowN .i64 w p3 n3 c3 zc) (r4 : RowN .i64 w p4 n4 c4 zd) :
    Calls Try.prog 8 #[.agg #[.slice p n c, .slice p2 n2 c2], .slice p3 n3 c3, .slice p4 n4 c4] w fun e w' => e = .returned (.bool true) ∧ Below w.heap.size w w' := by
  have HA : Hid (Nums .i64 w (.slice p n c) (nlst n za) ∧ Nums .i64 w (.slice p2 n2 c2) (nlst n2 zb) ∧ Nums .i64 w (.slice p3 n3 c3) (nlst n3 zc) ∧ Nums .i64 w (.slice p4 n4 c4) (nlst n4 zd)) := ⟨r1.nums, r2.nums, r3.nums, r4.nums⟩
  have HI : Hid (RI (nlst n za) ∧ RI (nlst n2 zb) ∧ RI (nlst n3 zc) ∧ RI (nlst n4 zd)) := ⟨r1.riI, r2.riI, r3.riI, r4.riI⟩
  have HF : Hid (Few (nlst n za) ∧ Few (nlst n2 zb)) := ⟨r1.few, r2.few⟩
  obtain ⟨d, ed⟩ : ∃ d, nlst n za = d := ⟨_, rfl⟩
  obtain ⟨x, ex⟩ : ∃ x, nlst n2 zb = x := ⟨_, rfl⟩
  obtain ⟨o, eo⟩ : ∃ d, nlst n3 zc = d := ⟨_, rfl⟩
  obtain ⟨d', ed'⟩ : ∃ y, nlst n4 zd = y := ⟨_, rfl⟩
  rw [ed, ex, eo, ed'] at HA HI
  rw [ed, ex] at HF
  clear ed ex eo ed' r1 r2 r3 r4
  obtain ⟨_, _, _, e4, HO⟩ := HA.out.2.2.1.lst
  cases e4
  have HTa : Hid (∀ W, Below w.heap.size w W → Tn d x (.agg #[.slice p n c, .slice p2 n2 c2]) W) := fun W hW => ⟨_, _, _, _, _, _, rfl, HA.out.1.up hW, HA.out.2.1.up hW⟩
  haveI : Nonempty World := ⟨w⟩
  go_enter Try.func8, Try.ntmps8
  go_wp2_with fail
  generalize hW0 : World.alloc _ _ = W0
  have HB_W0 : Hid (Below w.heap.size w W0) := by show Below _ _ _; rw [← hW0]; go_grown
  have XA_v0 : Hid (Cel W0 w.heap.size (.slice p n c) (.slice p2 n2 c2)) := by show Cel _ _ _ _; unfold Cel; rw [← hW0]; simp [go_sem]
  clear hW0
  refine (tawake_any W0).mono ?_
  rintro e wa ⟨rfl, hBa⟩
  have HB_wa : Hid (Below w.heap.size w wa) := bstep HB_W0.out hBa
  have XA_v1 : Hid (Cel wa w.heap.size (.slice p n c) (.slice p2 n2 c2)) := XA_v0.out.up hBa
  clear XA_v0
  clear hBa
  have cg := great_any p p2 n c n2 c2 300 (by decide) wa
  by_cases hga : 10 < n ∨ 300 < n2
  · rw [decide_eq_true hga] at cg
    obtain ⟨xa0, xa1, _, _⟩ := XA_v1.out
    have xaz := cell_lt xa0
    go_wp2_with fail
    refine (cg).mono ?_
    rintro e wb ⟨rfl, hBwb⟩
    have HB_wb : Hid (Below w.heap.size w wb) := bstep HB_wa.out hBwb
    have XA_v2 : Hid (Cel wb w.heap.size (.slice p n c) (.slice p2 n2 c2)) := XA_v1.out.up hBwb
    clear XA_v1
    clear hBwb xa0 xa1 xaz
    go_wp2
    go_ret
    exact ⟨rfl, HB_wb.out⟩
  rw [decide_eq_false hga] at cg
  by_cases hn3 : 4 < n3
  · have hn3' : (4 : Int) < (n3 : Int) := by omega
    obtain ⟨xa0, xa1, _, _⟩ := XA_v1.out
    have xaz := cell_lt xa0
    go_wp2_with fail
    refine (cg).mono ?_
    rintro e wb ⟨rfl, hBwb⟩
    have HB_wb : Hid (Below w.heap.size w wb) := bstep HB_wa.out hBwb
    have XA_v2 : Hid (Cel wb w.heap.size (.slice p n c) (.slice p2 n2 c2)) := XA_v1.out.up hBwb
    clear XA_v1
    clear hBwb xa0 xa1 xaz
    go_wp2
    go_ret
    exact ⟨rfl, HB_wb.out⟩
  have hn3' : (n3 : Int) ≤ 4 := by omega
  by_cases hn4 : 4 < n4
  · have hn4' : (4 : Int) < (n4 : Int) := by omega
    obtain ⟨xa0, xa1, _, _⟩ := XA_v1.out
    have xaz := cell_lt xa0
    go_wp2_with fail
    refine (cg).mono ?_
    rintro e wb ⟨rfl, hBwb⟩
    have HB_wb : Hid (Below w.heap.size w wb) := bstep HB_wa.out hBwb
    have XA_v2 : Hid (Cel wb w.heap.size (.slice p n c) (.slice p2 n2 c2)) := XA_v1.out.up hBwb
    clear XA_v1
    clear hBwb xa0 xa1 xaz
    go_wp2
    go_ret
    exact ⟨rfl, HB_wb.out⟩
  have hn4' : (n4 : Int) ≤ 4 := by omega
  obtain ⟨xa0, xa1, _, _⟩ := XA_v1.out
  have xaz := cell_lt xa0
  go_wp2_with fail
  refine (cg).mono ?_
  rintro e wb ⟨rfl, hBwb⟩
  have HB_wb : Hid (Below w.heap.size w wb) := bstep HB_wa.out hBwb
  have XA_v2 : Hid (Cel wb w.heap.size (.slice p n c) (.slice p2 n2 c2)) := XA_v1.out.up hBwb
  clear XA_v1
  clear hBwb xa0 xa1 xaz
  clear cg hga
  have k1 := tturn_any p p2 p3 n c n2 c2 n3 c3 d x o HI.out.1 HI.out.2.2.1 wb (HA.out.1.up HB_wb.out) (HA.out.2.1.up HB_wb.out) (HA.out.2.2.1.up HB_wb.out)
  have q3 : Hid (∀ W, Below w.heap.size w W → Calls Try.prog 13 #[.agg #[.slice p n c, .slice p2 n2 c2], .slice p4 n4 c4] W fun e w' => ∃ v', e = .returned (.tuple #[v', .int .i64 (shpE d x d')]) ∧ TRes w' W.heap.size v' (shpD d x d') (shpV d x d') ∧ Below W.heap.size W w') := fun W hW => treshape_any p p2 p4 n c n2 c2 n4 c4 d x d' HI.out.1 HI.out.2.2.2 W (HA.out.1.up hW) (HA.out.2.1.up hW) (HA.out.2.2.2.up hW)
  by_cases hE : turnE d x o = 0
  · have ht := turn_zero hE
    obtain ⟨a, r, hT⟩ := turns ht
    obtain ⟨e1, e2, e3⟩ := hT.V ht
    rw [e1, e2, e3] at k1
    have hb := back_all hT
    have ha : a.length = n3 := by rw [← HO.out.1, hT.dr, itl_len, hT.or.1]
    rw [ha] at hb
    obtain ⟨DT, eDT⟩ : ∃ D, itl (dimsT a r) = D := ⟨_, rfl⟩
    obtain ⟨VT, eVT⟩ : ∃ V, ((List.range (prodN a)).map fun i => x.getD (turnI a r i) 0) = V := ⟨_, rfl⟩
    obtain ⟨BK, eBK⟩ : ∃ B, itl (backN r n3) = B := ⟨_, rfl⟩
    rw [eDT, eVT, eBK] at hb
    rw [eDT, eVT] at k1
    have hRB : RI BK := by
      rw [← eBK]
      refine RI_itl fun y hy => ?_
      have h1 := backN_order hT.or
      rw [ha] at h1
      have := h1.2.1 y hy
      omega
    have HT : Hid (Turns d x o a r ∧ a.length = n3 ∧ itl (backN r n3) = BK ∧ RI DT ∧ RI BK) := ⟨hT, ha, eBK, by rw [← eDT]; exact RI_itl (good_turn hT.ga hT.or).le, hRB⟩
    clear hRB
    have Hb : Hid (turnE DT VT BK = 0 ∧ turnD DT VT BK = d ∧ turnV DT VT BK = x) := hb
    clear ht hT e1 e2 e3 hb ha eDT eVT eBK hE
    obtain ⟨xa0, xa1, _, _⟩ := XA_v2.out
    have xaz := cell_lt xa0
    go_wp2_with fail
    refine k1.mono ?_
    rintro e w1 ⟨v1, rfl, ⟨s1, t1, rfl, hs1, ht1⟩, hB1⟩
    obtain ⟨ps1, ns1, cs1, rfl, _⟩ := hs1.nums.lst
    obtain ⟨pt1, nt1, ct1, rfl, _⟩ := ht1.nums.lst
    have HB_w1 : Hid (Below w.heap.size w w1) := bstep HB_wb.out hB1
    have XA_v3 : Hid (Cel w1 w.heap.size (.slice p n c) (.slice p2 n2 c2)) := XA_v2.out.up hB1
    clear XA_v2
    have T1w : Hid (Tn DT VT (.agg #[.slice ps1 ns1 cs1, .slice pt1 nt1 ct1]) w1) := ⟨_, _, _, _, _, _, rfl, hs1.nums, ht1.nums⟩
    clear k1 hs1 ht1 hB1 xa0 xa1 xaz
    have hBA := blit HB_w1.out (.cells #[.slice ps1 ns1 cs1, .slice pt1 nt1 ct1] 27)
    obtain ⟨Wx, hWx⟩ : ∃ Wx, w1.alloc (.cells #[.slice ps1 ns1 cs1, .slice pt1 nt1 ct1] 27) = Wx := ⟨_, rfl⟩
    have HWx : Hid (w1.alloc (.cells #[.slice ps1 ns1 cs1, .slice pt1 nt1 ct1] 27) = Wx) := hWx
    have hBx : Below w1.heap.size w1 Wx := by rw [← hWx]; exact up_alloc w1 _
    have X1x : Hid (Cel Wx w1.heap.size (.slice ps1 ns1 cs1) (.slice pt1 nt1 ct1)) := by show Cel _ _ _ _; unfold Cel; rw [← hWx]; simp [go_sem]
    have HB_Wx : Hid (Below w.heap.size w Wx) := bstep HB_w1.out hBx
    have XA_v4 : Hid (Cel Wx w.heap.size (.slice p n c) (.slice p2 n2 c2)) := XA_v3.out.up hBx
    clear XA_v3
    have T1_v4 : Hid (Tn DT VT (.agg #[.slice ps1 ns1 cs1, .slice pt1 nt1 ct1]) Wx) := T1w.out.up hBx
    have X1_v4 : Hid (Cel Wx w1.heap.size (.slice ps1 ns1 cs1) (.slice pt1 nt1 ct1)) := X1x
    have hsz : (w1.alloc (.cells #[.slice ps1 ns1 cs1, .slice pt1 nt1 ct1] 27)).heap.size = w1.heap.size + 1 := Array.size_push _
    clear T1w X1x hBx hWx
    go_wp2_with (at_make; refine wpList_makeK numT (by decide) _ rfl (.tmp 40) (.tmp 40) rfl .i64 .i64 n3 n3 n3 rfl rfl rfl rfl (by omega) w.heap.size w hBA.size hBA ?_; intro Wm HOm Bm Bm'; clear Bm'; rw [HWx.out] at HOm Bm)
    obtain ⟨gb, hgb⟩ : ∃ gb, Wx.heap.size = gb := ⟨_, rfl⟩
    have hgb2 : w1.heap.size + 1 = gb := by rw [← hgb, ← HWx.out]; exact hsz.symm
    rw [hgb] at HOm
    rw [show List.replicate n3 (0 : Int) = itl (unpK r (List.range n3) n3 0) by unfold itl unpK; rw [List.map_replicate]; rfl] at HOm
    have Hgb : Hid (Wx.heap.size = gb) := hgb
    have HBm : Hid (Below Wx.heap.size Wx Wm) := Bm
    try rw [hgb2]
    try rw [hgb]
    clear hgb hgb2 Bm hBA hsz
    go_loopg [10] n3 (fun gg i wr => ∃ (k : Nat), k ≤ n3 ∧ gg = n3 - k ∧ i = .int .i64 (k : Int) ∧ Hid (OwnK .i64 3 wr gb (.slice (some ⟨gb, 0, none⟩) n3 n3) (itl (unpK r (List.range n3) n3 k))) ∧ Hid (Below Wx.heap.size Wx wr))
    case atStart => exact ⟨0, by omega, by omega, by first | rfl | simp, HOm, HBm⟩
    case round =>
      obtain ⟨k, hk, hgk, rfl, HQ, hBS⟩ := hrel
      obtain ⟨R1, hR1⟩ : ∃ R1 : World, R1 = wr := ⟨_, rfl⟩
      subst hR1
      by_cases hkn : k < n3
      · have hk' : (k : Int) < (n3 : Int) := by omega
        obtain ⟨q3_, o3, rfl, hc0⟩ := HO.out.2 k hkn
        have hc1 := cell_low hc0 (bstep HB_Wx.out hBS.out)
        have hkr : k < r.length := by rw [HT.out.1.or.1, HT.out.2.1]; exact hkn
        rw [HT.out.1.dr, itl_getD] at hc1
        obtain ⟨j, ej⟩ : ∃ j, r.getD k 0 = j := ⟨_, rfl⟩
        have hj : j < n3 := by
          rw [← ej, getD_lt r k 0 hkr, ← HT.out.2.1]
          exact HT.out.1.or.2.1 _ (List.getElem_mem _)
        have hj' : (j : Int) < (n3 : Int) := by omega
        rw [ej] at hc1
        obtain ⟨hown, hfz⟩ := HQ.out.cell (by rw [itl_len, unpK_len]) j hj
        have H9 : Hid (OwnK .i64 3 (R1.setCell ⟨gb, j, none⟩ (.int .i64 (k : Int))) gb (.slice (some ⟨gb, 0, none⟩) n3 n3) (itl (unpK r (List.range n3) n3 (k + 1)))) := by
          have := HQ.out.store (by rw [itl_len, unpK_len]) j (k : Int)
          rw [← itl_set] at this
          show OwnK _ _ _ _ _ _
          rw [unpK, ej, show (List.range n3).getD k 0 = k by rw [List.getD_eq_getElem?_getD, List.getElem?_range hkn]; rfl]
          exact this
        have HB9 : Hid (Below Wx.heap.size Wx (R1.setCell ⟨gb, j, none⟩ (.int .i64 (k : Int)))) := hBS.out.setCell (p := ⟨gb, j, none⟩) (Nat.le_of_eq Hgb.out) _
        clear ej hc0 hkr
        go_wp2
        go_roundg (n3 - (k + 1))
        case measure => omega
        case rel => exact ⟨k + 1, by omega, rfl, by first | rfl | simp, H9, HB9⟩
      · obtain rfl : k = n3 := by omega
        have hbk := HQ.out
        rw [show unpK r (List.range k) k k = backN r k from rfl, HT.out.2.2.1] at hbk
        have HBK : Hid (OwnK .i64 3 R1 gb (.slice (some ⟨gb, 0, none⟩) k k) BK) := hbk
        have hBR := hBS.out
        clear hbk
        have HB_R1 : Hid (Below w.heap.size w R1) := bstep HB_Wx.out hBR
        have XA_v5 : Hid (Cel R1 w.heap.size (.slice p n c) (.slice p2 n2 c2)) := XA_v4.out.up hBR
        have T1_v5 : Hid (Tn DT VT (.agg #[.slice ps1 ns1 cs1, .slice pt1 nt1 ct1]) R1) := T1_v4.out.up hBR
        have X1_v5 : Hid (Cel R1 w1.heap.size (.slice ps1 ns1 cs1) (.slice pt1 nt1 ct1)) := X1_v4.out.up hBR
        clear XA_v4 T1_v4 X1_v4
        clear hBR
        have k2 := tturn_any ps1 pt1 (some ⟨gb, 0, none⟩) ns1 cs1 nt1 ct1 k k DT VT BK HT.out.2.2.2.1 HT.out.2.2.2.2 R1 (tn_numsB T1_v5.out).1 (tn_numsB T1_v5.out).2 HBK.out.nums
        rw [Hb.out.1, Hb.out.2.1, Hb.out.2.2] at k2
        obtain ⟨x10, x11, _, _⟩ := X1_v5.out
        have x1z := cell_lt x10
        go_wp2_with fail
        clear x10 x11 x1z
        refine (k2).mono ?_
        rintro e w2 ⟨v2, rfl, ⟨s2, t2, rfl, hs2, ht2⟩, hB2⟩
        obtain ⟨ps2, ns2, cs2, rfl, _⟩ := hs2.nums.lst
        obtain ⟨pt2, nt2, ct2, rfl, _⟩ := ht2.nums.lst
        have HB_w2 : Hid (Below w.heap.size w w2) := bstep HB_R1.out hB2
        have XA_v6 : Hid (Cel w2 w.heap.size (.slice p n c) (.slice p2 n2 c2)) := XA_v5.out.up hB2
        have T1_v6 : Hid (Tn DT VT (.agg #[.slice ps1 ns1 cs1, .slice pt1 nt1 ct1]) w2) := T1_v5.out.up hB2
        have X1_v6 : Hid (Cel w2 w1.heap.size (.slice ps1 ns1 cs1) (.slice pt1 nt1 ct1)) := X1_v5.out.up hB2
        clear XA_v5 T1_v5 X1_v5
        have T2_v6 : Hid (Tn d x (.agg #[.slice ps2 ns2 cs2, .slice pt2 nt2 ct2]) w2) := ⟨_, _, _, _, _, _, rfl, hs2.nums, ht2.nums⟩
        clear hB2 hs2 ht2 
        obtain ⟨xa0, xa1, _, _⟩ := XA_v6.out
        have xaz := cell_lt xa0
        go_wp2_with fail
        generalize hW2 : World.alloc _ _ = W2
        have hC2 : Below w2.heap.size w2 W2 := by rw [← hW2]; exact up_alloc w2 _
        have HB_W2 : Hid (Below w.heap.size w W2) := bstep HB_w2.out hC2
        have XA_v7 : Hid (Cel W2 w.heap.size (.slice p n c) (.slice p2 n2 c2)) := XA_v6.out.up hC2
        have T1_v7 : Hid (Tn DT VT (.agg #[.slice ps1 ns1 cs1, .slice pt1 nt1 ct1]) W2) := T1_v6.out.up hC2
        have X1_v7 : Hid (Cel W2 w1.heap.size (.slice ps1 ns1 cs1) (.slice pt1 nt1 ct1)) := X1_v6.out.up hC2
        have T2_v7 : Hid (Tn d x (.agg #[.slice ps2 ns2 cs2, .slice pt2 nt2 ct2]) W2) := T2_v6.out.up hC2
        clear XA_v6 T1_v6 X1_v6 T2_v6
        have X2_v7 : Hid (Cel W2 w2.heap.size (.slice ps2 ns2 cs2) (.slice pt2 nt2 ct2)) := by show Cel _ _ _ _; unfold Cel; rw [← hW2]; simp [go_sem]
        clear hW2 hC2 xa0 xa1 xaz
        clear k2
        have l2 := same_tn T2_v7.out (HTa.out W2 HB_W2.out) HF.out.1 HF.out.2
        rw [decide_eq_true ⟨rfl, rfl⟩] at l2
        refine l2.mono ?_
        rintro e y2 ⟨rfl, hy2⟩
        have HB_y2 : Hid (Below w.heap.size w y2) := bstep HB_W2.out hy2
        have XA_v8 : Hid (Cel y2 w.heap.size (.slice p n c) (.slice p2 n2 c2)) := XA_v7.out.up hy2
        have T1_v8 : Hid (Tn DT VT (.agg #[.slice ps1 ns1 cs1, .slice pt1 nt1 ct1]) y2) := T1_v7.out.up hy2
        have X1_v8 : Hid (Cel y2 w1.heap.size (.slice ps1 ns1 cs1) (.slice pt1 nt1 ct1)) := X1_v7.out.up hy2
        have T2_v8 : Hid (Tn d x (.agg #[.slice ps2 ns2 cs2, .slice pt2 nt2 ct2]) y2) := T2_v7.out.up hy2
        have X2_v8 : Hid (Cel y2 w2.heap.size (.slice ps2 ns2 cs2) (.slice pt2 nt2 ct2)) := X2_v7.out.up hy2
        clear XA_v7 T1_v7 X1_v7 T2_v7 X2_v7
        clear l2 hy2
        obtain ⟨xa0, xa1, _, _⟩ := XA_v8.out
        have xaz := cell_lt xa0
        go_wp2_with fail
        clear xa0 xa1 xaz
        have k3 := q3.out y2 HB_y2.out
        by_cases hS : shpE d x d' = 0
        · obtain ⟨_, _, _, g4, g5⟩ := shp_zero hS
          have HB4 : Hid (shpE d' x d = 0 ∧ shpD d' x d = d ∧ shpV d' x d = x) := shp_back hS
          rw [hS, g4, g5] at k3
          clear hS g4 g5
          refine (k3).mono ?_
          rintro e w3 ⟨v3, rfl, ⟨s3, t3, rfl, hs3, ht3⟩, hB3⟩
          obtain ⟨ps3, ns3, cs3, rfl, _⟩ := hs3.nums.lst
          obtain ⟨pt3, nt3, ct3, rfl, _⟩ := ht3.nums.lst
          have HB_w3 : Hid (Below w.heap.size w w3) := bstep HB_y2.out hB3
          have XA_v9 : Hid (Cel w3 w.heap.size (.slice p n c) (.slice p2 n2 c2)) := XA_v8.out.up hB3
          have T1_v9 : Hid (Tn DT VT (.agg #[.slice ps1 ns1 cs1, .slice pt1 nt1 ct1]) w3) := T1_v8.out.up hB3
          have X1_v9 : Hid (Cel w3 w1.heap.size (.slice ps1 ns1 cs1) (.slice pt1 nt1 ct1)) := X1_v8.out.up hB3
          have T2_v9 : Hid (Tn d x (.agg #[.slice ps2 ns2 cs2, .slice pt2 nt2 ct2]) w3) := T2_v8.out.up hB3
          have X2_v9 : Hid (Cel w3 w2.heap.size (.slice ps2 ns2 cs2) (.slice pt2 nt2 ct2)) := X2_v8.out.up hB3
          clear XA_v8 T1_v8 X1_v8 T2_v8 X2_v8
          have T3_v9 : Hid (Tn d' x (.agg #[.slice ps3 ns3 cs3, .slice pt3 nt3 ct3]) w3) := ⟨_, _, _, _, _, _, rfl, hs3.nums, ht3.nums⟩
          clear hB3 hs3 ht3 
          obtain ⟨xa0, xa1, _, _⟩ := XA_v9.out
          have xaz := cell_lt xa0
          go_wp2_with fail
          generalize hW3 : World.alloc _ _ = W3
          have hC3 : Below w3.heap.size w3 W3 := by rw [← hW3]; exact up_alloc w3 _
          have HB_W3 : Hid (Below w.heap.size w W3) := bstep HB_w3.out hC3
          have XA_v10 : Hid (Cel W3 w.heap.size (.slice p n c) (.slice p2 n2 c2)) := XA_v9.out.up hC3
          have T1_v10 : Hid (Tn DT VT (.agg #[.slice ps1 ns1 cs1, .slice pt1 nt1 ct1]) W3) := T1_v9.out.up hC3
          have X1_v10 : Hid (Cel W3 w1.heap.size (.slice ps1 ns1 cs1) (.slice pt1 nt1 ct1)) := X1_v9.out.up hC3
          have T2_v10 : Hid (Tn d x (.agg #[.slice ps2 ns2 cs2, .slice pt2 nt2 ct2]) W3) := T2_v9.out.up hC3
          have X2_v10 : Hid (Cel W3 w2.heap.size (.slice ps2 ns2 cs2) (.slice pt2 nt2 ct2)) := X2_v9.out.up hC3
          have T3_v10 : Hid (Tn d' x (.agg #[.slice ps3 ns3 cs3, .slice pt3 nt3 ct3]) W3) := T3_v9.out.up hC3
          clear XA_v9 T1_v9 X1_v9 T2_v9 X2_v9 T3_v9
          have X3_v10 : Hid (Cel W3 w3.heap.size (.slice ps3 ns3 cs3) (.slice pt3 nt3 ct3)) := by show Cel _ _ _ _; unfold Cel; rw [← hW3]; simp [go_sem]
          clear hW3 hC3 xa0 xa1 xaz
          clear k3
          have k4 := treshape_any ps3 pt3 p ns3 cs3 nt3 ct3 n c d' x d HI.out.2.2.2 HI.out.1 W3 (tn_numsB T3_v10.out).1 (tn_numsB T3_v10.out).2 (HA.out.1.up HB_W3.out)
          rw [HB4.out.1, HB4.out.2.1, HB4.out.2.2] at k4
          refine (k4).mono ?_
          rintro e w4 ⟨v4, rfl, ⟨s4, t4, rfl, hs4, ht4⟩, hB4⟩
          obtain ⟨ps4, ns4, cs4, rfl, _⟩ := hs4.nums.lst
          obtain ⟨pt4, nt4, ct4, rfl, _⟩ := ht4.nums.lst
          have HB_w4 : Hid (Below w.heap.size w w4) := bstep HB_W3.out hB4
          have XA_v11 : Hid (Cel w4 w.heap.size (.slice p n c) (.slice p2 n2 c2)) := XA_v10.out.up hB4
          have T1_v11 : Hid (Tn DT VT (.agg #[.slice ps1 ns1 cs1, .slice pt1 nt1 ct1]) w4) := T1_v10.out.up hB4
          have X1_v11 : Hid (Cel w4 w1.heap.size (.slice ps1 ns1 cs1) (.slice pt1 nt1 ct1)) := X1_v10.out.up hB4
          have T2_v11 : Hid (Tn d x (.agg #[.slice ps2 ns2 cs2, .slice pt2 nt2 ct2]) w4) := T2_v10.out.up hB4
          have X2_v11 : Hid (Cel w4 w2.heap.size (.slice ps2 ns2 cs2) (.slice pt2 nt2 ct2)) := X2_v10.out.up hB4
          have T3_v11 : Hid (Tn d' x (.agg #[.slice ps3 ns3 cs3, .slice pt3 nt3 ct3]) w4) := T3_v10.out.up hB4
          have X3_v11 : Hid (Cel w4 w3.heap.size (.slice ps3 ns3 cs3) (.slice pt3 nt3 ct3)) := X3_v10.out.up hB4
          clear XA_v10 T1_v10 X1_v10 T2_v10 X2_v10 T3_v10 X3_v10
          have T4_v11 : Hid (Tn d x (.agg #[.slice ps4 ns4 cs4, .slice pt4 nt4 ct4]) w4) := ⟨_, _, _, _, _, _, rfl, hs4.nums, ht4.nums⟩
          clear hB4 hs4 ht4 
          obtain ⟨xa0, xa1, _, _⟩ := XA_v11.out
          have xaz := cell_lt xa0
          go_wp2_with fail
          generalize hW4 : World.alloc _ _ = W4
          have hC4 : Below w4.heap.size w4 W4 := by rw [← hW4]; exact up_alloc w4 _
          have HB_W4 : Hid (Below w.heap.size w W4) := bstep HB_w4.out hC4
          have XA_v12 : Hid (Cel W4 w.heap.size (.slice p n c) (.slice p2 n2 c2)) := XA_v11.out.up hC4
          have T1_v12 : Hid (Tn DT VT (.agg #[.slice ps1 ns1 cs1, .slice pt1 nt1 ct1]) W4) := T1_v11.out.up hC4
          have X1_v12 : Hid (Cel W4 w1.heap.size (.slice ps1 ns1 cs1) (.slice pt1 nt1 ct1)) := X1_v11.out.up hC4
          have T2_v12 : Hid (Tn d x (.agg #[.slice ps2 ns2 cs2, .slice pt2 nt2 ct2]) W4) := T2_v11.out.up hC4
          have X2_v12 : Hid (Cel W4 w2.heap.size (.slice ps2 ns2 cs2) (.slice pt2 nt2 ct2)) := X2_v11.out.up hC4
          have T3_v12 : Hid (Tn d' x (.agg #[.slice ps3 ns3 cs3, .slice pt3 nt3 ct3]) W4) := T3_v11.out.up hC4
          have X3_v12 : Hid (Cel W4 w3.heap.size (.slice ps3 ns3 cs3) (.slice pt3 nt3 ct3)) := X3_v11.out.up hC4
          have T4_v12 : Hid (Tn d x (.agg #[.slice ps4 ns4 cs4, .slice pt4 nt4 ct4]) W4) := T4_v11.out.up hC4
          clear XA_v11 T1_v11 X1_v11 T2_v11 X2_v11 T3_v11 X3_v11 T4_v11
          have X4_v12 : Hid (Cel W4 w4.heap.size (.slice ps4 ns4 cs4) (.slice pt4 nt4 ct4)) := by show Cel _ _ _ _; unfold Cel; rw [← hW4]; simp [go_sem]
          clear hW4 hC4 xa0 xa1 xaz
          clear k4
          have l4 := same_tn T4_v12.out (HTa.out W4 HB_W4.out) HF.out.1 HF.out.2
          rw [decide_eq_true ⟨rfl, rfl⟩] at l4
          refine l4.mono ?_
          rintro e q4 ⟨rfl, hq4⟩
          have HB_q4 : Hid (Below w.heap.size w q4) := bstep HB_W4.out hq4
          clear l4 hq4
          go_wp2
          go_ret
          exact ⟨rfl, HB_q4.out⟩
        · obtain ⟨E3, eE3⟩ : ∃ E, shpE d x d' = E := ⟨_, rfl⟩
          obtain ⟨D3, eD3⟩ : ∃ D, shpD d x d' = D := ⟨_, rfl⟩
          obtain ⟨V3, eV3⟩ : ∃ V, shpV d x d' = V := ⟨_, rfl⟩
          rw [eE3, eD3, eV3] at k3
          rw [eE3] at hS
          have hS' : (E3 != 0) = true := by simp [hS]
          clear eE3 eD3 eV3
          refine k3.mono ?_
          rintro e w3 ⟨v3, rfl, ⟨s3, t3, rfl, hs3, ht3⟩, hB3⟩
          obtain ⟨ps3, ns3, cs3, rfl, _⟩ := hs3.nums.lst
          obtain ⟨pt3, nt3, ct3, rfl, _⟩ := ht3.nums.lst
          have HB_w3 : Hid (Below w.heap.size w w3) := bstep HB_y2.out hB3
          clear k3 hs3 ht3 hB3
          go_wp2
          go_ret
          exact ⟨rfl, blit HB_w3.out _⟩
  · obtain ⟨E1, eE1⟩ : ∃ E, turnE d x o = E := ⟨_, rfl⟩
    obtain ⟨D1, eD1⟩ : ∃ D, turnD d x o = D := ⟨_, rfl⟩
    obtain ⟨V1, eV1⟩ : ∃ V, turnV d x o = V := ⟨_, rfl⟩
    rw [eE1, eD1, eV1] at k1
    rw [eE1] at hE
    have hE' : (E1 == 0) = false := by simp [hE]
    clear eE1 eD1 eV1
    obtain ⟨xa0, xa1, _, _⟩ := XA_v2.out
    have xaz := cell_lt xa0
    go_wp2_with fail
    refine (k1).mono ?_
    rintro e w1 ⟨v1, rfl, ⟨s1, t1, rfl, hs1, ht1⟩, hB1⟩
    obtain ⟨ps1, ns1, cs1, rfl, _⟩ := hs1.nums.lst
    obtain ⟨pt1, nt1, ct1, rfl, _⟩ := ht1.nums.lst
    have HB_w1 : Hid (Below w.heap.size w w1) := bstep HB_wb.out hB1
    have XA_v3 : Hid (Cel w1 w.heap.size (.slice p n c) (.slice p2 n2 c2)) := XA_v2.out.up hB1
    clear XA_v2
    have T1_v3 : Hid (Tn D1 V1 (.agg #[.slice ps1 ns1 cs1, .slice pt1 nt1 ct1]) w1) := ⟨_, _, _, _, _, _, rfl, hs1.nums, ht1.nums⟩
    clear hB1 hs1 ht1 xa0 xa1 xaz
    obtain ⟨xa0, xa1, _, _⟩ := XA_v3.out
    have xaz := cell_lt xa0
    go_wp2_with fail
    generalize hW1 : World.alloc _ _ = W1
    have hC1 : Below w1.heap.size w1 W1 := by rw [← hW1]; exact up_alloc w1 _
    have HB_W1 : Hid (Below w.heap.size w W1) := bstep HB_w1.out hC1
    have XA_v4 : Hid (Cel W1 w.heap.size (.slice p n c) (.slice p2 n2 c2)) := XA_v3.out.up hC1
    have T1_v4 : Hid (Tn D1 V1 (.agg #[.slice ps1 ns1 cs1, .slice pt1 nt1 ct1]) W1) := T1_v3.out.up hC1
    clear XA_v3 T1_v3
    have X1_v4 : Hid (Cel W1 w1.heap.size (.slice ps1 ns1 cs1) (.slice pt1 nt1 ct1)) := by show Cel _ _ _ _; unfold Cel; rw [← hW1]; simp [go_sem]
    clear hW1 hC1 xa0 xa1 xaz
    clear k1
    have k3 := q3.out W1 HB_W1.out
    by_cases hS : shpE d x d' = 0
    · obtain ⟨_, _, _, g4, g5⟩ := shp_zero hS
      have HB4 : Hid (shpE d' x d = 0 ∧ shpD d' x d = d ∧ shpV d' x d = x) := shp_back hS
      rw [hS, g4, g5] at k3
      clear hS g4 g5
      refine (k3).mono ?_
      rintro e w3 ⟨v3, rfl, ⟨s3, t3, rfl, hs3, ht3⟩, hB3⟩
      obtain ⟨ps3, ns3, cs3, rfl, _⟩ := hs3.nums.lst
      obtain ⟨pt3, nt3, ct3, rfl, _⟩ := ht3.nums.lst
      have HB_w3 : Hid (Below w.heap.size w w3) := bstep HB_W1.out hB3
      have XA_v5 : Hid (Cel w3 w.heap.size (.slice p n c) (.slice p2 n2 c2)) := XA_v4.out.up hB3
      have T1_v5 : Hid (Tn D1 V1 (.agg #[.slice ps1 ns1 cs1, .slice pt1 nt1 ct1]) w3) := T1_v4.out.up hB3
      have X1_v5 : Hid (Cel w3 w1.heap.size (.slice ps1 ns1 cs1) (.slice pt1 nt1 ct1)) := X1_v4.out.up hB3
      clear XA_v4 T1_v4 X1_v4
      have T3_v5 : Hid (Tn d' x (.agg #[.slice ps3 ns3 cs3, .slice pt3 nt3 ct3]) w3) := ⟨_, _, _, _, _, _, rfl, hs3.nums, ht3.nums⟩
      clear hB3 hs3 ht3 
      obtain ⟨xa0, xa1, _, _⟩ := XA_v5.out
      have xaz := cell_lt xa0
      go_wp2_with fail
      generalize hW3 : World.alloc _ _ = W3
      have hC3 : Below w3.heap.size w3 W3 := by rw [← hW3]; exact up_alloc w3 _
      have HB_W3 : Hid (Below w.heap.size w W3) := bstep HB_w3.out hC3
      have XA_v6 : Hid (Cel W3 w.heap.size (.slice p n c) (.slice p2 n2 c2)) := XA_v5.out.up hC3
      have T1_v6 : Hid (Tn D1 V1 (.agg #[.slice ps1 ns1 cs1, .slice pt1 nt1 ct1]) W3) := T1_v5.out.up hC3
      have X1_v6 : Hid (Cel W3 w1.heap.size (.slice ps1 ns1 cs1) (.slice pt1 nt1 ct1)) := X1_v5.out.up hC3
      have T3_v6 : Hid (Tn d' x (.agg #[.slice ps3 ns3 cs3, .slice pt3 nt3 ct3]) W3) := T3_v5.out.up hC3
      clear XA_v5 T1_v5 X1_v5 T3_v5
      have X3_v6 : Hid (Cel W3 w3.heap.size (.slice ps3 ns3 cs3) (.slice pt3 nt3 ct3)) := by show Cel _ _ _ _; unfold Cel; rw [← hW3]; simp [go_sem]
      clear hW3 hC3 xa0 xa1 xaz
      clear k3
      have k4 := treshape_any ps3 pt3 p ns3 cs3 nt3 ct3 n c d' x d HI.out.2.2.2 HI.out.1 W3 (tn_numsB T3_v6.out).1 (tn_numsB T3_v6.out).2 (HA.out.1.up HB_W3.out)
      rw [HB4.out.1, HB4.out.2.1, HB4.out.2.2] at k4
      refine (k4).mono ?_
      rintro e w4 ⟨v4, rfl, ⟨s4, t4, rfl, hs4, ht4⟩, hB4⟩
      obtain ⟨ps4, ns4, cs4, rfl, _⟩ := hs4.nums.lst
      obtain ⟨pt4, nt4, ct4, rfl, _⟩ := ht4.nums.lst
      have HB_w4 : Hid (Below w.heap.size w w4) := bstep HB_W3.out hB4
      have XA_v7 : Hid (Cel w4 w.heap.size (.slice p n c) (.slice p2 n2 c2)) := XA_v6.out.up hB4
      have T1_v7 : Hid (Tn D1 V1 (.agg #[.slice ps1 ns1 cs1, .slice pt1 nt1 ct1]) w4) := T1_v6.out.up hB4
      have X1_v7 : Hid (Cel w4 w1.heap.size (.slice ps1 ns1 cs1) (.slice pt1 nt1 ct1)) := X1_v6.out.up hB4
      have T3_v7 : Hid (Tn d' x (.agg #[.slice ps3 ns3 cs3, .slice pt3 nt3 ct3]) w4) := T3_v6.out.up hB4
      have X3_v7 : Hid (Cel w4 w3.heap.size (.slice ps3 ns3 cs3) (.slice pt3 nt3 ct3)) := X3_v6.out.up hB4
      clear XA_v6 T1_v6 X1_v6 T3_v6 X3_v6
      have T4_v7 : Hid (Tn d x (.agg #[.slice ps4 ns4 cs4, .slice pt4 nt4 ct4]) w4) := ⟨_, _, _, _, _, _, rfl, hs4.nums, ht4.nums⟩
      clear hB4 hs4 ht4 
      obtain ⟨xa0, xa1, _, _⟩ := XA_v7.out
      have xaz := cell_lt xa0
      go_wp2_with fail
      generalize hW4 : World.alloc _ _ = W4
      have hC4 : Below w4.heap.size w4 W4 := by rw [← hW4]; exact up_alloc w4 _
      have HB_W4 : Hid (Below w.heap.size w W4) := bstep HB_w4.out hC4
      have XA_v8 : Hid (Cel W4 w.heap.size (.slice p n c) (.slice p2 n2 c2)) := XA_v7.out.up hC4
      have T1_v8 : Hid (Tn D1 V1 (.agg #[.slice ps1 ns1 cs1, .slice pt1 nt1 ct1]) W4) := T1_v7.out.up hC4
      have X1_v8 : Hid (Cel W4 w1.heap.size (.slice ps1 ns1 cs1) (.slice pt1 nt1 ct1)) := X1_v7.out.up hC4
      have T3_v8 : Hid (Tn d' x (.agg #[.slice ps3 ns3 cs3, .slice pt3 nt3 ct3]) W4) := T3_v7.out.up hC4
      have X3_v8 : Hid (Cel W4 w3.heap.size (.slice ps3 ns3 cs3) (.slice pt3 nt3 ct3)) := X3_v7.out.up hC4
      have T4_v8 : Hid (Tn d x (.agg #[.slice ps4 ns4 cs4, .slice pt4 nt4 ct4]) W4) := T4_v7.out.up hC4
      clear XA_v7 T1_v7 X1_v7 T3_v7 X3_v7 T4_v7
      have X4_v8 : Hid (Cel W4 w4.heap.size (.slice ps4 ns4 cs4) (.slice pt4 nt4 ct4)) := by show Cel _ _ _ _; unfold Cel; rw [← hW4]; simp [go_sem]
      clear hW4 hC4 xa0 xa1 xaz
      clear k4
      have l4 := same_tn T4_v8.out (HTa.out W4 HB_W4.out) HF.out.1 HF.out.2
      rw [decide_eq_true ⟨rfl, rfl⟩] at l4
      refine l4.mono ?_
      rintro e q4 ⟨rfl, hq4⟩
      have HB_q4 : Hid (Below w.heap.size w q4) := bstep HB_W4.out hq4
      clear l4 hq4
      go_wp2
      go_ret
      exact ⟨rfl, HB_q4.out⟩
    · obtain ⟨E3, eE3⟩ : ∃ E, shpE d x d' = E := ⟨_, rfl⟩
      obtain ⟨D3, eD3⟩ : ∃ D, shpD d x d' = D := ⟨_, rfl⟩
      obtain ⟨V3, eV3⟩ : ∃ V, shpV d x d' = V := ⟨_, rfl⟩
      rw [eE3, eD3, eV3] at k3
      rw [eE3] at hS
      have hS' : (E3 != 0) = true := by simp [hS]
      clear eE3 eD3 eV3
      refine k3.mono ?_
      rintro e w3 ⟨v3, rfl, ⟨s3, t3, rfl, hs3, ht3⟩, hB3⟩
      obtain ⟨ps3, ns3, cs3, rfl, _⟩ := hs3.nums.lst
      obtain ⟨pt3, nt3, ct3, rfl, _⟩ := ht3.nums.lst
      have HB_w3 : Hid (Below w.heap.size w w3) := bstep HB_W1.out hB3
      clear k3 hs3 ht3 hB3
      go_wp2
      go_ret
      exact ⟨rfl, blit HB_w3.out _⟩
end Go.Proofs.Ytbndiadgnglkhaa.Wd
