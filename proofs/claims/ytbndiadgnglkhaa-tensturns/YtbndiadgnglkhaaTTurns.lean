/- TensTurns: a tensor scaled, in another shape, its sides in another order, folded, is as the document says. -/
import Derived.Test.YtbndiadgnglkhaaTenM
import Derived.Test.YtbndiadgnglkhaaTenH
import Derived.Test.YtbndiadgnglkhaaTenI
import Derived.Test.YtbndiadgnglkhaaTenT
import Derived.Test.YtbndiadgnglkhaaTenU
namespace Go.Proofs.Ytbndiadgnglkhaa.Wd
open Go.RowKit
set_option linter.unusedVariables false
set_option linter.unusedSimpArgs false
theorem few_lt {l : List Int} {n : Nat} (h : l.length ≤ n) (hn : n ≤ 9223372036854775807) : Few l := Nat.le_trans h hn
theorem scale_few (d x : List Int) (k : Int) (hd : Few d) (hx : Few x) : Few (scaleD d x) ∧ Few (scaleV d x k) := by
  unfold scaleD scaleV
  refine ⟨by split; exact hd; exact few_lt (n := 0) (by simp) (by decide), by split; (unfold Few; rw [List.length_map]; exact hx); exact few_lt (n := 0) (by simp) (by decide)⟩
theorem shp_few (d x d' : List Int) (hd : Few d') (hx : Few x) : Few (shpD d x d') ∧ Few (shpV d x d') := by
  unfold shpD shpV
  refine ⟨by split; exact hd; exact few_lt (n := 0) (by simp) (by decide), by split; exact hx; exact few_lt (n := 0) (by simp) (by decide)⟩
theorem turn_few (d x o : List Int) (hd : Few o) : Few (turnD d x o) ∧ Few (turnV d x o) := by
  unfold turnD turnV
  refine ⟨?_, ?_⟩
  · split
    · unfold Few; rw [itl_len, dimsT_len, ntl_len]; exact hd
    · exact few_lt (n := 0) (by simp) (by decide)
  · split
    · rename_i h
      refine few_lt (n := 4096) ?_ (by decide)
      rw [List.length_map, List.length_range]
      exact h.1.1.2.2
    · exact few_lt (n := 0) (by simp) (by decide)
theorem fold_few (d x d' : List Int) (hd : Few d') : Few (foldD d x d') ∧ Few (foldV d x d') := by
  unfold foldD foldV
  refine ⟨?_, ?_⟩
  · split
    · exact hd
    · exact few_lt (n := 0) (by simp) (by decide)
  · split
    · rename_i h
      refine few_lt (n := 4096) ?_ (by decide)
      rw [foldK_len]
      exact h.1.2.2.2
    · exact few_lt (n := 0) (by simp) (by decide)
set_option maxRecDepth 8000 in
set_option maxHeartbeats 8000000 in
theorem tturns_walk (w : World) (za : Nat → Int) (n c : Nat) (p : Option Addr) (zb : Nat → Int) (n2 c2 : Nat) (p2 : Option Addr) (K : Int) (zc : Nat → Int) (n3 c3 : Nat) (p3 : Option Addr)
    (r1 : RowN .i64 w p n c za) (r2 : RowN .i64 w p2 n2 c2 zb) (hK : -9223372036854775808 ≤ K ∧ K ≤ 9223372036854775807) (r3 : RowN .i64 w p3 n3 c3 zc) :
    Calls Try.prog 5 #[.agg #[.slice p n c, .slice p2 n2 c2], .int .i64 K, .slice p3 n3 c3] w fun e w' => e = .returned (.bool true) ∧ Below w.heap.size w w' := by
  have HA : Hid (Nums .i64 w (.slice p n c) (nlst n za) ∧ Nums .i64 w (.slice p2 n2 c2) (nlst n2 zb) ∧ Nums .i64 w (.slice p3 n3 c3) (nlst n3 zc)) := ⟨r1.nums, r2.nums, r3.nums⟩
  have HI : Hid (RI (nlst n za) ∧ RI (nlst n2 zb) ∧ RI (nlst n3 zc) ∧ Fx.InR K) := ⟨r1.riI, r2.riI, r3.riI, hK⟩
  have HF : Hid (Few (nlst n za) ∧ Few (nlst n2 zb) ∧ Few (nlst n3 zc)) := ⟨r1.few, r2.few, r3.few⟩
  have hn3 : n3 ≤ 9223372036854775807 := by have := r3.few; unfold Few at this; rw [nlst_len] at this; exact this
  obtain ⟨d, ed⟩ : ∃ d, nlst n za = d := ⟨_, rfl⟩
  obtain ⟨x, ex⟩ : ∃ x, nlst n2 zb = x := ⟨_, rfl⟩
  obtain ⟨d', ed'⟩ : ∃ d, nlst n3 zc = d := ⟨_, rfl⟩
  rw [ed, ex, ed'] at HA HI HF
  clear ed ex ed' r1 r2 r3 hK
  obtain ⟨ES, eES⟩ : ∃ E, scaleE d x = E := ⟨_, rfl⟩
  obtain ⟨DS, eDS⟩ : ∃ D, scaleD d x = D := ⟨_, rfl⟩
  obtain ⟨VS, eVS⟩ : ∃ V, scaleV d x K = V := ⟨_, rfl⟩
  have HFS : Hid (Few DS ∧ Few VS) := by rw [← eDS, ← eVS]; exact scale_few d x K HF.out.1 HF.out.2.1
  obtain ⟨ER, eER⟩ : ∃ E, shpE d x d' = E := ⟨_, rfl⟩
  obtain ⟨DR, eDR⟩ : ∃ D, shpD d x d' = D := ⟨_, rfl⟩
  obtain ⟨VR, eVR⟩ : ∃ V, shpV d x d' = V := ⟨_, rfl⟩
  have HFR : Hid (Few DR ∧ Few VR) := by rw [← eDR, ← eVR]; exact shp_few d x d' HF.out.2.2 HF.out.2.1
  obtain ⟨ET, eET⟩ : ∃ E, turnE d x d' = E := ⟨_, rfl⟩
  obtain ⟨DT, eDT⟩ : ∃ D, turnD d x d' = D := ⟨_, rfl⟩
  obtain ⟨VT, eVT⟩ : ∃ V, turnV d x d' = V := ⟨_, rfl⟩
  have HFT : Hid (Few DT ∧ Few VT) := by rw [← eDT, ← eVT]; exact turn_few d x d' HF.out.2.2
  obtain ⟨EO, eEO⟩ : ∃ E, foldE d x d' = E := ⟨_, rfl⟩
  obtain ⟨DO, eDO⟩ : ∃ D, foldD d x d' = D := ⟨_, rfl⟩
  obtain ⟨VO, eVO⟩ : ∃ V, foldV d x d' = V := ⟨_, rfl⟩
  have HFO : Hid (Few DO ∧ Few VO) := by rw [← eDO, ← eVO]; exact fold_few d x d' HF.out.2.2
  have cS : Hid (∀ W, Below w.heap.size w W → Calls Try.prog 24 #[.agg #[.slice p n c, .slice p2 n2 c2], .int .i64 K] W fun e w' => ∃ v', e = .returned (.tuple #[v', .int .i64 ES]) ∧ TRes w' W.heap.size v' DS VS ∧ Below W.heap.size W w') := fun W hW => by
    rw [← eES, ← eDS, ← eVS]
    exact tscale_any p p2 n c n2 c2 d x HI.out.1 HI.out.2.1 K HI.out.2.2.2 W (HA.out.1.up hW) (HA.out.2.1.up hW)
  have cR : Hid (∀ W, Below w.heap.size w W → Calls Try.prog 13 #[.agg #[.slice p n c, .slice p2 n2 c2], .slice p3 n3 c3] W fun e w' => ∃ v', e = .returned (.tuple #[v', .int .i64 ER]) ∧ TRes w' W.heap.size v' DR VR ∧ Below W.heap.size W w') := fun W hW => by
    rw [← eER, ← eDR, ← eVR]
    exact treshape_any p p2 p3 n c n2 c2 n3 c3 d x d' HI.out.1 HI.out.2.2.1 W (HA.out.1.up hW) (HA.out.2.1.up hW) (HA.out.2.2.up hW)
  have cT : Hid (∀ W, Below w.heap.size w W → Calls Try.prog 12 #[.agg #[.slice p n c, .slice p2 n2 c2], .slice p3 n3 c3] W fun e w' => ∃ v', e = .returned (.tuple #[v', .int .i64 ET]) ∧ TRes w' W.heap.size v' DT VT ∧ Below W.heap.size W w') := fun W hW => by
    rw [← eET, ← eDT, ← eVT]
    exact tturn_any p p2 p3 n c n2 c2 n3 c3 d x d' HI.out.1 HI.out.2.2.1 W (HA.out.1.up hW) (HA.out.2.1.up hW) (HA.out.2.2.up hW)
  have cO : Hid (∀ W, Below w.heap.size w W → Calls Try.prog 14 #[.agg #[.slice p n c, .slice p2 n2 c2], .slice p3 n3 c3] W fun e w' => ∃ v', e = .returned (.tuple #[v', .int .i64 EO]) ∧ TRes w' W.heap.size v' DO VO ∧ Below W.heap.size W w') := fun W hW => by
    rw [← eEO, ← eDO, ← eVO]
    exact tfold_any p p2 p3 n c n2 c2 n3 c3 d x d' HI.out.1 HI.out.2.1 HI.out.2.2.1 W (HA.out.1.up hW) (HA.out.2.1.up hW) (HA.out.2.2.up hW)
  have qS : Hid (∀ W, Below w.heap.size w W → Calls Try.prog 25 #[.agg #[.slice p n c, .slice p2 n2 c2], .int .i64 K] W fun e w' => ∃ v', e = .returned (.tuple #[v', .int .i64 ES]) ∧ TRes w' W.heap.size v' DS VS ∧ Below W.heap.size W w') := fun W hW => by
    rw [← eES, ← eDS, ← eVS]
    exact rscale_any p p2 n c n2 c2 d x HI.out.1 HI.out.2.1 K HI.out.2.2.2 W (HA.out.1.up hW) (HA.out.2.1.up hW)
  have qR : Hid (∀ W, Below w.heap.size w W → Calls Try.prog 26 #[.agg #[.slice p n c, .slice p2 n2 c2], .slice p3 n3 c3] W fun e w' => ∃ v', e = .returned (.tuple #[v', .int .i64 ER]) ∧ TRes w' W.heap.size v' DR VR ∧ Below W.heap.size W w') := fun W hW => by
    rw [← eER, ← eDR, ← eVR]
    exact rreshape_any p p2 p3 n c n2 c2 n3 c3 d x d' HI.out.1 HI.out.2.2.1 W (HA.out.1.up hW) (HA.out.2.1.up hW) (HA.out.2.2.up hW)
  have qT : Hid (∀ W, Below w.heap.size w W → Calls Try.prog 27 #[.agg #[.slice p n c, .slice p2 n2 c2], .slice p3 n3 c3] W fun e w' => ∃ v', e = .returned (.tuple #[v', .int .i64 ET]) ∧ TRes w' W.heap.size v' DT VT ∧ Below W.heap.size W w') := fun W hW => by
    rw [← eET, ← eDT, ← eVT]
    exact rturn_any p p2 p3 n c n2 c2 n3 c3 d x d' HI.out.1 HI.out.2.2.1 W (HA.out.1.up hW) (HA.out.2.1.up hW) (HA.out.2.2.up hW) hn3
  have qO : Hid (∀ W, Below w.heap.size w W → Calls Try.prog 28 #[.agg #[.slice p n c, .slice p2 n2 c2], .slice p3 n3 c3] W fun e w' => ∃ v', e = .returned (.tuple #[v', .int .i64 EO]) ∧ TRes w' W.heap.size v' DO VO ∧ Below W.heap.size W w') := fun W hW => by
    rw [← eEO, ← eDO, ← eVO]
    exact rfold_any p p2 p3 n c n2 c2 n3 c3 d x d' HI.out.1 HI.out.2.1 HI.out.2.2.1 W (HA.out.1.up hW) (HA.out.2.1.up hW) (HA.out.2.2.up hW)
  clear hn3 eES eDS eVS eER eDR eVR eET eDT eVT eEO eDO eVO
  haveI : Nonempty World := ⟨w⟩
  go_enter Try.func5, Try.ntmps5
  go_wp2_with fail
  generalize hW0 : World.alloc _ _ = W0
  have HB_W0 : Hid (Below w.heap.size w W0) := by show Below _ _ _; rw [← hW0]; go_grown
  have XA_v0 : Hid (Cel W0 w.heap.size (.slice p n c) (.slice p2 n2 c2)) := by show Cel _ _ _ _; unfold Cel; rw [← hW0]; simp [go_sem]
  clear hW0
  refine (tawake_any W0).mono ?_
  rintro e wa ⟨rfl, hBa⟩
  have HB_wa : Hid (Below w.heap.size w wa) := bstep HB_W0.out hBa
  have XA_v1 : Hid (Cel wa w.heap.size (.slice p n c) (.slice p2 n2 c2)) := XA_v0.out.up hBa
  clear XA_v0
  clear hBa
  have cg := great_any p p2 n c n2 c2 300 (by decide) wa
  by_cases hga : 10 < n ∨ 300 < n2
  · rw [decide_eq_true hga] at cg
    obtain ⟨xa0, xa1, _, _⟩ := XA_v1.out
    have xaz := cell_lt xa0
    go_wp2_with fail
    refine (cg).mono ?_
    rintro e wb ⟨rfl, hBwb⟩
    have HB_wb : Hid (Below w.heap.size w wb) := bstep HB_wa.out hBwb
    have XA_v2 : Hid (Cel wb w.heap.size (.slice p n c) (.slice p2 n2 c2)) := XA_v1.out.up hBwb
    clear XA_v1
    clear hBwb xa0 xa1 xaz
    go_wp2
    go_ret
    exact ⟨rfl, HB_wb.out⟩
  rw [decide_eq_false hga] at cg
  by_cases hn3 : 10 < n3
  · have hn3' : (10 : Int) < (n3 : Int) := by omega
    obtain ⟨xa0, xa1, _, _⟩ := XA_v1.out
    have xaz := cell_lt xa0
    go_wp2_with fail
    refine (cg).mono ?_
    rintro e wb ⟨rfl, hBwb⟩
    have HB_wb : Hid (Below w.heap.size w wb) := bstep HB_wa.out hBwb
    have XA_v2 : Hid (Cel wb w.heap.size (.slice p n c) (.slice p2 n2 c2)) := XA_v1.out.up hBwb
    clear XA_v1
    clear hBwb xa0 xa1 xaz
    go_wp2
    go_ret
    exact ⟨rfl, HB_wb.out⟩
  have hn3' : (n3 : Int) ≤ 10 := by omega
  obtain ⟨xa0, xa1, _, _⟩ := XA_v1.out
  have xaz := cell_lt xa0
  go_wp2_with fail
  refine (cg).mono ?_
  rintro e wb ⟨rfl, hBwb⟩
  have HB_wb : Hid (Below w.heap.size w wb) := bstep HB_wa.out hBwb
  have XA_v2 : Hid (Cel wb w.heap.size (.slice p n c) (.slice p2 n2 c2)) := XA_v1.out.up hBwb
  clear XA_v1
  clear hBwb xa0 xa1 xaz
  clear cg hga
  obtain ⟨xa0, xa1, _, _⟩ := XA_v2.out
  have xaz := cell_lt xa0
  go_wp2_with fail
  refine (cS.out wb HB_wb.out).mono ?_
  rintro e w1 ⟨v1, rfl, ⟨s1, t1, rfl, hs1, ht1⟩, hB1⟩
  obtain ⟨ps1, ns1, cs1, rfl, _⟩ := hs1.nums.lst
  obtain ⟨pt1, nt1, ct1, rfl, _⟩ := ht1.nums.lst
  have HB_w1 : Hid (Below w.heap.size w w1) := bstep HB_wb.out hB1
  have XA_v3 : Hid (Cel w1 w.heap.size (.slice p n c) (.slice p2 n2 c2)) := XA_v2.out.up hB1
  clear XA_v2
  have T1_v3 : Hid (Tn DS VS (.agg #[.slice ps1 ns1 cs1, .slice pt1 nt1 ct1]) w1) := ⟨_, _, _, _, _, _, rfl, hs1.nums, ht1.nums⟩
  clear hB1 hs1 ht1 xa0 xa1 xaz
  obtain ⟨xa0, xa1, _, _⟩ := XA_v3.out
  have xaz := cell_lt xa0
  go_wp2_with fail
  generalize hW1 : World.alloc _ _ = W1
  have hC1 : Below w1.heap.size w1 W1 := by rw [← hW1]; exact up_alloc w1 _
  have HB_W1 : Hid (Below w.heap.size w W1) := bstep HB_w1.out hC1
  have XA_v4 : Hid (Cel W1 w.heap.size (.slice p n c) (.slice p2 n2 c2)) := XA_v3.out.up hC1
  have T1_v4 : Hid (Tn DS VS (.agg #[.slice ps1 ns1 cs1, .slice pt1 nt1 ct1]) W1) := T1_v3.out.up hC1
  clear XA_v3 T1_v3
  have X1_v4 : Hid (Cel W1 w1.heap.size (.slice ps1 ns1 cs1) (.slice pt1 nt1 ct1)) := by show Cel _ _ _ _; unfold Cel; rw [← hW1]; simp [go_sem]
  clear hW1 hC1 xa0 xa1 xaz
  refine (cR.out W1 HB_W1.out).mono ?_
  rintro e w2 ⟨v2, rfl, ⟨s2, t2, rfl, hs2, ht2⟩, hB2⟩
  obtain ⟨ps2, ns2, cs2, rfl, _⟩ := hs2.nums.lst
  obtain ⟨pt2, nt2, ct2, rfl, _⟩ := ht2.nums.lst
  have HB_w2 : Hid (Below w.heap.size w w2) := bstep HB_W1.out hB2
  have XA_v5 : Hid (Cel w2 w.heap.size (.slice p n c) (.slice p2 n2 c2)) := XA_v4.out.up hB2
  have T1_v5 : Hid (Tn DS VS (.agg #[.slice ps1 ns1 cs1, .slice pt1 nt1 ct1]) w2) := T1_v4.out.up hB2
  have X1_v5 : Hid (Cel w2 w1.heap.size (.slice ps1 ns1 cs1) (.slice pt1 nt1 ct1)) := X1_v4.out.up hB2
  clear XA_v4 T1_v4 X1_v4
  have T2_v5 : Hid (Tn DR VR (.agg #[.slice ps2 ns2 cs2, .slice pt2 nt2 ct2]) w2) := ⟨_, _, _, _, _, _, rfl, hs2.nums, ht2.nums⟩
  clear hB2 hs2 ht2 
  obtain ⟨xa0, xa1, _, _⟩ := XA_v5.out
  have xaz := cell_lt xa0
  go_wp2_with fail
  generalize hW2 : World.alloc _ _ = W2
  have hC2 : Below w2.heap.size w2 W2 := by rw [← hW2]; exact up_alloc w2 _
  have HB_W2 : Hid (Below w.heap.size w W2) := bstep HB_w2.out hC2
  have XA_v6 : Hid (Cel W2 w.heap.size (.slice p n c) (.slice p2 n2 c2)) := XA_v5.out.up hC2
  have T1_v6 : Hid (Tn DS VS (.agg #[.slice ps1 ns1 cs1, .slice pt1 nt1 ct1]) W2) := T1_v5.out.up hC2
  have X1_v6 : Hid (Cel W2 w1.heap.size (.slice ps1 ns1 cs1) (.slice pt1 nt1 ct1)) := X1_v5.out.up hC2
  have T2_v6 : Hid (Tn DR VR (.agg #[.slice ps2 ns2 cs2, .slice pt2 nt2 ct2]) W2) := T2_v5.out.up hC2
  clear XA_v5 T1_v5 X1_v5 T2_v5
  have X2_v6 : Hid (Cel W2 w2.heap.size (.slice ps2 ns2 cs2) (.slice pt2 nt2 ct2)) := by show Cel _ _ _ _; unfold Cel; rw [← hW2]; simp [go_sem]
  clear hW2 hC2 xa0 xa1 xaz
  refine (cT.out W2 HB_W2.out).mono ?_
  rintro e w3 ⟨v3, rfl, ⟨s3, t3, rfl, hs3, ht3⟩, hB3⟩
  obtain ⟨ps3, ns3, cs3, rfl, _⟩ := hs3.nums.lst
  obtain ⟨pt3, nt3, ct3, rfl, _⟩ := ht3.nums.lst
  have HB_w3 : Hid (Below w.heap.size w w3) := bstep HB_W2.out hB3
  have XA_v7 : Hid (Cel w3 w.heap.size (.slice p n c) (.slice p2 n2 c2)) := XA_v6.out.up hB3
  have T1_v7 : Hid (Tn DS VS (.agg #[.slice ps1 ns1 cs1, .slice pt1 nt1 ct1]) w3) := T1_v6.out.up hB3
  have X1_v7 : Hid (Cel w3 w1.heap.size (.slice ps1 ns1 cs1) (.slice pt1 nt1 ct1)) := X1_v6.out.up hB3
  have T2_v7 : Hid (Tn DR VR (.agg #[.slice ps2 ns2 cs2, .slice pt2 nt2 ct2]) w3) := T2_v6.out.up hB3
  have X2_v7 : Hid (Cel w3 w2.heap.size (.slice ps2 ns2 cs2) (.slice pt2 nt2 ct2)) := X2_v6.out.up hB3
  clear XA_v6 T1_v6 X1_v6 T2_v6 X2_v6
  have T3_v7 : Hid (Tn DT VT (.agg #[.slice ps3 ns3 cs3, .slice pt3 nt3 ct3]) w3) := ⟨_, _, _, _, _, _, rfl, hs3.nums, ht3.nums⟩
  clear hB3 hs3 ht3 
  obtain ⟨xa0, xa1, _, _⟩ := XA_v7.out
  have xaz := cell_lt xa0
  go_wp2_with fail
  generalize hW3 : World.alloc _ _ = W3
  have hC3 : Below w3.heap.size w3 W3 := by rw [← hW3]; exact up_alloc w3 _
  have HB_W3 : Hid (Below w.heap.size w W3) := bstep HB_w3.out hC3
  have XA_v8 : Hid (Cel W3 w.heap.size (.slice p n c) (.slice p2 n2 c2)) := XA_v7.out.up hC3
  have T1_v8 : Hid (Tn DS VS (.agg #[.slice ps1 ns1 cs1, .slice pt1 nt1 ct1]) W3) := T1_v7.out.up hC3
  have X1_v8 : Hid (Cel W3 w1.heap.size (.slice ps1 ns1 cs1) (.slice pt1 nt1 ct1)) := X1_v7.out.up hC3
  have T2_v8 : Hid (Tn DR VR (.agg #[.slice ps2 ns2 cs2, .slice pt2 nt2 ct2]) W3) := T2_v7.out.up hC3
  have X2_v8 : Hid (Cel W3 w2.heap.size (.slice ps2 ns2 cs2) (.slice pt2 nt2 ct2)) := X2_v7.out.up hC3
  have T3_v8 : Hid (Tn DT VT (.agg #[.slice ps3 ns3 cs3, .slice pt3 nt3 ct3]) W3) := T3_v7.out.up hC3
  clear XA_v7 T1_v7 X1_v7 T2_v7 X2_v7 T3_v7
  have X3_v8 : Hid (Cel W3 w3.heap.size (.slice ps3 ns3 cs3) (.slice pt3 nt3 ct3)) := by show Cel _ _ _ _; unfold Cel; rw [← hW3]; simp [go_sem]
  clear hW3 hC3 xa0 xa1 xaz
  refine (cO.out W3 HB_W3.out).mono ?_
  rintro e w4 ⟨v4, rfl, ⟨s4, t4, rfl, hs4, ht4⟩, hB4⟩
  obtain ⟨ps4, ns4, cs4, rfl, _⟩ := hs4.nums.lst
  obtain ⟨pt4, nt4, ct4, rfl, _⟩ := ht4.nums.lst
  have HB_w4 : Hid (Below w.heap.size w w4) := bstep HB_W3.out hB4
  have XA_v9 : Hid (Cel w4 w.heap.size (.slice p n c) (.slice p2 n2 c2)) := XA_v8.out.up hB4
  have T1_v9 : Hid (Tn DS VS (.agg #[.slice ps1 ns1 cs1, .slice pt1 nt1 ct1]) w4) := T1_v8.out.up hB4
  have X1_v9 : Hid (Cel w4 w1.heap.size (.slice ps1 ns1 cs1) (.slice pt1 nt1 ct1)) := X1_v8.out.up hB4
  have T2_v9 : Hid (Tn DR VR (.agg #[.slice ps2 ns2 cs2, .slice pt2 nt2 ct2]) w4) := T2_v8.out.up hB4
  have X2_v9 : Hid (Cel w4 w2.heap.size (.slice ps2 ns2 cs2) (.slice pt2 nt2 ct2)) := X2_v8.out.up hB4
  have T3_v9 : Hid (Tn DT VT (.agg #[.slice ps3 ns3 cs3, .slice pt3 nt3 ct3]) w4) := T3_v8.out.up hB4
  have X3_v9 : Hid (Cel w4 w3.heap.size (.slice ps3 ns3 cs3) (.slice pt3 nt3 ct3)) := X3_v8.out.up hB4
  clear XA_v8 T1_v8 X1_v8 T2_v8 X2_v8 T3_v8 X3_v8
  have T4_v9 : Hid (Tn DO VO (.agg #[.slice ps4 ns4 cs4, .slice pt4 nt4 ct4]) w4) := ⟨_, _, _, _, _, _, rfl, hs4.nums, ht4.nums⟩
  clear hB4 hs4 ht4 
  obtain ⟨xa0, xa1, _, _⟩ := XA_v9.out
  have xaz := cell_lt xa0
  go_wp2_with fail
  generalize hW4 : World.alloc _ _ = W4
  have hC4 : Below w4.heap.size w4 W4 := by rw [← hW4]; exact up_alloc w4 _
  have HB_W4 : Hid (Below w.heap.size w W4) := bstep HB_w4.out hC4
  have XA_v10 : Hid (Cel W4 w.heap.size (.slice p n c) (.slice p2 n2 c2)) := XA_v9.out.up hC4
  have T1_v10 : Hid (Tn DS VS (.agg #[.slice ps1 ns1 cs1, .slice pt1 nt1 ct1]) W4) := T1_v9.out.up hC4
  have X1_v10 : Hid (Cel W4 w1.heap.size (.slice ps1 ns1 cs1) (.slice pt1 nt1 ct1)) := X1_v9.out.up hC4
  have T2_v10 : Hid (Tn DR VR (.agg #[.slice ps2 ns2 cs2, .slice pt2 nt2 ct2]) W4) := T2_v9.out.up hC4
  have X2_v10 : Hid (Cel W4 w2.heap.size (.slice ps2 ns2 cs2) (.slice pt2 nt2 ct2)) := X2_v9.out.up hC4
  have T3_v10 : Hid (Tn DT VT (.agg #[.slice ps3 ns3 cs3, .slice pt3 nt3 ct3]) W4) := T3_v9.out.up hC4
  have X3_v10 : Hid (Cel W4 w3.heap.size (.slice ps3 ns3 cs3) (.slice pt3 nt3 ct3)) := X3_v9.out.up hC4
  have T4_v10 : Hid (Tn DO VO (.agg #[.slice ps4 ns4 cs4, .slice pt4 nt4 ct4]) W4) := T4_v9.out.up hC4
  clear XA_v9 T1_v9 X1_v9 T2_v9 X2_v9 T3_v9 X3_v9 T4_v9
  have X4_v10 : Hid (Cel W4 w4.heap.size (.slice ps4 ns4 cs4) (.slice pt4 nt4 ct4)) := by show Cel _ _ _ _; unfold Cel; rw [← hW4]; simp [go_sem]
  clear hW4 hC4 xa0 xa1 xaz
  refine (qS.out W4 HB_W4.out).mono ?_
  rintro e w5 ⟨v5, rfl, ⟨s5, t5, rfl, hs5, ht5⟩, hB5⟩
  obtain ⟨ps5, ns5, cs5, rfl, _⟩ := hs5.nums.lst
  obtain ⟨pt5, nt5, ct5, rfl, _⟩ := ht5.nums.lst
  have HB_w5 : Hid (Below w.heap.size w w5) := bstep HB_W4.out hB5
  have XA_v11 : Hid (Cel w5 w.heap.size (.slice p n c) (.slice p2 n2 c2)) := XA_v10.out.up hB5
  have T1_v11 : Hid (Tn DS VS (.agg #[.slice ps1 ns1 cs1, .slice pt1 nt1 ct1]) w5) := T1_v10.out.up hB5
  have X1_v11 : Hid (Cel w5 w1.heap.size (.slice ps1 ns1 cs1) (.slice pt1 nt1 ct1)) := X1_v10.out.up hB5
  have T2_v11 : Hid (Tn DR VR (.agg #[.slice ps2 ns2 cs2, .slice pt2 nt2 ct2]) w5) := T2_v10.out.up hB5
  have X2_v11 : Hid (Cel w5 w2.heap.size (.slice ps2 ns2 cs2) (.slice pt2 nt2 ct2)) := X2_v10.out.up hB5
  have T3_v11 : Hid (Tn DT VT (.agg #[.slice ps3 ns3 cs3, .slice pt3 nt3 ct3]) w5) := T3_v10.out.up hB5
  have X3_v11 : Hid (Cel w5 w3.heap.size (.slice ps3 ns3 cs3) (.slice pt3 nt3 ct3)) := X3_v10.out.up hB5
  have T4_v11 : Hid (Tn DO VO (.agg #[.slice ps4 ns4 cs4, .slice pt4 nt4 ct4]) w5) := T4_v10.out.up hB5
  have X4_v11 : Hid (Cel w5 w4.heap.size (.slice ps4 ns4 cs4) (.slice pt4 nt4 ct4)) := X4_v10.out.up hB5
  clear XA_v10 T1_v10 X1_v10 T2_v10 X2_v10 T3_v10 X3_v10 T4_v10 X4_v10
  have T5_v11 : Hid (Tn DS VS (.agg #[.slice ps5 ns5 cs5, .slice pt5 nt5 ct5]) w5) := ⟨_, _, _, _, _, _, rfl, hs5.nums, ht5.nums⟩
  clear hB5 hs5 ht5 
  obtain ⟨xa0, xa1, _, _⟩ := XA_v11.out
  have xaz := cell_lt xa0
  go_wp2_with fail
  generalize hW5 : World.alloc _ _ = W5
  have hC5 : Below w5.heap.size w5 W5 := by rw [← hW5]; exact up_alloc w5 _
  have HB_W5 : Hid (Below w.heap.size w W5) := bstep HB_w5.out hC5
  have XA_v12 : Hid (Cel W5 w.heap.size (.slice p n c) (.slice p2 n2 c2)) := XA_v11.out.up hC5
  have T1_v12 : Hid (Tn DS VS (.agg #[.slice ps1 ns1 cs1, .slice pt1 nt1 ct1]) W5) := T1_v11.out.up hC5
  have X1_v12 : Hid (Cel W5 w1.heap.size (.slice ps1 ns1 cs1) (.slice pt1 nt1 ct1)) := X1_v11.out.up hC5
  have T2_v12 : Hid (Tn DR VR (.agg #[.slice ps2 ns2 cs2, .slice pt2 nt2 ct2]) W5) := T2_v11.out.up hC5
  have X2_v12 : Hid (Cel W5 w2.heap.size (.slice ps2 ns2 cs2) (.slice pt2 nt2 ct2)) := X2_v11.out.up hC5
  have T3_v12 : Hid (Tn DT VT (.agg #[.slice ps3 ns3 cs3, .slice pt3 nt3 ct3]) W5) := T3_v11.out.up hC5
  have X3_v12 : Hid (Cel W5 w3.heap.size (.slice ps3 ns3 cs3) (.slice pt3 nt3 ct3)) := X3_v11.out.up hC5
  have T4_v12 : Hid (Tn DO VO (.agg #[.slice ps4 ns4 cs4, .slice pt4 nt4 ct4]) W5) := T4_v11.out.up hC5
  have X4_v12 : Hid (Cel W5 w4.heap.size (.slice ps4 ns4 cs4) (.slice pt4 nt4 ct4)) := X4_v11.out.up hC5
  have T5_v12 : Hid (Tn DS VS (.agg #[.slice ps5 ns5 cs5, .slice pt5 nt5 ct5]) W5) := T5_v11.out.up hC5
  clear XA_v11 T1_v11 X1_v11 T2_v11 X2_v11 T3_v11 X3_v11 T4_v11 X4_v11 T5_v11
  have X5_v12 : Hid (Cel W5 w5.heap.size (.slice ps5 ns5 cs5) (.slice pt5 nt5 ct5)) := by show Cel _ _ _ _; unfold Cel; rw [← hW5]; simp [go_sem]
  clear hW5 hC5 xa0 xa1 xaz
  refine (qR.out W5 HB_W5.out).mono ?_
  rintro e w6 ⟨v6, rfl, ⟨s6, t6, rfl, hs6, ht6⟩, hB6⟩
  obtain ⟨ps6, ns6, cs6, rfl, _⟩ := hs6.nums.lst
  obtain ⟨pt6, nt6, ct6, rfl, _⟩ := ht6.nums.lst
  have HB_w6 : Hid (Below w.heap.size w w6) := bstep HB_W5.out hB6
  have XA_v13 : Hid (Cel w6 w.heap.size (.slice p n c) (.slice p2 n2 c2)) := XA_v12.out.up hB6
  have T1_v13 : Hid (Tn DS VS (.agg #[.slice ps1 ns1 cs1, .slice pt1 nt1 ct1]) w6) := T1_v12.out.up hB6
  have X1_v13 : Hid (Cel w6 w1.heap.size (.slice ps1 ns1 cs1) (.slice pt1 nt1 ct1)) := X1_v12.out.up hB6
  have T2_v13 : Hid (Tn DR VR (.agg #[.slice ps2 ns2 cs2, .slice pt2 nt2 ct2]) w6) := T2_v12.out.up hB6
  have X2_v13 : Hid (Cel w6 w2.heap.size (.slice ps2 ns2 cs2) (.slice pt2 nt2 ct2)) := X2_v12.out.up hB6
  have T3_v13 : Hid (Tn DT VT (.agg #[.slice ps3 ns3 cs3, .slice pt3 nt3 ct3]) w6) := T3_v12.out.up hB6
  have X3_v13 : Hid (Cel w6 w3.heap.size (.slice ps3 ns3 cs3) (.slice pt3 nt3 ct3)) := X3_v12.out.up hB6
  have T4_v13 : Hid (Tn DO VO (.agg #[.slice ps4 ns4 cs4, .slice pt4 nt4 ct4]) w6) := T4_v12.out.up hB6
  have X4_v13 : Hid (Cel w6 w4.heap.size (.slice ps4 ns4 cs4) (.slice pt4 nt4 ct4)) := X4_v12.out.up hB6
  have T5_v13 : Hid (Tn DS VS (.agg #[.slice ps5 ns5 cs5, .slice pt5 nt5 ct5]) w6) := T5_v12.out.up hB6
  have X5_v13 : Hid (Cel w6 w5.heap.size (.slice ps5 ns5 cs5) (.slice pt5 nt5 ct5)) := X5_v12.out.up hB6
  clear XA_v12 T1_v12 X1_v12 T2_v12 X2_v12 T3_v12 X3_v12 T4_v12 X4_v12 T5_v12 X5_v12
  have T6_v13 : Hid (Tn DR VR (.agg #[.slice ps6 ns6 cs6, .slice pt6 nt6 ct6]) w6) := ⟨_, _, _, _, _, _, rfl, hs6.nums, ht6.nums⟩
  clear hB6 hs6 ht6 
  obtain ⟨xa0, xa1, _, _⟩ := XA_v13.out
  have xaz := cell_lt xa0
  go_wp2_with fail
  generalize hW6 : World.alloc _ _ = W6
  have hC6 : Below w6.heap.size w6 W6 := by rw [← hW6]; exact up_alloc w6 _
  have HB_W6 : Hid (Below w.heap.size w W6) := bstep HB_w6.out hC6
  have XA_v14 : Hid (Cel W6 w.heap.size (.slice p n c) (.slice p2 n2 c2)) := XA_v13.out.up hC6
  have T1_v14 : Hid (Tn DS VS (.agg #[.slice ps1 ns1 cs1, .slice pt1 nt1 ct1]) W6) := T1_v13.out.up hC6
  have X1_v14 : Hid (Cel W6 w1.heap.size (.slice ps1 ns1 cs1) (.slice pt1 nt1 ct1)) := X1_v13.out.up hC6
  have T2_v14 : Hid (Tn DR VR (.agg #[.slice ps2 ns2 cs2, .slice pt2 nt2 ct2]) W6) := T2_v13.out.up hC6
  have X2_v14 : Hid (Cel W6 w2.heap.size (.slice ps2 ns2 cs2) (.slice pt2 nt2 ct2)) := X2_v13.out.up hC6
  have T3_v14 : Hid (Tn DT VT (.agg #[.slice ps3 ns3 cs3, .slice pt3 nt3 ct3]) W6) := T3_v13.out.up hC6
  have X3_v14 : Hid (Cel W6 w3.heap.size (.slice ps3 ns3 cs3) (.slice pt3 nt3 ct3)) := X3_v13.out.up hC6
  have T4_v14 : Hid (Tn DO VO (.agg #[.slice ps4 ns4 cs4, .slice pt4 nt4 ct4]) W6) := T4_v13.out.up hC6
  have X4_v14 : Hid (Cel W6 w4.heap.size (.slice ps4 ns4 cs4) (.slice pt4 nt4 ct4)) := X4_v13.out.up hC6
  have T5_v14 : Hid (Tn DS VS (.agg #[.slice ps5 ns5 cs5, .slice pt5 nt5 ct5]) W6) := T5_v13.out.up hC6
  have X5_v14 : Hid (Cel W6 w5.heap.size (.slice ps5 ns5 cs5) (.slice pt5 nt5 ct5)) := X5_v13.out.up hC6
  have T6_v14 : Hid (Tn DR VR (.agg #[.slice ps6 ns6 cs6, .slice pt6 nt6 ct6]) W6) := T6_v13.out.up hC6
  clear XA_v13 T1_v13 X1_v13 T2_v13 X2_v13 T3_v13 X3_v13 T4_v13 X4_v13 T5_v13 X5_v13 T6_v13
  have X6_v14 : Hid (Cel W6 w6.heap.size (.slice ps6 ns6 cs6) (.slice pt6 nt6 ct6)) := by show Cel _ _ _ _; unfold Cel; rw [← hW6]; simp [go_sem]
  clear hW6 hC6 xa0 xa1 xaz
  refine (qT.out W6 HB_W6.out).mono ?_
  rintro e w7 ⟨v7, rfl, ⟨s7, t7, rfl, hs7, ht7⟩, hB7⟩
  obtain ⟨ps7, ns7, cs7, rfl, _⟩ := hs7.nums.lst
  obtain ⟨pt7, nt7, ct7, rfl, _⟩ := ht7.nums.lst
  have HB_w7 : Hid (Below w.heap.size w w7) := bstep HB_W6.out hB7
  have XA_v15 : Hid (Cel w7 w.heap.size (.slice p n c) (.slice p2 n2 c2)) := XA_v14.out.up hB7
  have T1_v15 : Hid (Tn DS VS (.agg #[.slice ps1 ns1 cs1, .slice pt1 nt1 ct1]) w7) := T1_v14.out.up hB7
  have X1_v15 : Hid (Cel w7 w1.heap.size (.slice ps1 ns1 cs1) (.slice pt1 nt1 ct1)) := X1_v14.out.up hB7
  have T2_v15 : Hid (Tn DR VR (.agg #[.slice ps2 ns2 cs2, .slice pt2 nt2 ct2]) w7) := T2_v14.out.up hB7
  have X2_v15 : Hid (Cel w7 w2.heap.size (.slice ps2 ns2 cs2) (.slice pt2 nt2 ct2)) := X2_v14.out.up hB7
  have T3_v15 : Hid (Tn DT VT (.agg #[.slice ps3 ns3 cs3, .slice pt3 nt3 ct3]) w7) := T3_v14.out.up hB7
  have X3_v15 : Hid (Cel w7 w3.heap.size (.slice ps3 ns3 cs3) (.slice pt3 nt3 ct3)) := X3_v14.out.up hB7
  have T4_v15 : Hid (Tn DO VO (.agg #[.slice ps4 ns4 cs4, .slice pt4 nt4 ct4]) w7) := T4_v14.out.up hB7
  have X4_v15 : Hid (Cel w7 w4.heap.size (.slice ps4 ns4 cs4) (.slice pt4 nt4 ct4)) := X4_v14.out.up hB7
  have T5_v15 : Hid (Tn DS VS (.agg #[.slice ps5 ns5 cs5, .slice pt5 nt5 ct5]) w7) := T5_v14.out.up hB7
  have X5_v15 : Hid (Cel w7 w5.heap.size (.slice ps5 ns5 cs5) (.slice pt5 nt5 ct5)) := X5_v14.out.up hB7
  have T6_v15 : Hid (Tn DR VR (.agg #[.slice ps6 ns6 cs6, .slice pt6 nt6 ct6]) w7) := T6_v14.out.up hB7
  have X6_v15 : Hid (Cel w7 w6.heap.size (.slice ps6 ns6 cs6) (.slice pt6 nt6 ct6)) := X6_v14.out.up hB7
  clear XA_v14 T1_v14 X1_v14 T2_v14 X2_v14 T3_v14 X3_v14 T4_v14 X4_v14 T5_v14 X5_v14 T6_v14 X6_v14
  have T7_v15 : Hid (Tn DT VT (.agg #[.slice ps7 ns7 cs7, .slice pt7 nt7 ct7]) w7) := ⟨_, _, _, _, _, _, rfl, hs7.nums, ht7.nums⟩
  clear hB7 hs7 ht7 
  obtain ⟨xa0, xa1, _, _⟩ := XA_v15.out
  have xaz := cell_lt xa0
  go_wp2_with fail
  generalize hW7 : World.alloc _ _ = W7
  have hC7 : Below w7.heap.size w7 W7 := by rw [← hW7]; exact up_alloc w7 _
  have HB_W7 : Hid (Below w.heap.size w W7) := bstep HB_w7.out hC7
  have XA_v16 : Hid (Cel W7 w.heap.size (.slice p n c) (.slice p2 n2 c2)) := XA_v15.out.up hC7
  have T1_v16 : Hid (Tn DS VS (.agg #[.slice ps1 ns1 cs1, .slice pt1 nt1 ct1]) W7) := T1_v15.out.up hC7
  have X1_v16 : Hid (Cel W7 w1.heap.size (.slice ps1 ns1 cs1) (.slice pt1 nt1 ct1)) := X1_v15.out.up hC7
  have T2_v16 : Hid (Tn DR VR (.agg #[.slice ps2 ns2 cs2, .slice pt2 nt2 ct2]) W7) := T2_v15.out.up hC7
  have X2_v16 : Hid (Cel W7 w2.heap.size (.slice ps2 ns2 cs2) (.slice pt2 nt2 ct2)) := X2_v15.out.up hC7
  have T3_v16 : Hid (Tn DT VT (.agg #[.slice ps3 ns3 cs3, .slice pt3 nt3 ct3]) W7) := T3_v15.out.up hC7
  have X3_v16 : Hid (Cel W7 w3.heap.size (.slice ps3 ns3 cs3) (.slice pt3 nt3 ct3)) := X3_v15.out.up hC7
  have T4_v16 : Hid (Tn DO VO (.agg #[.slice ps4 ns4 cs4, .slice pt4 nt4 ct4]) W7) := T4_v15.out.up hC7
  have X4_v16 : Hid (Cel W7 w4.heap.size (.slice ps4 ns4 cs4) (.slice pt4 nt4 ct4)) := X4_v15.out.up hC7
  have T5_v16 : Hid (Tn DS VS (.agg #[.slice ps5 ns5 cs5, .slice pt5 nt5 ct5]) W7) := T5_v15.out.up hC7
  have X5_v16 : Hid (Cel W7 w5.heap.size (.slice ps5 ns5 cs5) (.slice pt5 nt5 ct5)) := X5_v15.out.up hC7
  have T6_v16 : Hid (Tn DR VR (.agg #[.slice ps6 ns6 cs6, .slice pt6 nt6 ct6]) W7) := T6_v15.out.up hC7
  have X6_v16 : Hid (Cel W7 w6.heap.size (.slice ps6 ns6 cs6) (.slice pt6 nt6 ct6)) := X6_v15.out.up hC7
  have T7_v16 : Hid (Tn DT VT (.agg #[.slice ps7 ns7 cs7, .slice pt7 nt7 ct7]) W7) := T7_v15.out.up hC7
  clear XA_v15 T1_v15 X1_v15 T2_v15 X2_v15 T3_v15 X3_v15 T4_v15 X4_v15 T5_v15 X5_v15 T6_v15 X6_v15 T7_v15
  have X7_v16 : Hid (Cel W7 w7.heap.size (.slice ps7 ns7 cs7) (.slice pt7 nt7 ct7)) := by show Cel _ _ _ _; unfold Cel; rw [← hW7]; simp [go_sem]
  clear hW7 hC7 xa0 xa1 xaz
  refine (qO.out W7 HB_W7.out).mono ?_
  rintro e w8 ⟨v8, rfl, ⟨s8, t8, rfl, hs8, ht8⟩, hB8⟩
  obtain ⟨ps8, ns8, cs8, rfl, _⟩ := hs8.nums.lst
  obtain ⟨pt8, nt8, ct8, rfl, _⟩ := ht8.nums.lst
  have HB_w8 : Hid (Below w.heap.size w w8) := bstep HB_W7.out hB8
  have XA_v17 : Hid (Cel w8 w.heap.size (.slice p n c) (.slice p2 n2 c2)) := XA_v16.out.up hB8
  have T1_v17 : Hid (Tn DS VS (.agg #[.slice ps1 ns1 cs1, .slice pt1 nt1 ct1]) w8) := T1_v16.out.up hB8
  have X1_v17 : Hid (Cel w8 w1.heap.size (.slice ps1 ns1 cs1) (.slice pt1 nt1 ct1)) := X1_v16.out.up hB8
  have T2_v17 : Hid (Tn DR VR (.agg #[.slice ps2 ns2 cs2, .slice pt2 nt2 ct2]) w8) := T2_v16.out.up hB8
  have X2_v17 : Hid (Cel w8 w2.heap.size (.slice ps2 ns2 cs2) (.slice pt2 nt2 ct2)) := X2_v16.out.up hB8
  have T3_v17 : Hid (Tn DT VT (.agg #[.slice ps3 ns3 cs3, .slice pt3 nt3 ct3]) w8) := T3_v16.out.up hB8
  have X3_v17 : Hid (Cel w8 w3.heap.size (.slice ps3 ns3 cs3) (.slice pt3 nt3 ct3)) := X3_v16.out.up hB8
  have T4_v17 : Hid (Tn DO VO (.agg #[.slice ps4 ns4 cs4, .slice pt4 nt4 ct4]) w8) := T4_v16.out.up hB8
  have X4_v17 : Hid (Cel w8 w4.heap.size (.slice ps4 ns4 cs4) (.slice pt4 nt4 ct4)) := X4_v16.out.up hB8
  have T5_v17 : Hid (Tn DS VS (.agg #[.slice ps5 ns5 cs5, .slice pt5 nt5 ct5]) w8) := T5_v16.out.up hB8
  have X5_v17 : Hid (Cel w8 w5.heap.size (.slice ps5 ns5 cs5) (.slice pt5 nt5 ct5)) := X5_v16.out.up hB8
  have T6_v17 : Hid (Tn DR VR (.agg #[.slice ps6 ns6 cs6, .slice pt6 nt6 ct6]) w8) := T6_v16.out.up hB8
  have X6_v17 : Hid (Cel w8 w6.heap.size (.slice ps6 ns6 cs6) (.slice pt6 nt6 ct6)) := X6_v16.out.up hB8
  have T7_v17 : Hid (Tn DT VT (.agg #[.slice ps7 ns7 cs7, .slice pt7 nt7 ct7]) w8) := T7_v16.out.up hB8
  have X7_v17 : Hid (Cel w8 w7.heap.size (.slice ps7 ns7 cs7) (.slice pt7 nt7 ct7)) := X7_v16.out.up hB8
  clear XA_v16 T1_v16 X1_v16 T2_v16 X2_v16 T3_v16 X3_v16 T4_v16 X4_v16 T5_v16 X5_v16 T6_v16 X6_v16 T7_v16 X7_v16
  have T8_v17 : Hid (Tn DO VO (.agg #[.slice ps8 ns8 cs8, .slice pt8 nt8 ct8]) w8) := ⟨_, _, _, _, _, _, rfl, hs8.nums, ht8.nums⟩
  clear hB8 hs8 ht8 
  obtain ⟨xa0, xa1, _, _⟩ := XA_v17.out
  have xaz := cell_lt xa0
  obtain ⟨x10, x11, _, _⟩ := X1_v17.out
  have x1z := cell_lt x10
  obtain ⟨x20, x21, _, _⟩ := X2_v17.out
  have x2z := cell_lt x20
  obtain ⟨x30, x31, _, _⟩ := X3_v17.out
  have x3z := cell_lt x30
  obtain ⟨x40, x41, _, _⟩ := X4_v17.out
  have x4z := cell_lt x40
  obtain ⟨x50, x51, _, _⟩ := X5_v17.out
  have x5z := cell_lt x50
  obtain ⟨x60, x61, _, _⟩ := X6_v17.out
  have x6z := cell_lt x60
  obtain ⟨x70, x71, _, _⟩ := X7_v17.out
  have x7z := cell_lt x70
  go_wp2_with fail
  generalize hW8 : World.alloc _ _ = W8
  have hC8 : Below w8.heap.size w8 W8 := by rw [← hW8]; exact up_alloc w8 _
  have HB_W8 : Hid (Below w.heap.size w W8) := bstep HB_w8.out hC8
  have XA_v18 : Hid (Cel W8 w.heap.size (.slice p n c) (.slice p2 n2 c2)) := XA_v17.out.up hC8
  have T1_v18 : Hid (Tn DS VS (.agg #[.slice ps1 ns1 cs1, .slice pt1 nt1 ct1]) W8) := T1_v17.out.up hC8
  have X1_v18 : Hid (Cel W8 w1.heap.size (.slice ps1 ns1 cs1) (.slice pt1 nt1 ct1)) := X1_v17.out.up hC8
  have T2_v18 : Hid (Tn DR VR (.agg #[.slice ps2 ns2 cs2, .slice pt2 nt2 ct2]) W8) := T2_v17.out.up hC8
  have X2_v18 : Hid (Cel W8 w2.heap.size (.slice ps2 ns2 cs2) (.slice pt2 nt2 ct2)) := X2_v17.out.up hC8
  have T3_v18 : Hid (Tn DT VT (.agg #[.slice ps3 ns3 cs3, .slice pt3 nt3 ct3]) W8) := T3_v17.out.up hC8
  have X3_v18 : Hid (Cel W8 w3.heap.size (.slice ps3 ns3 cs3) (.slice pt3 nt3 ct3)) := X3_v17.out.up hC8
  have T4_v18 : Hid (Tn DO VO (.agg #[.slice ps4 ns4 cs4, .slice pt4 nt4 ct4]) W8) := T4_v17.out.up hC8
  have X4_v18 : Hid (Cel W8 w4.heap.size (.slice ps4 ns4 cs4) (.slice pt4 nt4 ct4)) := X4_v17.out.up hC8
  have T5_v18 : Hid (Tn DS VS (.agg #[.slice ps5 ns5 cs5, .slice pt5 nt5 ct5]) W8) := T5_v17.out.up hC8
  have X5_v18 : Hid (Cel W8 w5.heap.size (.slice ps5 ns5 cs5) (.slice pt5 nt5 ct5)) := X5_v17.out.up hC8
  have T6_v18 : Hid (Tn DR VR (.agg #[.slice ps6 ns6 cs6, .slice pt6 nt6 ct6]) W8) := T6_v17.out.up hC8
  have X6_v18 : Hid (Cel W8 w6.heap.size (.slice ps6 ns6 cs6) (.slice pt6 nt6 ct6)) := X6_v17.out.up hC8
  have T7_v18 : Hid (Tn DT VT (.agg #[.slice ps7 ns7 cs7, .slice pt7 nt7 ct7]) W8) := T7_v17.out.up hC8
  have X7_v18 : Hid (Cel W8 w7.heap.size (.slice ps7 ns7 cs7) (.slice pt7 nt7 ct7)) := X7_v17.out.up hC8
  have T8_v18 : Hid (Tn DO VO (.agg #[.slice ps8 ns8 cs8, .slice pt8 nt8 ct8]) W8) := T8_v17.out.up hC8
  clear XA_v17 T1_v17 X1_v17 T2_v17 X2_v17 T3_v17 X3_v17 T4_v17 X4_v17 T5_v17 X5_v17 T6_v17 X6_v17 T7_v17 X7_v17 T8_v17
  have X8_v18 : Hid (Cel W8 w8.heap.size (.slice ps8 ns8 cs8) (.slice pt8 nt8 ct8)) := by show Cel _ _ _ _; unfold Cel; rw [← hW8]; simp [go_sem]
  clear hW8 hC8 xa0 xa1 xaz x10 x11 x1z x20 x21 x2z x30 x31 x3z x40 x41 x4z x50 x51 x5z x60 x61 x6z x70 x71 x7z
  have l0 := alike_tn T1_v18.out T5_v18.out HFS.out.1 HFS.out.2
  rw [decide_eq_true ⟨rfl, rfl⟩] at l0
  refine l0.mono ?_
  rintro e y0 ⟨rfl, hY0⟩
  have HB_y0 : Hid (Below w.heap.size w y0) := bstep HB_W8.out hY0
  have XA_v19 : Hid (Cel y0 w.heap.size (.slice p n c) (.slice p2 n2 c2)) := XA_v18.out.up hY0
  have T1_v19 : Hid (Tn DS VS (.agg #[.slice ps1 ns1 cs1, .slice pt1 nt1 ct1]) y0) := T1_v18.out.up hY0
  have X1_v19 : Hid (Cel y0 w1.heap.size (.slice ps1 ns1 cs1) (.slice pt1 nt1 ct1)) := X1_v18.out.up hY0
  have T2_v19 : Hid (Tn DR VR (.agg #[.slice ps2 ns2 cs2, .slice pt2 nt2 ct2]) y0) := T2_v18.out.up hY0
  have X2_v19 : Hid (Cel y0 w2.heap.size (.slice ps2 ns2 cs2) (.slice pt2 nt2 ct2)) := X2_v18.out.up hY0
  have T3_v19 : Hid (Tn DT VT (.agg #[.slice ps3 ns3 cs3, .slice pt3 nt3 ct3]) y0) := T3_v18.out.up hY0
  have X3_v19 : Hid (Cel y0 w3.heap.size (.slice ps3 ns3 cs3) (.slice pt3 nt3 ct3)) := X3_v18.out.up hY0
  have T4_v19 : Hid (Tn DO VO (.agg #[.slice ps4 ns4 cs4, .slice pt4 nt4 ct4]) y0) := T4_v18.out.up hY0
  have X4_v19 : Hid (Cel y0 w4.heap.size (.slice ps4 ns4 cs4) (.slice pt4 nt4 ct4)) := X4_v18.out.up hY0
  have T5_v19 : Hid (Tn DS VS (.agg #[.slice ps5 ns5 cs5, .slice pt5 nt5 ct5]) y0) := T5_v18.out.up hY0
  have X5_v19 : Hid (Cel y0 w5.heap.size (.slice ps5 ns5 cs5) (.slice pt5 nt5 ct5)) := X5_v18.out.up hY0
  have T6_v19 : Hid (Tn DR VR (.agg #[.slice ps6 ns6 cs6, .slice pt6 nt6 ct6]) y0) := T6_v18.out.up hY0
  have X6_v19 : Hid (Cel y0 w6.heap.size (.slice ps6 ns6 cs6) (.slice pt6 nt6 ct6)) := X6_v18.out.up hY0
  have T7_v19 : Hid (Tn DT VT (.agg #[.slice ps7 ns7 cs7, .slice pt7 nt7 ct7]) y0) := T7_v18.out.up hY0
  have X7_v19 : Hid (Cel y0 w7.heap.size (.slice ps7 ns7 cs7) (.slice pt7 nt7 ct7)) := X7_v18.out.up hY0
  have T8_v19 : Hid (Tn DO VO (.agg #[.slice ps8 ns8 cs8, .slice pt8 nt8 ct8]) y0) := T8_v18.out.up hY0
  have X8_v19 : Hid (Cel y0 w8.heap.size (.slice ps8 ns8 cs8) (.slice pt8 nt8 ct8)) := X8_v18.out.up hY0
  clear XA_v18 T1_v18 X1_v18 T2_v18 X2_v18 T3_v18 X3_v18 T4_v18 X4_v18 T5_v18 X5_v18 T6_v18 X6_v18 T7_v18 X7_v18 T8_v18 X8_v18
  clear l0 hY0 
  have l1 := alike_tn T2_v19.out T6_v19.out HFR.out.1 HFR.out.2
  rw [decide_eq_true ⟨rfl, rfl⟩] at l1
  obtain ⟨x20, x21, _, _⟩ := X2_v19.out
  have x2z := cell_lt x20
  obtain ⟨x60, x61, _, _⟩ := X6_v19.out
  have x6z := cell_lt x60
  go_wp2_with fail
  refine l1.mono ?_
  rintro e y1 ⟨rfl, hY1⟩
  have HB_y1 : Hid (Below w.heap.size w y1) := bstep HB_y0.out hY1
  have XA_v20 : Hid (Cel y1 w.heap.size (.slice p n c) (.slice p2 n2 c2)) := XA_v19.out.up hY1
  have T1_v20 : Hid (Tn DS VS (.agg #[.slice ps1 ns1 cs1, .slice pt1 nt1 ct1]) y1) := T1_v19.out.up hY1
  have X1_v20 : Hid (Cel y1 w1.heap.size (.slice ps1 ns1 cs1) (.slice pt1 nt1 ct1)) := X1_v19.out.up hY1
  have T2_v20 : Hid (Tn DR VR (.agg #[.slice ps2 ns2 cs2, .slice pt2 nt2 ct2]) y1) := T2_v19.out.up hY1
  have X2_v20 : Hid (Cel y1 w2.heap.size (.slice ps2 ns2 cs2) (.slice pt2 nt2 ct2)) := X2_v19.out.up hY1
  have T3_v20 : Hid (Tn DT VT (.agg #[.slice ps3 ns3 cs3, .slice pt3 nt3 ct3]) y1) := T3_v19.out.up hY1
  have X3_v20 : Hid (Cel y1 w3.heap.size (.slice ps3 ns3 cs3) (.slice pt3 nt3 ct3)) := X3_v19.out.up hY1
  have T4_v20 : Hid (Tn DO VO (.agg #[.slice ps4 ns4 cs4, .slice pt4 nt4 ct4]) y1) := T4_v19.out.up hY1
  have X4_v20 : Hid (Cel y1 w4.heap.size (.slice ps4 ns4 cs4) (.slice pt4 nt4 ct4)) := X4_v19.out.up hY1
  have T5_v20 : Hid (Tn DS VS (.agg #[.slice ps5 ns5 cs5, .slice pt5 nt5 ct5]) y1) := T5_v19.out.up hY1
  have X5_v20 : Hid (Cel y1 w5.heap.size (.slice ps5 ns5 cs5) (.slice pt5 nt5 ct5)) := X5_v19.out.up hY1
  have T6_v20 : Hid (Tn DR VR (.agg #[.slice ps6 ns6 cs6, .slice pt6 nt6 ct6]) y1) := T6_v19.out.up hY1
  have X6_v20 : Hid (Cel y1 w6.heap.size (.slice ps6 ns6 cs6) (.slice pt6 nt6 ct6)) := X6_v19.out.up hY1
  have T7_v20 : Hid (Tn DT VT (.agg #[.slice ps7 ns7 cs7, .slice pt7 nt7 ct7]) y1) := T7_v19.out.up hY1
  have X7_v20 : Hid (Cel y1 w7.heap.size (.slice ps7 ns7 cs7) (.slice pt7 nt7 ct7)) := X7_v19.out.up hY1
  have T8_v20 : Hid (Tn DO VO (.agg #[.slice ps8 ns8 cs8, .slice pt8 nt8 ct8]) y1) := T8_v19.out.up hY1
  have X8_v20 : Hid (Cel y1 w8.heap.size (.slice ps8 ns8 cs8) (.slice pt8 nt8 ct8)) := X8_v19.out.up hY1
  clear XA_v19 T1_v19 X1_v19 T2_v19 X2_v19 T3_v19 X3_v19 T4_v19 X4_v19 T5_v19 X5_v19 T6_v19 X6_v19 T7_v19 X7_v19 T8_v19 X8_v19
  clear l1 hY1 x20 x21 x2z x60 x61 x6z
  have l2 := alike_tn T3_v20.out T7_v20.out HFT.out.1 HFT.out.2
  rw [decide_eq_true ⟨rfl, rfl⟩] at l2
  obtain ⟨x30, x31, _, _⟩ := X3_v20.out
  have x3z := cell_lt x30
  obtain ⟨x70, x71, _, _⟩ := X7_v20.out
  have x7z := cell_lt x70
  go_wp2_with fail
  refine l2.mono ?_
  rintro e y2 ⟨rfl, hY2⟩
  have HB_y2 : Hid (Below w.heap.size w y2) := bstep HB_y1.out hY2
  have XA_v21 : Hid (Cel y2 w.heap.size (.slice p n c) (.slice p2 n2 c2)) := XA_v20.out.up hY2
  have T1_v21 : Hid (Tn DS VS (.agg #[.slice ps1 ns1 cs1, .slice pt1 nt1 ct1]) y2) := T1_v20.out.up hY2
  have X1_v21 : Hid (Cel y2 w1.heap.size (.slice ps1 ns1 cs1) (.slice pt1 nt1 ct1)) := X1_v20.out.up hY2
  have T2_v21 : Hid (Tn DR VR (.agg #[.slice ps2 ns2 cs2, .slice pt2 nt2 ct2]) y2) := T2_v20.out.up hY2
  have X2_v21 : Hid (Cel y2 w2.heap.size (.slice ps2 ns2 cs2) (.slice pt2 nt2 ct2)) := X2_v20.out.up hY2
  have T3_v21 : Hid (Tn DT VT (.agg #[.slice ps3 ns3 cs3, .slice pt3 nt3 ct3]) y2) := T3_v20.out.up hY2
  have X3_v21 : Hid (Cel y2 w3.heap.size (.slice ps3 ns3 cs3) (.slice pt3 nt3 ct3)) := X3_v20.out.up hY2
  have T4_v21 : Hid (Tn DO VO (.agg #[.slice ps4 ns4 cs4, .slice pt4 nt4 ct4]) y2) := T4_v20.out.up hY2
  have X4_v21 : Hid (Cel y2 w4.heap.size (.slice ps4 ns4 cs4) (.slice pt4 nt4 ct4)) := X4_v20.out.up hY2
  have T5_v21 : Hid (Tn DS VS (.agg #[.slice ps5 ns5 cs5, .slice pt5 nt5 ct5]) y2) := T5_v20.out.up hY2
  have X5_v21 : Hid (Cel y2 w5.heap.size (.slice ps5 ns5 cs5) (.slice pt5 nt5 ct5)) := X5_v20.out.up hY2
  have T6_v21 : Hid (Tn DR VR (.agg #[.slice ps6 ns6 cs6, .slice pt6 nt6 ct6]) y2) := T6_v20.out.up hY2
  have X6_v21 : Hid (Cel y2 w6.heap.size (.slice ps6 ns6 cs6) (.slice pt6 nt6 ct6)) := X6_v20.out.up hY2
  have T7_v21 : Hid (Tn DT VT (.agg #[.slice ps7 ns7 cs7, .slice pt7 nt7 ct7]) y2) := T7_v20.out.up hY2
  have X7_v21 : Hid (Cel y2 w7.heap.size (.slice ps7 ns7 cs7) (.slice pt7 nt7 ct7)) := X7_v20.out.up hY2
  have T8_v21 : Hid (Tn DO VO (.agg #[.slice ps8 ns8 cs8, .slice pt8 nt8 ct8]) y2) := T8_v20.out.up hY2
  have X8_v21 : Hid (Cel y2 w8.heap.size (.slice ps8 ns8 cs8) (.slice pt8 nt8 ct8)) := X8_v20.out.up hY2
  clear XA_v20 T1_v20 X1_v20 T2_v20 X2_v20 T3_v20 X3_v20 T4_v20 X4_v20 T5_v20 X5_v20 T6_v20 X6_v20 T7_v20 X7_v20 T8_v20 X8_v20
  clear l2 hY2 x30 x31 x3z x70 x71 x7z
  have l3 := alike_tn T4_v21.out T8_v21.out HFO.out.1 HFO.out.2
  rw [decide_eq_true ⟨rfl, rfl⟩] at l3
  obtain ⟨x40, x41, _, _⟩ := X4_v21.out
  have x4z := cell_lt x40
  obtain ⟨x80, x81, _, _⟩ := X8_v21.out
  have x8z := cell_lt x80
  go_wp2_with fail
  refine l3.mono ?_
  rintro e y3 ⟨rfl, hY3⟩
  have HB_y3 : Hid (Below w.heap.size w y3) := bstep HB_y2.out hY3
  have XA_v22 : Hid (Cel y3 w.heap.size (.slice p n c) (.slice p2 n2 c2)) := XA_v21.out.up hY3
  have T1_v22 : Hid (Tn DS VS (.agg #[.slice ps1 ns1 cs1, .slice pt1 nt1 ct1]) y3) := T1_v21.out.up hY3
  have X1_v22 : Hid (Cel y3 w1.heap.size (.slice ps1 ns1 cs1) (.slice pt1 nt1 ct1)) := X1_v21.out.up hY3
  have T2_v22 : Hid (Tn DR VR (.agg #[.slice ps2 ns2 cs2, .slice pt2 nt2 ct2]) y3) := T2_v21.out.up hY3
  have X2_v22 : Hid (Cel y3 w2.heap.size (.slice ps2 ns2 cs2) (.slice pt2 nt2 ct2)) := X2_v21.out.up hY3
  have T3_v22 : Hid (Tn DT VT (.agg #[.slice ps3 ns3 cs3, .slice pt3 nt3 ct3]) y3) := T3_v21.out.up hY3
  have X3_v22 : Hid (Cel y3 w3.heap.size (.slice ps3 ns3 cs3) (.slice pt3 nt3 ct3)) := X3_v21.out.up hY3
  have T4_v22 : Hid (Tn DO VO (.agg #[.slice ps4 ns4 cs4, .slice pt4 nt4 ct4]) y3) := T4_v21.out.up hY3
  have X4_v22 : Hid (Cel y3 w4.heap.size (.slice ps4 ns4 cs4) (.slice pt4 nt4 ct4)) := X4_v21.out.up hY3
  have T5_v22 : Hid (Tn DS VS (.agg #[.slice ps5 ns5 cs5, .slice pt5 nt5 ct5]) y3) := T5_v21.out.up hY3
  have X5_v22 : Hid (Cel y3 w5.heap.size (.slice ps5 ns5 cs5) (.slice pt5 nt5 ct5)) := X5_v21.out.up hY3
  have T6_v22 : Hid (Tn DR VR (.agg #[.slice ps6 ns6 cs6, .slice pt6 nt6 ct6]) y3) := T6_v21.out.up hY3
  have X6_v22 : Hid (Cel y3 w6.heap.size (.slice ps6 ns6 cs6) (.slice pt6 nt6 ct6)) := X6_v21.out.up hY3
  have T7_v22 : Hid (Tn DT VT (.agg #[.slice ps7 ns7 cs7, .slice pt7 nt7 ct7]) y3) := T7_v21.out.up hY3
  have X7_v22 : Hid (Cel y3 w7.heap.size (.slice ps7 ns7 cs7) (.slice pt7 nt7 ct7)) := X7_v21.out.up hY3
  have T8_v22 : Hid (Tn DO VO (.agg #[.slice ps8 ns8 cs8, .slice pt8 nt8 ct8]) y3) := T8_v21.out.up hY3
  have X8_v22 : Hid (Cel y3 w8.heap.size (.slice ps8 ns8 cs8) (.slice pt8 nt8 ct8)) := X8_v21.out.up hY3
  clear XA_v21 T1_v21 X1_v21 T2_v21 X2_v21 T3_v21 X3_v21 T4_v21 X4_v21 T5_v21 X5_v21 T6_v21 X6_v21 T7_v21 X7_v21 T8_v21 X8_v21
  clear l3 hY3 x40 x41 x4z x80 x81 x8z
  go_wp2
  go_ret
  exact ⟨by first | rfl | simp, HB_y3.out⟩
end Go.Proofs.Ytbndiadgnglkhaa.Wd
