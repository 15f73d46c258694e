/- TensNone: noughts added, ones multiplied, a fold to its own shape, change nothing. -/
import Derived.Test.YtbndiadgnglkhabTenM
namespace Go.Proofs.Ytbndiadgnglkhab.Wd
open Go.RowKit
set_option linter.unusedVariables false
set_option linter.unusedSimpArgs false
theorem Tn.nums {D X : List Int} {p p2 : Option Addr} {n c n2 c2 : Nat} {W : World} (h : Tn D X (.agg #[.slice p n c, .slice p2 n2 c2]) W) : Nums .i64 W (.slice p n c) D ∧ Nums .i64 W (.slice p2 n2 c2) X := by
  obtain ⟨p', n', c', p2', n2', c2', e, h1, h2⟩ := h
  cases e
  exact ⟨h1, h2⟩
theorem nil_new (X : Int) : newE [] = 0 ∧ newD [] = [] ∧ newV [] X = [X] := by
  have hg : goodN (ntl []) := by decide
  unfold newE newD newV
  rw [if_pos hg, if_pos hg, if_pos hg]
  exact ⟨rfl, rfl, rfl⟩
/-- A tensor and a number that is spread all over it. -/
theorem joint_nil {d x : List Int} (h : isP d x) (Y : Int) : ∃ a, Joint d x [] [Y] a [] a := by
  obtain ⟨a, ga, rfl⟩ := good_itl h.1
  have gn : goodN ([] : List Nat) := by decide
  have hj : joinN a [] = a := joinN_nil ga.2.1
  have hj2 : joinN [] a = a := by rw [joinN_comm]; exact hj
  obtain ⟨e1, e2⟩ := join_fine ga gn (fitsN_nil a) (by rw [hj]; exact ga)
  have hx := h.2
  rw [ntl_itl] at hx
  obtain ⟨f1, f2⟩ := join_same a
  exact ⟨a, rfl, rfl, ga, gn, ga, by rw [show ([] : List Int) = itl [] from rfl, e1, hj], e2, hx, rfl, f1, f2, (fitsN_comm _ _).1 (fitsN_nil a), hj2⟩
theorem joint_self {d x : List Int} (h : isP d x) : ∃ a, Joint d x d x a a a := by
  obtain ⟨a, ga, rfl⟩ := good_itl h.1
  obtain ⟨f1, f2⟩ := join_same a
  obtain ⟨e1, e2⟩ := join_fine ga ga f1 (by rw [f2]; exact ga)
  have hx := h.2
  rw [ntl_itl] at hx
  exact ⟨a, rfl, rfl, ga, ga, ga, by rw [e1, f2], e2, hx, hx, f1, f2, f1, f2⟩
theorem map_id_of {x : List Int} {N : Nat} {f : Nat → Int} (hl : x.length = N) (h : ∀ i, i < N → f i = x.getD i 0) : (List.range N).map f = x := by
  refine List.ext_getElem (by simp [hl]) fun i h1 h2 => ?_
  rw [List.getElem_map, List.getElem_range, h i (by omega), getD_lt x i 0 h2]
theorem none_each {d x : List Int} (h : isP d x) (op : Int → Int → Int) (Y : Int) (hop : ∀ y, y ∈ x → op y Y = y) : eachE d x [] [Y] = 0 ∧ eachD d x [] [Y] = d ∧ eachV op d x [] [Y] = x := by
  obtain ⟨a, hJ⟩ := joint_nil h Y
  obtain ⟨e1, e2, e3⟩ := hJ.E (op := op)
  refine ⟨e1, by rw [e2]; exact hJ.da.symm, ?_⟩
  rw [e3]
  refine map_id_of hJ.lx fun i hi => ?_
  rw [from_same hJ.ga i hi, from_nil]
  have hi' : i < x.length := by rw [hJ.lx]; exact hi
  refine hop _ ?_
  rw [getD_lt x i 0 hi']
  exact List.getElem_mem _
theorem none_sub {d x : List Int} (h : isP d x) : eachE d x d x = 0 ∧ eachD d x d x = d ∧ eachV (fun a b => Fx.hold (a - b)) d x d x = List.replicate (prodN (ntl d)) 0 := by
  obtain ⟨a, hJ⟩ := joint_self h
  obtain ⟨e1, e2, e3⟩ := hJ.E (op := fun a b => Fx.hold (a - b))
  refine ⟨e1, by rw [e2]; exact hJ.da.symm, ?_⟩
  rw [e3, hJ.da, ntl_itl]
  refine List.ext_getElem (by simp) fun i h1 h2 => ?_
  rw [List.getElem_map, List.getElem_range, List.getElem_replicate, Int.sub_self]
  rfl
theorem foldK_congr {add : Int → Int → Int} {f g : Nat → Nat} {v : Nat → Int} {S : Nat} : ∀ k, (∀ i, i < k → f i = g i) → foldK add f v S k = foldK add g v S k
  | 0, _ => rfl
  | k + 1, h => by rw [foldK, foldK, foldK_congr k fun i hi => h i (by omega), h k (by omega)]
theorem none_fold {d x : List Int} (h : isP d x) (hx : RI x) : foldE d x d = 0 ∧ foldD d x d = d ∧ foldV d x d = x := by
  obtain ⟨a, hJ⟩ := joint_self h
  have hp : foldP d x d := ⟨⟨h, h.1⟩, hJ.je, by rw [hJ.jn]; exact hJ.da.symm⟩
  refine ⟨by unfold foldE; rw [if_pos hp.1, if_pos hp.2], if_pos hp, ?_⟩
  unfold foldV
  rw [if_pos hp, hJ.da, ntl_itl, hJ.lx, foldK_congr (g := fun i => i) (prodN a) fun i hi => from_same hJ.ga i hi]
  rw [foldK_id _ _ _ (fun k hk => by
    have := hx.at k (by rw [hJ.lx]; exact hk)
    show Fx.hold (0 + x.getD k 0) = x.getD k 0
    rw [Int.zero_add]
    exact Fx.hold_in this.1 this.2) (prodN a) (Nat.le_refl _)]
  exact map_id_of hJ.lx fun i hi => if_pos hi
theorem none_scale {d x : List Int} (h : isP d x) (hx : RI x) : scaleE d x = 0 ∧ scaleD d x = d ∧ scaleV d x 4294967296 = x := by
  unfold scaleE scaleD scaleV
  rw [if_pos h, if_pos h, if_pos h]
  refine ⟨rfl, rfl, ?_⟩
  refine (List.map_congr_left fun y hy => Fx.mulI_one y (hx y hy)).trans (List.map_id _)
set_option maxRecDepth 8000 in
set_option maxHeartbeats 8000000 in
theorem tnone_walk (w : World) (za : Nat → Int) (n c : Nat) (p : Option Addr) (zb : Nat → Int) (n2 c2 : Nat) (p2 : Option Addr)
    (r1 : RowN .i64 w p n c za) (r2 : RowN .i64 w p2 n2 c2 zb) :
    Calls Try.prog 3 #[.agg #[.slice p n c, .slice p2 n2 c2]] w fun e w' => e = .returned (.bool true) ∧ Below w.heap.size w w' := by
  have HA : Hid (Nums .i64 w (.slice p n c) (nlst n za) ∧ Nums .i64 w (.slice p2 n2 c2) (nlst n2 zb)) := ⟨r1.nums, r2.nums⟩
  have HI : Hid (RI (nlst n za) ∧ RI (nlst n2 zb) ∧ Few (nlst n za) ∧ Few (nlst n2 zb)) := ⟨r1.riI, r2.riI, r1.few, r2.few⟩
  obtain ⟨d, ed⟩ : ∃ d, nlst n za = d := ⟨_, rfl⟩
  obtain ⟨x, ex⟩ : ∃ x, nlst n2 zb = x := ⟨_, rfl⟩
  rw [ed, ex] at HA HI
  clear ed ex r1 r2
  have HTa : Hid (∀ W, Below w.heap.size w W → Tn d x (.agg #[.slice p n c, .slice p2 n2 c2]) W) := fun W hW => ⟨_, _, _, _, _, _, rfl, HA.out.1.up hW, HA.out.2.up hW⟩
  haveI : Nonempty World := ⟨w⟩
  go_enter Try.func3, Try.ntmps3
  go_wp2_with fail
  generalize hW0 : World.alloc _ _ = W0
  have HB_W0 : Hid (Below w.heap.size w W0) := by show Below _ _ _; rw [← hW0]; go_grown
  have XA_v0 : Hid (Cel W0 w.heap.size (.slice p n c) (.slice p2 n2 c2)) := by show Cel _ _ _ _; unfold Cel; rw [← hW0]; simp [go_sem]
  clear hW0
  refine (tawake_any W0).mono ?_
  rintro e wa ⟨rfl, hBa⟩
  have HB_wa : Hid (Below w.heap.size w wa) := bstep HB_W0.out hBa
  have XA_v1 : Hid (Cel wa w.heap.size (.slice p n c) (.slice p2 n2 c2)) := XA_v0.out.up hBa
  clear XA_v0
  clear hBa
  have cg := great_any p p2 n c n2 c2 300 (by decide) wa
  by_cases hga : 10 < n ∨ 300 < n2
  · rw [decide_eq_true hga] at cg
    obtain ⟨xa0, xa1, _, _⟩ := XA_v1.out
    have xaz := cell_lt xa0
    go_wp2_with fail
    refine (cg).mono ?_
    rintro e wb ⟨rfl, hBwb⟩
    have HB_wb : Hid (Below w.heap.size w wb) := bstep HB_wa.out hBwb
    have XA_v2 : Hid (Cel wb w.heap.size (.slice p n c) (.slice p2 n2 c2)) := XA_v1.out.up hBwb
    clear XA_v1
    clear hBwb xa0 xa1 xaz
    go_wp2
    go_ret
    exact ⟨rfl, HB_wb.out⟩
  rw [decide_eq_false hga] at cg
  obtain ⟨xa0, xa1, _, _⟩ := XA_v1.out
  have xaz := cell_lt xa0
  go_wp2_with fail
  refine (cg).mono ?_
  rintro e wb ⟨rfl, hBwb⟩
  have HB_wb : Hid (Below w.heap.size w wb) := bstep HB_wa.out hBwb
  have XA_v2 : Hid (Cel wb w.heap.size (.slice p n c) (.slice p2 n2 c2)) := XA_v1.out.up hBwb
  clear XA_v1
  clear hBwb xa0 xa1 xaz
  clear cg hga
  have ch := good_tn (HTa.out wb HB_wb.out) HI.out.1
  rcases (Decidable.em (isP d x)).symm with hp | hp
  · rw [decide_eq_false hp] at ch
    obtain ⟨xa0, xa1, _, _⟩ := XA_v2.out
    have xaz := cell_lt xa0
    go_wp2_with fail
    refine (ch).mono ?_
    rintro e wc ⟨rfl, hBwc⟩
    have HB_wc : Hid (Below w.heap.size w wc) := bstep HB_wb.out hBwc
    have XA_v3 : Hid (Cel wc w.heap.size (.slice p n c) (.slice p2 n2 c2)) := XA_v2.out.up hBwc
    clear XA_v2
    clear hBwc xa0 xa1 xaz
    go_wp2
    go_ret
    exact ⟨rfl, HB_wc.out⟩
  rw [decide_eq_true hp] at ch
  have N0 : Hid (newE [] = 0 ∧ newD [] = [] ∧ newV [] 0 = [0]) := nil_new 0
  have N1 : Hid (newE [] = 0 ∧ newD [] = [] ∧ newV [] 4294967296 = [4294967296]) := nil_new 4294967296
  have Ma : Hid (eachE d x [] [0] = 0 ∧ eachD d x [] [0] = d ∧ eachV (fun a b => Fx.hold (a + b)) d x [] [0] = x) := none_each hp _ 0 fun y hy => by
    have := HI.out.2.1 y hy
    show Fx.hold (y + 0) = y
    rw [Int.add_zero]
    exact Fx.hold_in this.1 this.2
  have Mm : Hid (eachE d x [] [4294967296] = 0 ∧ eachD d x [] [4294967296] = d ∧ eachV Fx.mulI d x [] [4294967296] = x) := none_each hp _ _ fun y hy => Fx.mulI_one y (HI.out.2.1 y hy)
  have Mf : Hid (foldE d x d = 0 ∧ foldD d x d = d ∧ foldV d x d = x) := none_fold hp HI.out.2.1
  have Ms : Hid (scaleE d x = 0 ∧ scaleD d x = d ∧ scaleV d x 4294967296 = x) := none_scale hp HI.out.2.1
  obtain ⟨Z, eZ⟩ : ∃ Z, List.replicate (prodN (ntl d)) (0 : Int) = Z := ⟨_, rfl⟩
  have Md : Hid (eachE d x d x = 0 ∧ eachD d x d x = d ∧ eachV (fun a b => Fx.hold (a - b)) d x d x = Z) := by rw [← eZ]; exact none_sub hp
  have Mn : Hid (newE d = 0 ∧ newD d = d ∧ newV d 0 = Z ∧ Few Z) := ⟨if_pos hp.1, if_pos hp.1, by rw [← eZ]; exact if_pos hp.1, by unfold Few; rw [← eZ, List.length_replicate]; have := hp.1.2.2; omega⟩
  clear eZ hp
  obtain ⟨xa0, xa1, _, _⟩ := XA_v2.out
  have xaz := cell_lt xa0
  go_wp2_with fail
  refine (ch).mono ?_
  rintro e wc ⟨rfl, hBwc⟩
  have HB_wc : Hid (Below w.heap.size w wc) := bstep HB_wb.out hBwc
  have XA_v3 : Hid (Cel wc w.heap.size (.slice p n c) (.slice p2 n2 c2)) := XA_v2.out.up hBwc
  clear XA_v2
  clear hBwc xa0 xa1 xaz
  clear ch
  have k1 := tnew_any (.slice none 0 0) [] (fun y hy => by cases hy) 0 wc (.inl ⟨rfl, rfl⟩)
  rw [N0.out.1, N0.out.2.1, N0.out.2.2] at k1
  obtain ⟨xa0, xa1, _, _⟩ := XA_v3.out
  have xaz := cell_lt xa0
  go_wp2_with fail
  refine (k1).mono ?_
  rintro e w1 ⟨v1, rfl, ⟨s1, t1, rfl, hs1, ht1⟩, hB1⟩
  obtain ⟨ps1, ns1, cs1, rfl, _⟩ := hs1.nums.lst
  obtain ⟨pt1, nt1, ct1, rfl, _⟩ := ht1.nums.lst
  have HB_w1 : Hid (Below w.heap.size w w1) := bstep HB_wc.out hB1
  have XA_v4 : Hid (Cel w1 w.heap.size (.slice p n c) (.slice p2 n2 c2)) := XA_v3.out.up hB1
  clear XA_v3
  have T1_v4 : Hid (Tn [] [0] (.agg #[.slice ps1 ns1 cs1, .slice pt1 nt1 ct1]) w1) := ⟨_, _, _, _, _, _, rfl, hs1.nums, ht1.nums⟩
  clear hB1 hs1 ht1 xa0 xa1 xaz
  obtain ⟨xa0, xa1, _, _⟩ := XA_v4.out
  have xaz := cell_lt xa0
  go_wp2_with fail
  generalize hW1 : World.alloc _ _ = W1
  have hC1 : Below w1.heap.size w1 W1 := by rw [← hW1]; exact up_alloc w1 _
  have HB_W1 : Hid (Below w.heap.size w W1) := bstep HB_w1.out hC1
  have XA_v5 : Hid (Cel W1 w.heap.size (.slice p n c) (.slice p2 n2 c2)) := XA_v4.out.up hC1
  have T1_v5 : Hid (Tn [] [0] (.agg #[.slice ps1 ns1 cs1, .slice pt1 nt1 ct1]) W1) := T1_v4.out.up hC1
  clear XA_v4 T1_v4
  have X1_v5 : Hid (Cel W1 w1.heap.size (.slice ps1 ns1 cs1) (.slice pt1 nt1 ct1)) := by show Cel _ _ _ _; unfold Cel; rw [← hW1]; simp [go_sem]
  clear hW1 hC1 xa0 xa1 xaz
  clear k1
  have k2 := tnew_any (.slice none 0 0) [] (fun y hy => by cases hy) 4294967296 W1 (.inl ⟨rfl, rfl⟩)
  rw [N1.out.1, N1.out.2.1, N1.out.2.2] at k2
  refine (k2).mono ?_
  rintro e w2 ⟨v2, rfl, ⟨s2, t2, rfl, hs2, ht2⟩, hB2⟩
  obtain ⟨ps2, ns2, cs2, rfl, _⟩ := hs2.nums.lst
  obtain ⟨pt2, nt2, ct2, rfl, _⟩ := ht2.nums.lst
  have HB_w2 : Hid (Below w.heap.size w w2) := bstep HB_W1.out hB2
  have XA_v6 : Hid (Cel w2 w.heap.size (.slice p n c) (.slice p2 n2 c2)) := XA_v5.out.up hB2
  have T1_v6 : Hid (Tn [] [0] (.agg #[.slice ps1 ns1 cs1, .slice pt1 nt1 ct1]) w2) := T1_v5.out.up hB2
  have X1_v6 : Hid (Cel w2 w1.heap.size (.slice ps1 ns1 cs1) (.slice pt1 nt1 ct1)) := X1_v5.out.up hB2
  clear XA_v5 T1_v5 X1_v5
  have T2_v6 : Hid (Tn [] [4294967296] (.agg #[.slice ps2 ns2 cs2, .slice pt2 nt2 ct2]) w2) := ⟨_, _, _, _, _, _, rfl, hs2.nums, ht2.nums⟩
  clear hB2 hs2 ht2 
  obtain ⟨xa0, xa1, _, _⟩ := XA_v6.out
  have xaz := cell_lt xa0
  obtain ⟨x10, x11, _, _⟩ := X1_v6.out
  have x1z := cell_lt x10
  go_wp2_with fail
  generalize hW2 : World.alloc _ _ = W2
  have hC2 : Below w2.heap.size w2 W2 := by rw [← hW2]; exact up_alloc w2 _
  have HB_W2 : Hid (Below w.heap.size w W2) := bstep HB_w2.out hC2
  have XA_v7 : Hid (Cel W2 w.heap.size (.slice p n c) (.slice p2 n2 c2)) := XA_v6.out.up hC2
  have T1_v7 : Hid (Tn [] [0] (.agg #[.slice ps1 ns1 cs1, .slice pt1 nt1 ct1]) W2) := T1_v6.out.up hC2
  have X1_v7 : Hid (Cel W2 w1.heap.size (.slice ps1 ns1 cs1) (.slice pt1 nt1 ct1)) := X1_v6.out.up hC2
  have T2_v7 : Hid (Tn [] [4294967296] (.agg #[.slice ps2 ns2 cs2, .slice pt2 nt2 ct2]) W2) := T2_v6.out.up hC2
  clear XA_v6 T1_v6 X1_v6 T2_v6
  have X2_v7 : Hid (Cel W2 w2.heap.size (.slice ps2 ns2 cs2) (.slice pt2 nt2 ct2)) := by show Cel _ _ _ _; unfold Cel; rw [← hW2]; simp [go_sem]
  clear hW2 hC2 xa0 xa1 xaz x10 x11 x1z
  clear k2
  have k3 := tadd_any p p2 ps1 pt1 n c n2 c2 ns1 cs1 nt1 ct1 d x [] [0] HI.out.1 HI.out.2.1 (fun y hy => by cases hy) (RI_lit (by decide +kernel)) W2 (HA.out.1.up HB_W2.out) (HA.out.2.up HB_W2.out) T1_v7.out.nums.1 T1_v7.out.nums.2
  rw [Ma.out.1, Ma.out.2.1, Ma.out.2.2] at k3
  refine (k3).mono ?_
  rintro e w3 ⟨v3, rfl, ⟨s3, t3, rfl, hs3, ht3⟩, hB3⟩
  obtain ⟨ps3, ns3, cs3, rfl, _⟩ := hs3.nums.lst
  obtain ⟨pt3, nt3, ct3, rfl, _⟩ := ht3.nums.lst
  have HB_w3 : Hid (Below w.heap.size w w3) := bstep HB_W2.out hB3
  have XA_v8 : Hid (Cel w3 w.heap.size (.slice p n c) (.slice p2 n2 c2)) := XA_v7.out.up hB3
  have T1_v8 : Hid (Tn [] [0] (.agg #[.slice ps1 ns1 cs1, .slice pt1 nt1 ct1]) w3) := T1_v7.out.up hB3
  have X1_v8 : Hid (Cel w3 w1.heap.size (.slice ps1 ns1 cs1) (.slice pt1 nt1 ct1)) := X1_v7.out.up hB3
  have T2_v8 : Hid (Tn [] [4294967296] (.agg #[.slice ps2 ns2 cs2, .slice pt2 nt2 ct2]) w3) := T2_v7.out.up hB3
  have X2_v8 : Hid (Cel w3 w2.heap.size (.slice ps2 ns2 cs2) (.slice pt2 nt2 ct2)) := X2_v7.out.up hB3
  clear XA_v7 T1_v7 X1_v7 T2_v7 X2_v7
  have T3_v8 : Hid (Tn d x (.agg #[.slice ps3 ns3 cs3, .slice pt3 nt3 ct3]) w3) := ⟨_, _, _, _, _, _, rfl, hs3.nums, ht3.nums⟩
  clear hB3 hs3 ht3 
  obtain ⟨xa0, xa1, _, _⟩ := XA_v8.out
  have xaz := cell_lt xa0
  obtain ⟨x20, x21, _, _⟩ := X2_v8.out
  have x2z := cell_lt x20
  go_wp2_with fail
  generalize hW3 : World.alloc _ _ = W3
  have hC3 : Below w3.heap.size w3 W3 := by rw [← hW3]; exact up_alloc w3 _
  have HB_W3 : Hid (Below w.heap.size w W3) := bstep HB_w3.out hC3
  have XA_v9 : Hid (Cel W3 w.heap.size (.slice p n c) (.slice p2 n2 c2)) := XA_v8.out.up hC3
  have T1_v9 : Hid (Tn [] [0] (.agg #[.slice ps1 ns1 cs1, .slice pt1 nt1 ct1]) W3) := T1_v8.out.up hC3
  have X1_v9 : Hid (Cel W3 w1.heap.size (.slice ps1 ns1 cs1) (.slice pt1 nt1 ct1)) := X1_v8.out.up hC3
  have T2_v9 : Hid (Tn [] [4294967296] (.agg #[.slice ps2 ns2 cs2, .slice pt2 nt2 ct2]) W3) := T2_v8.out.up hC3
  have X2_v9 : Hid (Cel W3 w2.heap.size (.slice ps2 ns2 cs2) (.slice pt2 nt2 ct2)) := X2_v8.out.up hC3
  have T3_v9 : Hid (Tn d x (.agg #[.slice ps3 ns3 cs3, .slice pt3 nt3 ct3]) W3) := T3_v8.out.up hC3
  clear XA_v8 T1_v8 X1_v8 T2_v8 X2_v8 T3_v8
  have X3_v9 : Hid (Cel W3 w3.heap.size (.slice ps3 ns3 cs3) (.slice pt3 nt3 ct3)) := by show Cel _ _ _ _; unfold Cel; rw [← hW3]; simp [go_sem]
  clear hW3 hC3 xa0 xa1 xaz x20 x21 x2z
  clear k3
  have k4 := tmul_any p p2 ps2 pt2 n c n2 c2 ns2 cs2 nt2 ct2 d x [] [4294967296] HI.out.1 HI.out.2.1 (fun y hy => by cases hy) (RI_lit (by decide +kernel)) W3 (HA.out.1.up HB_W3.out) (HA.out.2.up HB_W3.out) T2_v9.out.nums.1 T2_v9.out.nums.2
  rw [Mm.out.1, Mm.out.2.1, Mm.out.2.2] at k4
  refine (k4).mono ?_
  rintro e w4 ⟨v4, rfl, ⟨s4, t4, rfl, hs4, ht4⟩, hB4⟩
  obtain ⟨ps4, ns4, cs4, rfl, _⟩ := hs4.nums.lst
  obtain ⟨pt4, nt4, ct4, rfl, _⟩ := ht4.nums.lst
  have HB_w4 : Hid (Below w.heap.size w w4) := bstep HB_W3.out hB4
  have XA_v10 : Hid (Cel w4 w.heap.size (.slice p n c) (.slice p2 n2 c2)) := XA_v9.out.up hB4
  have T1_v10 : Hid (Tn [] [0] (.agg #[.slice ps1 ns1 cs1, .slice pt1 nt1 ct1]) w4) := T1_v9.out.up hB4
  have X1_v10 : Hid (Cel w4 w1.heap.size (.slice ps1 ns1 cs1) (.slice pt1 nt1 ct1)) := X1_v9.out.up hB4
  have T2_v10 : Hid (Tn [] [4294967296] (.agg #[.slice ps2 ns2 cs2, .slice pt2 nt2 ct2]) w4) := T2_v9.out.up hB4
  have X2_v10 : Hid (Cel w4 w2.heap.size (.slice ps2 ns2 cs2) (.slice pt2 nt2 ct2)) := X2_v9.out.up hB4
  have T3_v10 : Hid (Tn d x (.agg #[.slice ps3 ns3 cs3, .slice pt3 nt3 ct3]) w4) := T3_v9.out.up hB4
  have X3_v10 : Hid (Cel w4 w3.heap.size (.slice ps3 ns3 cs3) (.slice pt3 nt3 ct3)) := X3_v9.out.up hB4
  clear XA_v9 T1_v9 X1_v9 T2_v9 X2_v9 T3_v9 X3_v9
  have T4_v10 : Hid (Tn d x (.agg #[.slice ps4 ns4 cs4, .slice pt4 nt4 ct4]) w4) := ⟨_, _, _, _, _, _, rfl, hs4.nums, ht4.nums⟩
  clear hB4 hs4 ht4 
  obtain ⟨xa0, xa1, _, _⟩ := XA_v10.out
  have xaz := cell_lt xa0
  go_wp2_with fail
  generalize hW4 : World.alloc _ _ = W4
  have hC4 : Below w4.heap.size w4 W4 := by rw [← hW4]; exact up_alloc w4 _
  have HB_W4 : Hid (Below w.heap.size w W4) := bstep HB_w4.out hC4
  have XA_v11 : Hid (Cel W4 w.heap.size (.slice p n c) (.slice p2 n2 c2)) := XA_v10.out.up hC4
  have T1_v11 : Hid (Tn [] [0] (.agg #[.slice ps1 ns1 cs1, .slice pt1 nt1 ct1]) W4) := T1_v10.out.up hC4
  have X1_v11 : Hid (Cel W4 w1.heap.size (.slice ps1 ns1 cs1) (.slice pt1 nt1 ct1)) := X1_v10.out.up hC4
  have T2_v11 : Hid (Tn [] [4294967296] (.agg #[.slice ps2 ns2 cs2, .slice pt2 nt2 ct2]) W4) := T2_v10.out.up hC4
  have X2_v11 : Hid (Cel W4 w2.heap.size (.slice ps2 ns2 cs2) (.slice pt2 nt2 ct2)) := X2_v10.out.up hC4
  have T3_v11 : Hid (Tn d x (.agg #[.slice ps3 ns3 cs3, .slice pt3 nt3 ct3]) W4) := T3_v10.out.up hC4
  have X3_v11 : Hid (Cel W4 w3.heap.size (.slice ps3 ns3 cs3) (.slice pt3 nt3 ct3)) := X3_v10.out.up hC4
  have T4_v11 : Hid (Tn d x (.agg #[.slice ps4 ns4 cs4, .slice pt4 nt4 ct4]) W4) := T4_v10.out.up hC4
  clear XA_v10 T1_v10 X1_v10 T2_v10 X2_v10 T3_v10 X3_v10 T4_v10
  have X4_v11 : Hid (Cel W4 w4.heap.size (.slice ps4 ns4 cs4) (.slice pt4 nt4 ct4)) := by show Cel _ _ _ _; unfold Cel; rw [← hW4]; simp [go_sem]
  clear hW4 hC4 xa0 xa1 xaz
  clear k4
  have k5 := tfold_any p p2 p n c n2 c2 n c d x d HI.out.1 HI.out.2.1 HI.out.1 W4 (HA.out.1.up HB_W4.out) (HA.out.2.up HB_W4.out) (HA.out.1.up HB_W4.out)
  rw [Mf.out.1, Mf.out.2.1, Mf.out.2.2] at k5
  refine (k5).mono ?_
  rintro e w5 ⟨v5, rfl, ⟨s5, t5, rfl, hs5, ht5⟩, hB5⟩
  obtain ⟨ps5, ns5, cs5, rfl, _⟩ := hs5.nums.lst
  obtain ⟨pt5, nt5, ct5, rfl, _⟩ := ht5.nums.lst
  have HB_w5 : Hid (Below w.heap.size w w5) := bstep HB_W4.out hB5
  have XA_v12 : Hid (Cel w5 w.heap.size (.slice p n c) (.slice p2 n2 c2)) := XA_v11.out.up hB5
  have T1_v12 : Hid (Tn [] [0] (.agg #[.slice ps1 ns1 cs1, .slice pt1 nt1 ct1]) w5) := T1_v11.out.up hB5
  have X1_v12 : Hid (Cel w5 w1.heap.size (.slice ps1 ns1 cs1) (.slice pt1 nt1 ct1)) := X1_v11.out.up hB5
  have T2_v12 : Hid (Tn [] [4294967296] (.agg #[.slice ps2 ns2 cs2, .slice pt2 nt2 ct2]) w5) := T2_v11.out.up hB5
  have X2_v12 : Hid (Cel w5 w2.heap.size (.slice ps2 ns2 cs2) (.slice pt2 nt2 ct2)) := X2_v11.out.up hB5
  have T3_v12 : Hid (Tn d x (.agg #[.slice ps3 ns3 cs3, .slice pt3 nt3 ct3]) w5) := T3_v11.out.up hB5
  have X3_v12 : Hid (Cel w5 w3.heap.size (.slice ps3 ns3 cs3) (.slice pt3 nt3 ct3)) := X3_v11.out.up hB5
  have T4_v12 : Hid (Tn d x (.agg #[.slice ps4 ns4 cs4, .slice pt4 nt4 ct4]) w5) := T4_v11.out.up hB5
  have X4_v12 : Hid (Cel w5 w4.heap.size (.slice ps4 ns4 cs4) (.slice pt4 nt4 ct4)) := X4_v11.out.up hB5
  clear XA_v11 T1_v11 X1_v11 T2_v11 X2_v11 T3_v11 X3_v11 T4_v11 X4_v11
  have T5_v12 : Hid (Tn d x (.agg #[.slice ps5 ns5 cs5, .slice pt5 nt5 ct5]) w5) := ⟨_, _, _, _, _, _, rfl, hs5.nums, ht5.nums⟩
  clear hB5 hs5 ht5 
  obtain ⟨xa0, xa1, _, _⟩ := XA_v12.out
  have xaz := cell_lt xa0
  go_wp2_with fail
  generalize hW5 : World.alloc _ _ = W5
  have hC5 : Below w5.heap.size w5 W5 := by rw [← hW5]; exact up_alloc w5 _
  have HB_W5 : Hid (Below w.heap.size w W5) := bstep HB_w5.out hC5
  have XA_v13 : Hid (Cel W5 w.heap.size (.slice p n c) (.slice p2 n2 c2)) := XA_v12.out.up hC5
  have T1_v13 : Hid (Tn [] [0] (.agg #[.slice ps1 ns1 cs1, .slice pt1 nt1 ct1]) W5) := T1_v12.out.up hC5
  have X1_v13 : Hid (Cel W5 w1.heap.size (.slice ps1 ns1 cs1) (.slice pt1 nt1 ct1)) := X1_v12.out.up hC5
  have T2_v13 : Hid (Tn [] [4294967296] (.agg #[.slice ps2 ns2 cs2, .slice pt2 nt2 ct2]) W5) := T2_v12.out.up hC5
  have X2_v13 : Hid (Cel W5 w2.heap.size (.slice ps2 ns2 cs2) (.slice pt2 nt2 ct2)) := X2_v12.out.up hC5
  have T3_v13 : Hid (Tn d x (.agg #[.slice ps3 ns3 cs3, .slice pt3 nt3 ct3]) W5) := T3_v12.out.up hC5
  have X3_v13 : Hid (Cel W5 w3.heap.size (.slice ps3 ns3 cs3) (.slice pt3 nt3 ct3)) := X3_v12.out.up hC5
  have T4_v13 : Hid (Tn d x (.agg #[.slice ps4 ns4 cs4, .slice pt4 nt4 ct4]) W5) := T4_v12.out.up hC5
  have X4_v13 : Hid (Cel W5 w4.heap.size (.slice ps4 ns4 cs4) (.slice pt4 nt4 ct4)) := X4_v12.out.up hC5
  have T5_v13 : Hid (Tn d x (.agg #[.slice ps5 ns5 cs5, .slice pt5 nt5 ct5]) W5) := T5_v12.out.up hC5
  clear XA_v12 T1_v12 X1_v12 T2_v12 X2_v12 T3_v12 X3_v12 T4_v12 X4_v12 T5_v12
  have X5_v13 : Hid (Cel W5 w5.heap.size (.slice ps5 ns5 cs5) (.slice pt5 nt5 ct5)) := by show Cel _ _ _ _; unfold Cel; rw [← hW5]; simp [go_sem]
  clear hW5 hC5 xa0 xa1 xaz
  clear k5
  have k6 := tscale_any p p2 n c n2 c2 d x HI.out.1 HI.out.2.1 4294967296 (by unfold Fx.InR; omega) W5 (HA.out.1.up HB_W5.out) (HA.out.2.up HB_W5.out)
  rw [Ms.out.1, Ms.out.2.1, Ms.out.2.2] at k6
  refine (k6).mono ?_
  rintro e w6 ⟨v6, rfl, ⟨s6, t6, rfl, hs6, ht6⟩, hB6⟩
  obtain ⟨ps6, ns6, cs6, rfl, _⟩ := hs6.nums.lst
  obtain ⟨pt6, nt6, ct6, rfl, _⟩ := ht6.nums.lst
  have HB_w6 : Hid (Below w.heap.size w w6) := bstep HB_W5.out hB6
  have XA_v14 : Hid (Cel w6 w.heap.size (.slice p n c) (.slice p2 n2 c2)) := XA_v13.out.up hB6
  have T1_v14 : Hid (Tn [] [0] (.agg #[.slice ps1 ns1 cs1, .slice pt1 nt1 ct1]) w6) := T1_v13.out.up hB6
  have X1_v14 : Hid (Cel w6 w1.heap.size (.slice ps1 ns1 cs1) (.slice pt1 nt1 ct1)) := X1_v13.out.up hB6
  have T2_v14 : Hid (Tn [] [4294967296] (.agg #[.slice ps2 ns2 cs2, .slice pt2 nt2 ct2]) w6) := T2_v13.out.up hB6
  have X2_v14 : Hid (Cel w6 w2.heap.size (.slice ps2 ns2 cs2) (.slice pt2 nt2 ct2)) := X2_v13.out.up hB6
  have T3_v14 : Hid (Tn d x (.agg #[.slice ps3 ns3 cs3, .slice pt3 nt3 ct3]) w6) := T3_v13.out.up hB6
  have X3_v14 : Hid (Cel w6 w3.heap.size (.slice ps3 ns3 cs3) (.slice pt3 nt3 ct3)) := X3_v13.out.up hB6
  have T4_v14 : Hid (Tn d x (.agg #[.slice ps4 ns4 cs4, .slice pt4 nt4 ct4]) w6) := T4_v13.out.up hB6
  have X4_v14 : Hid (Cel w6 w4.heap.size (.slice ps4 ns4 cs4) (.slice pt4 nt4 ct4)) := X4_v13.out.up hB6
  have T5_v14 : Hid (Tn d x (.agg #[.slice ps5 ns5 cs5, .slice pt5 nt5 ct5]) w6) := T5_v13.out.up hB6
  have X5_v14 : Hid (Cel w6 w5.heap.size (.slice ps5 ns5 cs5) (.slice pt5 nt5 ct5)) := X5_v13.out.up hB6
  clear XA_v13 T1_v13 X1_v13 T2_v13 X2_v13 T3_v13 X3_v13 T4_v13 X4_v13 T5_v13 X5_v13
  have T6_v14 : Hid (Tn d x (.agg #[.slice ps6 ns6 cs6, .slice pt6 nt6 ct6]) w6) := ⟨_, _, _, _, _, _, rfl, hs6.nums, ht6.nums⟩
  clear hB6 hs6 ht6 
  obtain ⟨xa0, xa1, _, _⟩ := XA_v14.out
  have xaz := cell_lt xa0
  go_wp2_with fail
  generalize hW6 : World.alloc _ _ = W6
  have hC6 : Below w6.heap.size w6 W6 := by rw [← hW6]; exact up_alloc w6 _
  have HB_W6 : Hid (Below w.heap.size w W6) := bstep HB_w6.out hC6
  have XA_v15 : Hid (Cel W6 w.heap.size (.slice p n c) (.slice p2 n2 c2)) := XA_v14.out.up hC6
  have T1_v15 : Hid (Tn [] [0] (.agg #[.slice ps1 ns1 cs1, .slice pt1 nt1 ct1]) W6) := T1_v14.out.up hC6
  have X1_v15 : Hid (Cel W6 w1.heap.size (.slice ps1 ns1 cs1) (.slice pt1 nt1 ct1)) := X1_v14.out.up hC6
  have T2_v15 : Hid (Tn [] [4294967296] (.agg #[.slice ps2 ns2 cs2, .slice pt2 nt2 ct2]) W6) := T2_v14.out.up hC6
  have X2_v15 : Hid (Cel W6 w2.heap.size (.slice ps2 ns2 cs2) (.slice pt2 nt2 ct2)) := X2_v14.out.up hC6
  have T3_v15 : Hid (Tn d x (.agg #[.slice ps3 ns3 cs3, .slice pt3 nt3 ct3]) W6) := T3_v14.out.up hC6
  have X3_v15 : Hid (Cel W6 w3.heap.size (.slice ps3 ns3 cs3) (.slice pt3 nt3 ct3)) := X3_v14.out.up hC6
  have T4_v15 : Hid (Tn d x (.agg #[.slice ps4 ns4 cs4, .slice pt4 nt4 ct4]) W6) := T4_v14.out.up hC6
  have X4_v15 : Hid (Cel W6 w4.heap.size (.slice ps4 ns4 cs4) (.slice pt4 nt4 ct4)) := X4_v14.out.up hC6
  have T5_v15 : Hid (Tn d x (.agg #[.slice ps5 ns5 cs5, .slice pt5 nt5 ct5]) W6) := T5_v14.out.up hC6
  have X5_v15 : Hid (Cel W6 w5.heap.size (.slice ps5 ns5 cs5) (.slice pt5 nt5 ct5)) := X5_v14.out.up hC6
  have T6_v15 : Hid (Tn d x (.agg #[.slice ps6 ns6 cs6, .slice pt6 nt6 ct6]) W6) := T6_v14.out.up hC6
  clear XA_v14 T1_v14 X1_v14 T2_v14 X2_v14 T3_v14 X3_v14 T4_v14 X4_v14 T5_v14 X5_v14 T6_v14
  have X6_v15 : Hid (Cel W6 w6.heap.size (.slice ps6 ns6 cs6) (.slice pt6 nt6 ct6)) := by show Cel _ _ _ _; unfold Cel; rw [← hW6]; simp [go_sem]
  clear hW6 hC6 xa0 xa1 xaz
  clear k6
  have k7 := tsub_any p p2 p p2 n c n2 c2 n c n2 c2 d x d x HI.out.1 HI.out.2.1 HI.out.1 HI.out.2.1 W6 (HA.out.1.up HB_W6.out) (HA.out.2.up HB_W6.out) (HA.out.1.up HB_W6.out) (HA.out.2.up HB_W6.out)
  rw [Md.out.1, Md.out.2.1, Md.out.2.2] at k7
  refine (k7).mono ?_
  rintro e w7 ⟨v7, rfl, ⟨s7, t7, rfl, hs7, ht7⟩, hB7⟩
  obtain ⟨ps7, ns7, cs7, rfl, _⟩ := hs7.nums.lst
  obtain ⟨pt7, nt7, ct7, rfl, _⟩ := ht7.nums.lst
  have HB_w7 : Hid (Below w.heap.size w w7) := bstep HB_W6.out hB7
  have XA_v16 : Hid (Cel w7 w.heap.size (.slice p n c) (.slice p2 n2 c2)) := XA_v15.out.up hB7
  have T1_v16 : Hid (Tn [] [0] (.agg #[.slice ps1 ns1 cs1, .slice pt1 nt1 ct1]) w7) := T1_v15.out.up hB7
  have X1_v16 : Hid (Cel w7 w1.heap.size (.slice ps1 ns1 cs1) (.slice pt1 nt1 ct1)) := X1_v15.out.up hB7
  have T2_v16 : Hid (Tn [] [4294967296] (.agg #[.slice ps2 ns2 cs2, .slice pt2 nt2 ct2]) w7) := T2_v15.out.up hB7
  have X2_v16 : Hid (Cel w7 w2.heap.size (.slice ps2 ns2 cs2) (.slice pt2 nt2 ct2)) := X2_v15.out.up hB7
  have T3_v16 : Hid (Tn d x (.agg #[.slice ps3 ns3 cs3, .slice pt3 nt3 ct3]) w7) := T3_v15.out.up hB7
  have X3_v16 : Hid (Cel w7 w3.heap.size (.slice ps3 ns3 cs3) (.slice pt3 nt3 ct3)) := X3_v15.out.up hB7
  have T4_v16 : Hid (Tn d x (.agg #[.slice ps4 ns4 cs4, .slice pt4 nt4 ct4]) w7) := T4_v15.out.up hB7
  have X4_v16 : Hid (Cel w7 w4.heap.size (.slice ps4 ns4 cs4) (.slice pt4 nt4 ct4)) := X4_v15.out.up hB7
  have T5_v16 : Hid (Tn d x (.agg #[.slice ps5 ns5 cs5, .slice pt5 nt5 ct5]) w7) := T5_v15.out.up hB7
  have X5_v16 : Hid (Cel w7 w5.heap.size (.slice ps5 ns5 cs5) (.slice pt5 nt5 ct5)) := X5_v15.out.up hB7
  have T6_v16 : Hid (Tn d x (.agg #[.slice ps6 ns6 cs6, .slice pt6 nt6 ct6]) w7) := T6_v15.out.up hB7
  have X6_v16 : Hid (Cel w7 w6.heap.size (.slice ps6 ns6 cs6) (.slice pt6 nt6 ct6)) := X6_v15.out.up hB7
  clear XA_v15 T1_v15 X1_v15 T2_v15 X2_v15 T3_v15 X3_v15 T4_v15 X4_v15 T5_v15 X5_v15 T6_v15 X6_v15
  have T7_v16 : Hid (Tn d Z (.agg #[.slice ps7 ns7 cs7, .slice pt7 nt7 ct7]) w7) := ⟨_, _, _, _, _, _, rfl, hs7.nums, ht7.nums⟩
  clear hB7 hs7 ht7 
  obtain ⟨xa0, xa1, _, _⟩ := XA_v16.out
  have xaz := cell_lt xa0
  go_wp2_with fail
  generalize hW7 : World.alloc _ _ = W7
  have hC7 : Below w7.heap.size w7 W7 := by rw [← hW7]; exact up_alloc w7 _
  have HB_W7 : Hid (Below w.heap.size w W7) := bstep HB_w7.out hC7
  have XA_v17 : Hid (Cel W7 w.heap.size (.slice p n c) (.slice p2 n2 c2)) := XA_v16.out.up hC7
  have T1_v17 : Hid (Tn [] [0] (.agg #[.slice ps1 ns1 cs1, .slice pt1 nt1 ct1]) W7) := T1_v16.out.up hC7
  have X1_v17 : Hid (Cel W7 w1.heap.size (.slice ps1 ns1 cs1) (.slice pt1 nt1 ct1)) := X1_v16.out.up hC7
  have T2_v17 : Hid (Tn [] [4294967296] (.agg #[.slice ps2 ns2 cs2, .slice pt2 nt2 ct2]) W7) := T2_v16.out.up hC7
  have X2_v17 : Hid (Cel W7 w2.heap.size (.slice ps2 ns2 cs2) (.slice pt2 nt2 ct2)) := X2_v16.out.up hC7
  have T3_v17 : Hid (Tn d x (.agg #[.slice ps3 ns3 cs3, .slice pt3 nt3 ct3]) W7) := T3_v16.out.up hC7
  have X3_v17 : Hid (Cel W7 w3.heap.size (.slice ps3 ns3 cs3) (.slice pt3 nt3 ct3)) := X3_v16.out.up hC7
  have T4_v17 : Hid (Tn d x (.agg #[.slice ps4 ns4 cs4, .slice pt4 nt4 ct4]) W7) := T4_v16.out.up hC7
  have X4_v17 : Hid (Cel W7 w4.heap.size (.slice ps4 ns4 cs4) (.slice pt4 nt4 ct4)) := X4_v16.out.up hC7
  have T5_v17 : Hid (Tn d x (.agg #[.slice ps5 ns5 cs5, .slice pt5 nt5 ct5]) W7) := T5_v16.out.up hC7
  have X5_v17 : Hid (Cel W7 w5.heap.size (.slice ps5 ns5 cs5) (.slice pt5 nt5 ct5)) := X5_v16.out.up hC7
  have T6_v17 : Hid (Tn d x (.agg #[.slice ps6 ns6 cs6, .slice pt6 nt6 ct6]) W7) := T6_v16.out.up hC7
  have X6_v17 : Hid (Cel W7 w6.heap.size (.slice ps6 ns6 cs6) (.slice pt6 nt6 ct6)) := X6_v16.out.up hC7
  have T7_v17 : Hid (Tn d Z (.agg #[.slice ps7 ns7 cs7, .slice pt7 nt7 ct7]) W7) := T7_v16.out.up hC7
  clear XA_v16 T1_v16 X1_v16 T2_v16 X2_v16 T3_v16 X3_v16 T4_v16 X4_v16 T5_v16 X5_v16 T6_v16 X6_v16 T7_v16
  have X7_v17 : Hid (Cel W7 w7.heap.size (.slice ps7 ns7 cs7) (.slice pt7 nt7 ct7)) := by show Cel _ _ _ _; unfold Cel; rw [← hW7]; simp [go_sem]
  clear hW7 hC7 xa0 xa1 xaz
  clear k7
  have k8 := tnew_any (.slice p n c) d HI.out.1 0 W7 (HA.out.1.up HB_W7.out)
  rw [Mn.out.1, Mn.out.2.1, Mn.out.2.2.1] at k8
  refine (k8).mono ?_
  rintro e w8 ⟨v8, rfl, ⟨s8, t8, rfl, hs8, ht8⟩, hB8⟩
  obtain ⟨ps8, ns8, cs8, rfl, _⟩ := hs8.nums.lst
  obtain ⟨pt8, nt8, ct8, rfl, _⟩ := ht8.nums.lst
  have HB_w8 : Hid (Below w.heap.size w w8) := bstep HB_W7.out hB8
  have XA_v18 : Hid (Cel w8 w.heap.size (.slice p n c) (.slice p2 n2 c2)) := XA_v17.out.up hB8
  have T1_v18 : Hid (Tn [] [0] (.agg #[.slice ps1 ns1 cs1, .slice pt1 nt1 ct1]) w8) := T1_v17.out.up hB8
  have X1_v18 : Hid (Cel w8 w1.heap.size (.slice ps1 ns1 cs1) (.slice pt1 nt1 ct1)) := X1_v17.out.up hB8
  have T2_v18 : Hid (Tn [] [4294967296] (.agg #[.slice ps2 ns2 cs2, .slice pt2 nt2 ct2]) w8) := T2_v17.out.up hB8
  have X2_v18 : Hid (Cel w8 w2.heap.size (.slice ps2 ns2 cs2) (.slice pt2 nt2 ct2)) := X2_v17.out.up hB8
  have T3_v18 : Hid (Tn d x (.agg #[.slice ps3 ns3 cs3, .slice pt3 nt3 ct3]) w8) := T3_v17.out.up hB8
  have X3_v18 : Hid (Cel w8 w3.heap.size (.slice ps3 ns3 cs3) (.slice pt3 nt3 ct3)) := X3_v17.out.up hB8
  have T4_v18 : Hid (Tn d x (.agg #[.slice ps4 ns4 cs4, .slice pt4 nt4 ct4]) w8) := T4_v17.out.up hB8
  have X4_v18 : Hid (Cel w8 w4.heap.size (.slice ps4 ns4 cs4) (.slice pt4 nt4 ct4)) := X4_v17.out.up hB8
  have T5_v18 : Hid (Tn d x (.agg #[.slice ps5 ns5 cs5, .slice pt5 nt5 ct5]) w8) := T5_v17.out.up hB8
  have X5_v18 : Hid (Cel w8 w5.heap.size (.slice ps5 ns5 cs5) (.slice pt5 nt5 ct5)) := X5_v17.out.up hB8
  have T6_v18 : Hid (Tn d x (.agg #[.slice ps6 ns6 cs6, .slice pt6 nt6 ct6]) w8) := T6_v17.out.up hB8
  have X6_v18 : Hid (Cel w8 w6.heap.size (.slice ps6 ns6 cs6) (.slice pt6 nt6 ct6)) := X6_v17.out.up hB8
  have T7_v18 : Hid (Tn d Z (.agg #[.slice ps7 ns7 cs7, .slice pt7 nt7 ct7]) w8) := T7_v17.out.up hB8
  have X7_v18 : Hid (Cel w8 w7.heap.size (.slice ps7 ns7 cs7) (.slice pt7 nt7 ct7)) := X7_v17.out.up hB8
  clear XA_v17 T1_v17 X1_v17 T2_v17 X2_v17 T3_v17 X3_v17 T4_v17 X4_v17 T5_v17 X5_v17 T6_v17 X6_v17 T7_v17 X7_v17
  have T8_v18 : Hid (Tn d Z (.agg #[.slice ps8 ns8 cs8, .slice pt8 nt8 ct8]) w8) := ⟨_, _, _, _, _, _, rfl, hs8.nums, ht8.nums⟩
  clear hB8 hs8 ht8 
  obtain ⟨xa0, xa1, _, _⟩ := XA_v18.out
  have xaz := cell_lt xa0
  obtain ⟨x30, x31, _, _⟩ := X3_v18.out
  have x3z := cell_lt x30
  obtain ⟨x40, x41, _, _⟩ := X4_v18.out
  have x4z := cell_lt x40
  obtain ⟨x50, x51, _, _⟩ := X5_v18.out
  have x5z := cell_lt x50
  obtain ⟨x60, x61, _, _⟩ := X6_v18.out
  have x6z := cell_lt x60
  obtain ⟨x70, x71, _, _⟩ := X7_v18.out
  have x7z := cell_lt x70
  go_wp2_with fail
  generalize hW8 : World.alloc _ _ = W8
  have hC8 : Below w8.heap.size w8 W8 := by rw [← hW8]; exact up_alloc w8 _
  have HB_W8 : Hid (Below w.heap.size w W8) := bstep HB_w8.out hC8
  have XA_v19 : Hid (Cel W8 w.heap.size (.slice p n c) (.slice p2 n2 c2)) := XA_v18.out.up hC8
  have T1_v19 : Hid (Tn [] [0] (.agg #[.slice ps1 ns1 cs1, .slice pt1 nt1 ct1]) W8) := T1_v18.out.up hC8
  have X1_v19 : Hid (Cel W8 w1.heap.size (.slice ps1 ns1 cs1) (.slice pt1 nt1 ct1)) := X1_v18.out.up hC8
  have T2_v19 : Hid (Tn [] [4294967296] (.agg #[.slice ps2 ns2 cs2, .slice pt2 nt2 ct2]) W8) := T2_v18.out.up hC8
  have X2_v19 : Hid (Cel W8 w2.heap.size (.slice ps2 ns2 cs2) (.slice pt2 nt2 ct2)) := X2_v18.out.up hC8
  have T3_v19 : Hid (Tn d x (.agg #[.slice ps3 ns3 cs3, .slice pt3 nt3 ct3]) W8) := T3_v18.out.up hC8
  have X3_v19 : Hid (Cel W8 w3.heap.size (.slice ps3 ns3 cs3) (.slice pt3 nt3 ct3)) := X3_v18.out.up hC8
  have T4_v19 : Hid (Tn d x (.agg #[.slice ps4 ns4 cs4, .slice pt4 nt4 ct4]) W8) := T4_v18.out.up hC8
  have X4_v19 : Hid (Cel W8 w4.heap.size (.slice ps4 ns4 cs4) (.slice pt4 nt4 ct4)) := X4_v18.out.up hC8
  have T5_v19 : Hid (Tn d x (.agg #[.slice ps5 ns5 cs5, .slice pt5 nt5 ct5]) W8) := T5_v18.out.up hC8
  have X5_v19 : Hid (Cel W8 w5.heap.size (.slice ps5 ns5 cs5) (.slice pt5 nt5 ct5)) := X5_v18.out.up hC8
  have T6_v19 : Hid (Tn d x (.agg #[.slice ps6 ns6 cs6, .slice pt6 nt6 ct6]) W8) := T6_v18.out.up hC8
  have X6_v19 : Hid (Cel W8 w6.heap.size (.slice ps6 ns6 cs6) (.slice pt6 nt6 ct6)) := X6_v18.out.up hC8
  have T7_v19 : Hid (Tn d Z (.agg #[.slice ps7 ns7 cs7, .slice pt7 nt7 ct7]) W8) := T7_v18.out.up hC8
  have X7_v19 : Hid (Cel W8 w7.heap.size (.slice ps7 ns7 cs7) (.slice pt7 nt7 ct7)) := X7_v18.out.up hC8
  have T8_v19 : Hid (Tn d Z (.agg #[.slice ps8 ns8 cs8, .slice pt8 nt8 ct8]) W8) := T8_v18.out.up hC8
  clear XA_v18 T1_v18 X1_v18 T2_v18 X2_v18 T3_v18 X3_v18 T4_v18 X4_v18 T5_v18 X5_v18 T6_v18 X6_v18 T7_v18 X7_v18 T8_v18
  have X8_v19 : Hid (Cel W8 w8.heap.size (.slice ps8 ns8 cs8) (.slice pt8 nt8 ct8)) := by show Cel _ _ _ _; unfold Cel; rw [← hW8]; simp [go_sem]
  clear hW8 hC8 xa0 xa1 xaz x30 x31 x3z x40 x41 x4z x50 x51 x5z x60 x61 x6z x70 x71 x7z
  clear k8
  have l0 := same_tn T3_v19.out (HTa.out W8 HB_W8.out) HI.out.2.2.1 HI.out.2.2.2
  rw [decide_eq_true ⟨rfl, rfl⟩] at l0
  refine l0.mono ?_
  rintro e y0 ⟨rfl, hY0⟩
  have HB_y0 : Hid (Below w.heap.size w y0) := bstep HB_W8.out hY0
  have XA_v20 : Hid (Cel y0 w.heap.size (.slice p n c) (.slice p2 n2 c2)) := XA_v19.out.up hY0
  have T1_v20 : Hid (Tn [] [0] (.agg #[.slice ps1 ns1 cs1, .slice pt1 nt1 ct1]) y0) := T1_v19.out.up hY0
  have X1_v20 : Hid (Cel y0 w1.heap.size (.slice ps1 ns1 cs1) (.slice pt1 nt1 ct1)) := X1_v19.out.up hY0
  have T2_v20 : Hid (Tn [] [4294967296] (.agg #[.slice ps2 ns2 cs2, .slice pt2 nt2 ct2]) y0) := T2_v19.out.up hY0
  have X2_v20 : Hid (Cel y0 w2.heap.size (.slice ps2 ns2 cs2) (.slice pt2 nt2 ct2)) := X2_v19.out.up hY0
  have T3_v20 : Hid (Tn d x (.agg #[.slice ps3 ns3 cs3, .slice pt3 nt3 ct3]) y0) := T3_v19.out.up hY0
  have X3_v20 : Hid (Cel y0 w3.heap.size (.slice ps3 ns3 cs3) (.slice pt3 nt3 ct3)) := X3_v19.out.up hY0
  have T4_v20 : Hid (Tn d x (.agg #[.slice ps4 ns4 cs4, .slice pt4 nt4 ct4]) y0) := T4_v19.out.up hY0
  have X4_v20 : Hid (Cel y0 w4.heap.size (.slice ps4 ns4 cs4) (.slice pt4 nt4 ct4)) := X4_v19.out.up hY0
  have T5_v20 : Hid (Tn d x (.agg #[.slice ps5 ns5 cs5, .slice pt5 nt5 ct5]) y0) := T5_v19.out.up hY0
  have X5_v20 : Hid (Cel y0 w5.heap.size (.slice ps5 ns5 cs5) (.slice pt5 nt5 ct5)) := X5_v19.out.up hY0
  have T6_v20 : Hid (Tn d x (.agg #[.slice ps6 ns6 cs6, .slice pt6 nt6 ct6]) y0) := T6_v19.out.up hY0
  have X6_v20 : Hid (Cel y0 w6.heap.size (.slice ps6 ns6 cs6) (.slice pt6 nt6 ct6)) := X6_v19.out.up hY0
  have T7_v20 : Hid (Tn d Z (.agg #[.slice ps7 ns7 cs7, .slice pt7 nt7 ct7]) y0) := T7_v19.out.up hY0
  have X7_v20 : Hid (Cel y0 w7.heap.size (.slice ps7 ns7 cs7) (.slice pt7 nt7 ct7)) := X7_v19.out.up hY0
  have T8_v20 : Hid (Tn d Z (.agg #[.slice ps8 ns8 cs8, .slice pt8 nt8 ct8]) y0) := T8_v19.out.up hY0
  have X8_v20 : Hid (Cel y0 w8.heap.size (.slice ps8 ns8 cs8) (.slice pt8 nt8 ct8)) := X8_v19.out.up hY0
  clear XA_v19 T1_v19 X1_v19 T2_v19 X2_v19 T3_v19 X3_v19 T4_v19 X4_v19 T5_v19 X5_v19 T6_v19 X6_v19 T7_v19 X7_v19 T8_v19 X8_v19
  clear l0 hY0 
  have l1 := same_tn T4_v20.out (HTa.out y0 HB_y0.out) HI.out.2.2.1 HI.out.2.2.2
  rw [decide_eq_true ⟨rfl, rfl⟩] at l1
  obtain ⟨x40, x41, _, _⟩ := X4_v20.out
  have x4z := cell_lt x40
  obtain ⟨xa0, xa1, _, _⟩ := XA_v20.out
  have xaz := cell_lt xa0
  go_wp2_with fail
  refine l1.mono ?_
  rintro e y1 ⟨rfl, hY1⟩
  have HB_y1 : Hid (Below w.heap.size w y1) := bstep HB_y0.out hY1
  have XA_v21 : Hid (Cel y1 w.heap.size (.slice p n c) (.slice p2 n2 c2)) := XA_v20.out.up hY1
  have T1_v21 : Hid (Tn [] [0] (.agg #[.slice ps1 ns1 cs1, .slice pt1 nt1 ct1]) y1) := T1_v20.out.up hY1
  have X1_v21 : Hid (Cel y1 w1.heap.size (.slice ps1 ns1 cs1) (.slice pt1 nt1 ct1)) := X1_v20.out.up hY1
  have T2_v21 : Hid (Tn [] [4294967296] (.agg #[.slice ps2 ns2 cs2, .slice pt2 nt2 ct2]) y1) := T2_v20.out.up hY1
  have X2_v21 : Hid (Cel y1 w2.heap.size (.slice ps2 ns2 cs2) (.slice pt2 nt2 ct2)) := X2_v20.out.up hY1
  have T3_v21 : Hid (Tn d x (.agg #[.slice ps3 ns3 cs3, .slice pt3 nt3 ct3]) y1) := T3_v20.out.up hY1
  have X3_v21 : Hid (Cel y1 w3.heap.size (.slice ps3 ns3 cs3) (.slice pt3 nt3 ct3)) := X3_v20.out.up hY1
  have T4_v21 : Hid (Tn d x (.agg #[.slice ps4 ns4 cs4, .slice pt4 nt4 ct4]) y1) := T4_v20.out.up hY1
  have X4_v21 : Hid (Cel y1 w4.heap.size (.slice ps4 ns4 cs4) (.slice pt4 nt4 ct4)) := X4_v20.out.up hY1
  have T5_v21 : Hid (Tn d x (.agg #[.slice ps5 ns5 cs5, .slice pt5 nt5 ct5]) y1) := T5_v20.out.up hY1
  have X5_v21 : Hid (Cel y1 w5.heap.size (.slice ps5 ns5 cs5) (.slice pt5 nt5 ct5)) := X5_v20.out.up hY1
  have T6_v21 : Hid (Tn d x (.agg #[.slice ps6 ns6 cs6, .slice pt6 nt6 ct6]) y1) := T6_v20.out.up hY1
  have X6_v21 : Hid (Cel y1 w6.heap.size (.slice ps6 ns6 cs6) (.slice pt6 nt6 ct6)) := X6_v20.out.up hY1
  have T7_v21 : Hid (Tn d Z (.agg #[.slice ps7 ns7 cs7, .slice pt7 nt7 ct7]) y1) := T7_v20.out.up hY1
  have X7_v21 : Hid (Cel y1 w7.heap.size (.slice ps7 ns7 cs7) (.slice pt7 nt7 ct7)) := X7_v20.out.up hY1
  have T8_v21 : Hid (Tn d Z (.agg #[.slice ps8 ns8 cs8, .slice pt8 nt8 ct8]) y1) := T8_v20.out.up hY1
  have X8_v21 : Hid (Cel y1 w8.heap.size (.slice ps8 ns8 cs8) (.slice pt8 nt8 ct8)) := X8_v20.out.up hY1
  clear XA_v20 T1_v20 X1_v20 T2_v20 X2_v20 T3_v20 X3_v20 T4_v20 X4_v20 T5_v20 X5_v20 T6_v20 X6_v20 T7_v20 X7_v20 T8_v20 X8_v20
  clear l1 hY1 x40 x41 x4z xa0 xa1 xaz
  have l2 := same_tn T5_v21.out (HTa.out y1 HB_y1.out) HI.out.2.2.1 HI.out.2.2.2
  rw [decide_eq_true ⟨rfl, rfl⟩] at l2
  obtain ⟨x50, x51, _, _⟩ := X5_v21.out
  have x5z := cell_lt x50
  obtain ⟨xa0, xa1, _, _⟩ := XA_v21.out
  have xaz := cell_lt xa0
  go_wp2_with fail
  refine l2.mono ?_
  rintro e y2 ⟨rfl, hY2⟩
  have HB_y2 : Hid (Below w.heap.size w y2) := bstep HB_y1.out hY2
  have XA_v22 : Hid (Cel y2 w.heap.size (.slice p n c) (.slice p2 n2 c2)) := XA_v21.out.up hY2
  have T1_v22 : Hid (Tn [] [0] (.agg #[.slice ps1 ns1 cs1, .slice pt1 nt1 ct1]) y2) := T1_v21.out.up hY2
  have X1_v22 : Hid (Cel y2 w1.heap.size (.slice ps1 ns1 cs1) (.slice pt1 nt1 ct1)) := X1_v21.out.up hY2
  have T2_v22 : Hid (Tn [] [4294967296] (.agg #[.slice ps2 ns2 cs2, .slice pt2 nt2 ct2]) y2) := T2_v21.out.up hY2
  have X2_v22 : Hid (Cel y2 w2.heap.size (.slice ps2 ns2 cs2) (.slice pt2 nt2 ct2)) := X2_v21.out.up hY2
  have T3_v22 : Hid (Tn d x (.agg #[.slice ps3 ns3 cs3, .slice pt3 nt3 ct3]) y2) := T3_v21.out.up hY2
  have X3_v22 : Hid (Cel y2 w3.heap.size (.slice ps3 ns3 cs3) (.slice pt3 nt3 ct3)) := X3_v21.out.up hY2
  have T4_v22 : Hid (Tn d x (.agg #[.slice ps4 ns4 cs4, .slice pt4 nt4 ct4]) y2) := T4_v21.out.up hY2
  have X4_v22 : Hid (Cel y2 w4.heap.size (.slice ps4 ns4 cs4) (.slice pt4 nt4 ct4)) := X4_v21.out.up hY2
  have T5_v22 : Hid (Tn d x (.agg #[.slice ps5 ns5 cs5, .slice pt5 nt5 ct5]) y2) := T5_v21.out.up hY2
  have X5_v22 : Hid (Cel y2 w5.heap.size (.slice ps5 ns5 cs5) (.slice pt5 nt5 ct5)) := X5_v21.out.up hY2
  have T6_v22 : Hid (Tn d x (.agg #[.slice ps6 ns6 cs6, .slice pt6 nt6 ct6]) y2) := T6_v21.out.up hY2
  have X6_v22 : Hid (Cel y2 w6.heap.size (.slice ps6 ns6 cs6) (.slice pt6 nt6 ct6)) := X6_v21.out.up hY2
  have T7_v22 : Hid (Tn d Z (.agg #[.slice ps7 ns7 cs7, .slice pt7 nt7 ct7]) y2) := T7_v21.out.up hY2
  have X7_v22 : Hid (Cel y2 w7.heap.size (.slice ps7 ns7 cs7) (.slice pt7 nt7 ct7)) := X7_v21.out.up hY2
  have T8_v22 : Hid (Tn d Z (.agg #[.slice ps8 ns8 cs8, .slice pt8 nt8 ct8]) y2) := T8_v21.out.up hY2
  have X8_v22 : Hid (Cel y2 w8.heap.size (.slice ps8 ns8 cs8) (.slice pt8 nt8 ct8)) := X8_v21.out.up hY2
  clear XA_v21 T1_v21 X1_v21 T2_v21 X2_v21 T3_v21 X3_v21 T4_v21 X4_v21 T5_v21 X5_v21 T6_v21 X6_v21 T7_v21 X7_v21 T8_v21 X8_v21
  clear l2 hY2 x50 x51 x5z xa0 xa1 xaz
  have l3 := same_tn T6_v22.out (HTa.out y2 HB_y2.out) HI.out.2.2.1 HI.out.2.2.2
  rw [decide_eq_true ⟨rfl, rfl⟩] at l3
  obtain ⟨x60, x61, _, _⟩ := X6_v22.out
  have x6z := cell_lt x60
  obtain ⟨xa0, xa1, _, _⟩ := XA_v22.out
  have xaz := cell_lt xa0
  go_wp2_with fail
  refine l3.mono ?_
  rintro e y3 ⟨rfl, hY3⟩
  have HB_y3 : Hid (Below w.heap.size w y3) := bstep HB_y2.out hY3
  have XA_v23 : Hid (Cel y3 w.heap.size (.slice p n c) (.slice p2 n2 c2)) := XA_v22.out.up hY3
  have T1_v23 : Hid (Tn [] [0] (.agg #[.slice ps1 ns1 cs1, .slice pt1 nt1 ct1]) y3) := T1_v22.out.up hY3
  have X1_v23 : Hid (Cel y3 w1.heap.size (.slice ps1 ns1 cs1) (.slice pt1 nt1 ct1)) := X1_v22.out.up hY3
  have T2_v23 : Hid (Tn [] [4294967296] (.agg #[.slice ps2 ns2 cs2, .slice pt2 nt2 ct2]) y3) := T2_v22.out.up hY3
  have X2_v23 : Hid (Cel y3 w2.heap.size (.slice ps2 ns2 cs2) (.slice pt2 nt2 ct2)) := X2_v22.out.up hY3
  have T3_v23 : Hid (Tn d x (.agg #[.slice ps3 ns3 cs3, .slice pt3 nt3 ct3]) y3) := T3_v22.out.up hY3
  have X3_v23 : Hid (Cel y3 w3.heap.size (.slice ps3 ns3 cs3) (.slice pt3 nt3 ct3)) := X3_v22.out.up hY3
  have T4_v23 : Hid (Tn d x (.agg #[.slice ps4 ns4 cs4, .slice pt4 nt4 ct4]) y3) := T4_v22.out.up hY3
  have X4_v23 : Hid (Cel y3 w4.heap.size (.slice ps4 ns4 cs4) (.slice pt4 nt4 ct4)) := X4_v22.out.up hY3
  have T5_v23 : Hid (Tn d x (.agg #[.slice ps5 ns5 cs5, .slice pt5 nt5 ct5]) y3) := T5_v22.out.up hY3
  have X5_v23 : Hid (Cel y3 w5.heap.size (.slice ps5 ns5 cs5) (.slice pt5 nt5 ct5)) := X5_v22.out.up hY3
  have T6_v23 : Hid (Tn d x (.agg #[.slice ps6 ns6 cs6, .slice pt6 nt6 ct6]) y3) := T6_v22.out.up hY3
  have X6_v23 : Hid (Cel y3 w6.heap.size (.slice ps6 ns6 cs6) (.slice pt6 nt6 ct6)) := X6_v22.out.up hY3
  have T7_v23 : Hid (Tn d Z (.agg #[.slice ps7 ns7 cs7, .slice pt7 nt7 ct7]) y3) := T7_v22.out.up hY3
  have X7_v23 : Hid (Cel y3 w7.heap.size (.slice ps7 ns7 cs7) (.slice pt7 nt7 ct7)) := X7_v22.out.up hY3
  have T8_v23 : Hid (Tn d Z (.agg #[.slice ps8 ns8 cs8, .slice pt8 nt8 ct8]) y3) := T8_v22.out.up hY3
  have X8_v23 : Hid (Cel y3 w8.heap.size (.slice ps8 ns8 cs8) (.slice pt8 nt8 ct8)) := X8_v22.out.up hY3
  clear XA_v22 T1_v22 X1_v22 T2_v22 X2_v22 T3_v22 X3_v22 T4_v22 X4_v22 T5_v22 X5_v22 T6_v22 X6_v22 T7_v22 X7_v22 T8_v22 X8_v22
  clear l3 hY3 x60 x61 x6z xa0 xa1 xaz
  have l4 := same_tn T7_v23.out T8_v23.out HI.out.2.2.1 Mn.out.2.2.2
  rw [decide_eq_true ⟨rfl, rfl⟩] at l4
  obtain ⟨x70, x71, _, _⟩ := X7_v23.out
  have x7z := cell_lt x70
  obtain ⟨x80, x81, _, _⟩ := X8_v23.out
  have x8z := cell_lt x80
  go_wp2_with fail
  refine l4.mono ?_
  rintro e y4 ⟨rfl, hY4⟩
  have HB_y4 : Hid (Below w.heap.size w y4) := bstep HB_y3.out hY4
  have XA_v24 : Hid (Cel y4 w.heap.size (.slice p n c) (.slice p2 n2 c2)) := XA_v23.out.up hY4
  have T1_v24 : Hid (Tn [] [0] (.agg #[.slice ps1 ns1 cs1, .slice pt1 nt1 ct1]) y4) := T1_v23.out.up hY4
  have X1_v24 : Hid (Cel y4 w1.heap.size (.slice ps1 ns1 cs1) (.slice pt1 nt1 ct1)) := X1_v23.out.up hY4
  have T2_v24 : Hid (Tn [] [4294967296] (.agg #[.slice ps2 ns2 cs2, .slice pt2 nt2 ct2]) y4) := T2_v23.out.up hY4
  have X2_v24 : Hid (Cel y4 w2.heap.size (.slice ps2 ns2 cs2) (.slice pt2 nt2 ct2)) := X2_v23.out.up hY4
  have T3_v24 : Hid (Tn d x (.agg #[.slice ps3 ns3 cs3, .slice pt3 nt3 ct3]) y4) := T3_v23.out.up hY4
  have X3_v24 : Hid (Cel y4 w3.heap.size (.slice ps3 ns3 cs3) (.slice pt3 nt3 ct3)) := X3_v23.out.up hY4
  have T4_v24 : Hid (Tn d x (.agg #[.slice ps4 ns4 cs4, .slice pt4 nt4 ct4]) y4) := T4_v23.out.up hY4
  have X4_v24 : Hid (Cel y4 w4.heap.size (.slice ps4 ns4 cs4) (.slice pt4 nt4 ct4)) := X4_v23.out.up hY4
  have T5_v24 : Hid (Tn d x (.agg #[.slice ps5 ns5 cs5, .slice pt5 nt5 ct5]) y4) := T5_v23.out.up hY4
  have X5_v24 : Hid (Cel y4 w5.heap.size (.slice ps5 ns5 cs5) (.slice pt5 nt5 ct5)) := X5_v23.out.up hY4
  have T6_v24 : Hid (Tn d x (.agg #[.slice ps6 ns6 cs6, .slice pt6 nt6 ct6]) y4) := T6_v23.out.up hY4
  have X6_v24 : Hid (Cel y4 w6.heap.size (.slice ps6 ns6 cs6) (.slice pt6 nt6 ct6)) := X6_v23.out.up hY4
  have T7_v24 : Hid (Tn d Z (.agg #[.slice ps7 ns7 cs7, .slice pt7 nt7 ct7]) y4) := T7_v23.out.up hY4
  have X7_v24 : Hid (Cel y4 w7.heap.size (.slice ps7 ns7 cs7) (.slice pt7 nt7 ct7)) := X7_v23.out.up hY4
  have T8_v24 : Hid (Tn d Z (.agg #[.slice ps8 ns8 cs8, .slice pt8 nt8 ct8]) y4) := T8_v23.out.up hY4
  have X8_v24 : Hid (Cel y4 w8.heap.size (.slice ps8 ns8 cs8) (.slice pt8 nt8 ct8)) := X8_v23.out.up hY4
  clear XA_v23 T1_v23 X1_v23 T2_v23 X2_v23 T3_v23 X3_v23 T4_v23 X4_v23 T5_v23 X5_v23 T6_v23 X6_v23 T7_v23 X7_v23 T8_v23 X8_v23
  clear l4 hY4 x70 x71 x7z x80 x81 x8z
  go_wp2
  go_ret
  exact ⟨by first | rfl | simp, HB_y4.out⟩
end Go.Proofs.Ytbndiadgnglkhab.Wd
