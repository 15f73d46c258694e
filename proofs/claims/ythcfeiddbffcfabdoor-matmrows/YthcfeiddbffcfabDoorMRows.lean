/- MatmRows: each number of a product is the Dot of its row and its column. -/
import Derived.Test.YthcfeiddbffcfabDoorMtN
import Derived.Deep.AppendLies
namespace Go.Proofs.YthcfeiddbffcfabDoor.Wd
open Go.RowKit Fx
set_option linter.unusedVariables false
set_option linter.unusedSimpArgs false
/-- Two slices of the call's own do not share a block. -/
def Ap (u v : Value) : Prop := ∀ g, ¬ (u.ownBlock = some g ∧ v.ownBlock = some g)
theorem Ap.symm {u v : Value} (h : Ap u v) : Ap v u := fun g c => h g ⟨c.2, c.1⟩
theorem OwnK.lt {k : IntKind} {e : TypeId} {W : World} {B g : Nat} {v : Value} {l : List Int} (h : OwnK k e W B v l) (hg : v.ownBlock = some g) : g < W.heap.size := by
  rcases h.2 with ⟨h1, _⟩ | ⟨q, cap, cur, h1, h2, h3, _⟩
  · rw [h1] at hg; cases hg
  · rw [h1] at hg
    cases hg
    rcases Nat.lt_or_ge q W.heap.size with h | h
    · exact h
    · rw [Array.getElem?_eq_none h] at h3; cases h3
theorem OwnK.grown {k : IntKind} {e : TypeId} {W W' : World} {B : Nat} {u v : Value} {l : List Int} (h : OwnK k e W B v l) (hg : W.grownBy W' u.ownBlock) (hap : Ap u v) : OwnK k e W' B v l := by
  refine ⟨h.1, ?_⟩
  rcases h.2 with h1 | ⟨q, cap, cur, h1, h2, h3, h4⟩
  · exact .inl h1
  · have hq : q < W.heap.size := h.lt (by rw [h1]; rfl)
    exact .inr ⟨q, cap, cur, h1, h2, by rw [hg.block q hq (fun c => hap q ⟨c.symm, by rw [h1]; rfl⟩)]; exact h3, h4⟩
theorem wpList_append_apart {P : Program} {t e : TypeId} {k : IntKind} {b : Nat} (T : NumT P t e k b) (hb8 : b ≤ 8) {ops : Array Oper} {rest : List Oper} {o : Oper} {a : Act} {Q : Exit → Act → World → Prop} {w : World} (hgd : o.guard = none) (s x : Operand)
    (ho : o.op = .call { callee := .builtin .append, args := #[s, x], argTypes := #[t, t] }) (B : Nat) (u : Value) (l0 : List Int) (hs : a.eval s = u) (hown : OwnK k e w B u l0)
    (ad : Addr) (X : Int) (c : Nat) (hx : a.eval x = .slice (some ad) 1 c) (hb : Nums k w (.slice (some ad) 1 c) [X]) (hlen : l0.length + 1 ≤ 1073741824) (hB : B ≤ w.heap.size) (w0 : World) (hB0 : Below B w0 w) (v : Value) (lv : List Int) (hv : OwnK k e w B v lv) (hap : Ap u v)
    (h : ∀ u' w', Hid (OwnK k e w' B u' (l0 ++ [X]) ∧ OwnK k e w' B v lv ∧ Ap u' v) → Below B w0 w' → wpList P ops Q rest (a.put o.dst u') w') : wpList P ops Q (o :: rest) a w := by
  obtain ⟨i0, hi, hz0, hz1, hz2⟩ := info_of T
  have hm : (l0.length + 1) * b ≤ 1073741824 * 8 := Nat.mul_le_mul hlen hb8
  have hc : ∀ j u, (vals k [X])[j]? = some u → w.cell? (ad.add j) = some u := by
    rcases hb with ⟨h1, _⟩ | ⟨ad', c', e1, hc⟩
    · cases h1
    · cases e1
      exact hc
  refine wpList_append_lies _ hgd s x t ho B e i0 (.int k 0) 1 b T.ht hi hz0 hz1 hz2 rfl (by decide) u l0.length _ hs hown ad 1 c (vals k [X]) hx (by simp [vals]) hc (vals_one k [X]) (by omega) (by unfold maxLen; omega) (by omega) hB w.heap.size rfl ?_
  intro g cap w' h1 h2 h3 h4
  refine h _ w' ⟨?_, hv.grown h2 hap, fun q hq => ?_⟩ (Below.grown hB0 h2 hB hown.block)
  · unfold OwnK vals at *
    simpa using h1
  · obtain ⟨hq1, hq2⟩ := hq
    cases hq1
    rcases h3 with h3 | h3
    · exact hap _ ⟨h3, hq2⟩
    · have hlt : g < w.heap.size := hv.lt hq2
      omega
theorem rng_succ (f : Nat → Int) (k : Nat) : (List.range (k + 1)).map f = (List.range k).map f ++ [f k] := by rw [List.range_succ, List.map_append]; rfl
set_option maxRecDepth 8000 in
set_option maxHeartbeats 8000000 in
theorem mrows_walk (w : World) (hT : Hid (Tz w)) (za : Nat → Int) (n c : Nat) (p : Option Addr) (zb : Nat → Int) (n2 c2 : Nat) (p2 : Option Addr) (zc : Nat → Int) (n3 c3 : Nat) (p3 : Option Addr) (zd : Nat → Int) (n4 c4 : Nat) (p4 : Option Addr) (I J : Int)
    (r1 : RowN .i64 w p n c za) (r2 : RowN .i64 w p2 n2 c2 zb) (r3 : RowN .i64 w p3 n3 c3 zc) (r4 : RowN .i64 w p4 n4 c4 zd) (hI : -9223372036854775808 ≤ I ∧ I ≤ 9223372036854775807) (hJ : -9223372036854775808 ≤ J ∧ J ≤ 9223372036854775807) :
    Calls Tryd.prog 4 #[.agg #[.slice p n c, .slice p2 n2 c2], .agg #[.slice p3 n3 c3, .slice p4 n4 c4], .int .i64 I, .int .i64 J] w fun e w' => e = .returned (.bool true) ∧ Below w.heap.size w w' := by
  have HA : Hid (Nums .i64 w (.slice p n c) (nlst n za) ∧ Nums .i64 w (.slice p2 n2 c2) (nlst n2 zb) ∧ Nums .i64 w (.slice p3 n3 c3) (nlst n3 zc) ∧ Nums .i64 w (.slice p4 n4 c4) (nlst n4 zd)) := ⟨r1.nums, r2.nums, r3.nums, r4.nums⟩
  have HI : Hid (RI (nlst n za) ∧ RI (nlst n2 zb) ∧ RI (nlst n3 zc) ∧ RI (nlst n4 zd)) := ⟨r1.riI, r2.riI, r3.riI, r4.riI⟩
  have HF : Hid (Few (nlst n za) ∧ Few (nlst n2 zb) ∧ Few (nlst n3 zc) ∧ Few (nlst n4 zd)) := ⟨r1.few, r2.few, r3.few, r4.few⟩
  have HC : Hid (n2 ≤ c2 ∧ n4 ≤ c4) := ⟨r2.room, r4.room⟩
  obtain ⟨d, ed⟩ : ∃ d, nlst n za = d := ⟨_, rfl⟩
  obtain ⟨x, ex⟩ : ∃ x, nlst n2 zb = x := ⟨_, rfl⟩
  obtain ⟨d', ed'⟩ : ∃ d, nlst n3 zc = d := ⟨_, rfl⟩
  obtain ⟨y, ey⟩ : ∃ y, nlst n4 zd = y := ⟨_, rfl⟩
  rw [ed, ex, ed', ey] at HA HI HF
  clear ed ex ed' ey r1 r2 r3 r4
  have HTa : Hid (∀ W, Below w.heap.size w W → TnC d x (.agg #[.slice p n c, .slice p2 n2 c2]) W ∧ TnC d' y (.agg #[.slice p3 n3 c3, .slice p4 n4 c4]) W) := fun W hW => ⟨⟨_, _, _, _, _, _, rfl, HA.out.1.up hW, HA.out.2.1.up hW, HC.out.1⟩, _, _, _, _, _, _, rfl, HA.out.2.2.1.up hW, HA.out.2.2.2.up hW, HC.out.2⟩
  haveI : Nonempty World := ⟨w⟩
  go_enter Tryd.func4, Tryd.ntmps4
  go_wp2_with fail
  generalize hW0 : World.alloc _ _ = W0
  have HB_W0 : Hid (Below w.heap.size w W0) := by show Below _ _ _; rw [← hW0]; go_grown
  have XA_v0 : Hid (Cel W0 w.heap.size (.slice p n c) (.slice p2 n2 c2)) := by show Cel _ _ _ _; unfold Cel; rw [← hW0]; simp [go_sem]
  have XB_v0 : Hid (Cel W0 (w.heap.size + 1) (.slice p3 n3 c3) (.slice p4 n4 c4)) := by show Cel _ _ _ _; unfold Cel; rw [← hW0]; simp [go_sem]
  clear hW0
  refine (awake7_any W0 (Hid.up_tz hT HB_W0.out)).mono ?_
  rintro e wa ⟨rfl, hBa⟩
  have HB_wa : Hid (Below w.heap.size w wa) := bstep HB_W0.out hBa
  have XA_v1 : Hid (Cel wa w.heap.size (.slice p n c) (.slice p2 n2 c2)) := XA_v0.out.up hBa
  have XB_v1 : Hid (Cel wa (w.heap.size + 1) (.slice p3 n3 c3) (.slice p4 n4 c4)) := XB_v0.out.up hBa
  clear XA_v0 XB_v0
  clear hBa
  have cg := great7_any p p2 n c n2 c2 150 (by decide) wa
  by_cases hga : 10 < n ∨ 150 < n2
  · rw [decide_eq_true hga] at cg
    obtain ⟨xa0, xa1, _, _⟩ := XA_v1.out
    have xaz := cell_lt xa0
    obtain ⟨xb0, xb1, _, _⟩ := XB_v1.out
    have xbz := cell_lt xb0
    go_wp2_with fail
    refine (cg).mono ?_
    rintro e wb ⟨rfl, hBwb⟩
    have HB_wb : Hid (Below w.heap.size w wb) := bstep HB_wa.out hBwb
    have XA_v2 : Hid (Cel wb w.heap.size (.slice p n c) (.slice p2 n2 c2)) := XA_v1.out.up hBwb
    have XB_v2 : Hid (Cel wb (w.heap.size + 1) (.slice p3 n3 c3) (.slice p4 n4 c4)) := XB_v1.out.up hBwb
    clear XA_v1 XB_v1
    clear hBwb xa0 xa1 xaz xb0 xb1 xbz
    go_wp2
    go_ret
    exact ⟨rfl, HB_wb.out⟩
  rw [decide_eq_false hga] at cg
  obtain ⟨xa0, xa1, _, _⟩ := XA_v1.out
  have xaz := cell_lt xa0
  obtain ⟨xb0, xb1, _, _⟩ := XB_v1.out
  have xbz := cell_lt xb0
  go_wp2_with fail
  refine (cg).mono ?_
  rintro e wb ⟨rfl, hBwb⟩
  have HB_wb : Hid (Below w.heap.size w wb) := bstep HB_wa.out hBwb
  have XA_v2 : Hid (Cel wb w.heap.size (.slice p n c) (.slice p2 n2 c2)) := XA_v1.out.up hBwb
  have XB_v2 : Hid (Cel wb (w.heap.size + 1) (.slice p3 n3 c3) (.slice p4 n4 c4)) := XB_v1.out.up hBwb
  clear XA_v1 XB_v1
  clear hBwb xa0 xa1 xaz xb0 xb1 xbz
  clear cg
  have hb2 : n2 ≤ 150 := by omega
  clear hga
  have cg := great7_any p3 p4 n3 c3 n4 c4 150 (by decide) wb
  by_cases hga : 10 < n3 ∨ 150 < n4
  · rw [decide_eq_true hga] at cg
    obtain ⟨xa0, xa1, _, _⟩ := XA_v2.out
    have xaz := cell_lt xa0
    obtain ⟨xb0, xb1, _, _⟩ := XB_v2.out
    have xbz := cell_lt xb0
    go_wp2_with fail
    refine (cg).mono ?_
    rintro e wc ⟨rfl, hBwc⟩
    have HB_wc : Hid (Below w.heap.size w wc) := bstep HB_wb.out hBwc
    have XA_v3 : Hid (Cel wc w.heap.size (.slice p n c) (.slice p2 n2 c2)) := XA_v2.out.up hBwc
    have XB_v3 : Hid (Cel wc (w.heap.size + 1) (.slice p3 n3 c3) (.slice p4 n4 c4)) := XB_v2.out.up hBwc
    clear XA_v2 XB_v2
    clear hBwc xa0 xa1 xaz xb0 xb1 xbz
    go_wp2
    go_ret
    exact ⟨rfl, HB_wc.out⟩
  rw [decide_eq_false hga] at cg
  obtain ⟨xa0, xa1, _, _⟩ := XA_v2.out
  have xaz := cell_lt xa0
  obtain ⟨xb0, xb1, _, _⟩ := XB_v2.out
  have xbz := cell_lt xb0
  go_wp2_with fail
  refine (cg).mono ?_
  rintro e wc ⟨rfl, hBwc⟩
  have HB_wc : Hid (Below w.heap.size w wc) := bstep HB_wb.out hBwc
  have XA_v3 : Hid (Cel wc w.heap.size (.slice p n c) (.slice p2 n2 c2)) := XA_v2.out.up hBwc
  have XB_v3 : Hid (Cel wc (w.heap.size + 1) (.slice p3 n3 c3) (.slice p4 n4 c4)) := XB_v2.out.up hBwc
  clear XA_v2 XB_v2
  clear hBwc xa0 xa1 xaz xb0 xb1 xbz
  clear cg
  have hb4 : n4 ≤ 150 := by omega
  clear hga
  obtain ⟨E, eE⟩ : ∃ E, mE d x d' y = E := ⟨_, rfl⟩
  have cm := mul_tn (HTa.out wc HB_wc.out).1 (HTa.out wc HB_wc.out).2.tn HI.out.1 HI.out.2.1 HI.out.2.2.1 HI.out.2.2.2 (Hid.up_tz hT HB_wc.out)
  obtain ⟨MD, eMD⟩ : ∃ D, mD d x d' y = D := ⟨_, rfl⟩
  obtain ⟨MV, eMV⟩ : ∃ V, mV d x d' y = V := ⟨_, rfl⟩
  rw [eE, eMD, eMV] at cm
  obtain ⟨xa0, xa1, _, _⟩ := XA_v3.out
  have xaz := cell_lt xa0
  obtain ⟨xb0, xb1, _, _⟩ := XB_v3.out
  have xbz := cell_lt xb0
  go_wp2_with fail
  refine (cm).mono ?_
  rintro e w1 ⟨v1, rfl, ⟨s1, t1, rfl, hs1, ht1⟩, hB1⟩
  obtain ⟨ps1, ns1, cs1, rfl, _⟩ := hs1.nums.lst
  obtain ⟨pt1, nt1, ct1, rfl, _⟩ := ht1.nums.lst
  have HB_w1 : Hid (Below w.heap.size w w1) := bstep HB_wc.out hB1
  have XA_v4 : Hid (Cel w1 w.heap.size (.slice p n c) (.slice p2 n2 c2)) := XA_v3.out.up hB1
  have XB_v4 : Hid (Cel w1 (w.heap.size + 1) (.slice p3 n3 c3) (.slice p4 n4 c4)) := XB_v3.out.up hB1
  clear XA_v3 XB_v3
  have T1_v4 : Hid (TnC MD MV (.agg #[.slice ps1 ns1 cs1, .slice pt1 nt1 ct1]) w1) := ⟨_, _, _, _, _, _, rfl, hs1.nums, ht1.nums, ht1.cap⟩
  clear hB1 hs1 ht1 xa0 xa1 xaz xb0 xb1 xbz
  clear cm
  rcases (Decidable.em (E = 0)).symm with h0 | h0
  · have h0' : (E != 0) = true := by simpa using h0
    obtain ⟨xa0, xa1, _, _⟩ := XA_v4.out
    have xaz := cell_lt xa0
    obtain ⟨xb0, xb1, _, _⟩ := XB_v4.out
    have xbz := cell_lt xb0
    go_wp2
    go_ret
    exact ⟨rfl, bstep HB_w1.out (up_alloc _ _)⟩
  rw [h0] at eE
  subst h0
  obtain ⟨N, K, M', rfl, rfl, hx0, hy0, k1, k2, k3, l1, l2, l3, f1, f2⟩ := mul_zero eE
  rw [f1] at eMD
  rw [f2] at eMV
  subst eMD eMV
  have s1 := le_side l1 k1 k2
  have s2 := le_side l2 k2 k3
  have zN : (N : Int) ≤ 4096 ∧ (K : Int) ≤ 4096 ∧ (M' : Int) ≤ 4096 := by omega
  rcases (Decidable.em (0 ≤ I)).symm with h0 | h0
  · have h0' : I < 0 := by omega
    obtain ⟨xa0, xa1, _, _⟩ := XA_v4.out
    have xaz := cell_lt xa0
    obtain ⟨xb0, xb1, _, _⟩ := XB_v4.out
    have xbz := cell_lt xb0
    go_wp2
    go_ret
    exact ⟨rfl, bstep HB_w1.out (up_alloc _ _)⟩
  have hI0 := h0
  clear h0
  rcases (Decidable.em (0 ≤ J)).symm with h0 | h0
  · have h0' : J < 0 := by omega
    obtain ⟨xa0, xa1, _, _⟩ := XA_v4.out
    have xaz := cell_lt xa0
    obtain ⟨xb0, xb1, _, _⟩ := XB_v4.out
    have xbz := cell_lt xb0
    go_wp2
    go_ret
    exact ⟨rfl, bstep HB_w1.out (up_alloc _ _)⟩
  have hJ0 := h0
  clear h0
  obtain ⟨i, rfl⟩ := Int.eq_ofNat_of_zero_le hI0
  obtain ⟨j, rfl⟩ := Int.eq_ofNat_of_zero_le hJ0
  obtain ⟨_, _, _, _, _, _, ea, nD1, nV1, nC1⟩ := T1_v4.out
  cases ea
  obtain ⟨_, _, _, e4, HD1⟩ := nD1.lst
  cases e4
  obtain ⟨_, _, _, e4, HV1⟩ := nV1.lst
  cases e4
  have hn1 : ns1 = 2 := HD1.out.1.symm
  subst hn1
  obtain ⟨q1, o1, rfl, c10⟩ := HD1.out.2 0 (by omega)
  obtain ⟨q1', o1', e1', c11⟩ := HD1.out.2 1 (by omega)
  cases e1'
  have c10 : w1.cell? ⟨q1, o1, none⟩ = some (.int .i64 (N : Int)) := c10
  have c11 : w1.cell? ⟨q1, o1 + 1, none⟩ = some (.int .i64 (M' : Int)) := c11
  have c19 := cell_lt c10
  clear nD1 nV1 nC1 HD1
  rcases (Decidable.em ((i : Int) < (N : Int))).symm with h0 | h0
  · have h0' : (N : Int) ≤ (i : Int) := by omega
    obtain ⟨xa0, xa1, _, _⟩ := XA_v4.out
    have xaz := cell_lt xa0
    obtain ⟨xb0, xb1, _, _⟩ := XB_v4.out
    have xbz := cell_lt xb0
    go_wp2
    go_ret
    exact ⟨rfl, bstep HB_w1.out (up_alloc _ _)⟩
  have hiN := h0
  clear h0
  rcases (Decidable.em ((j : Int) < (M' : Int))).symm with h0 | h0
  · have h0' : (M' : Int) ≤ (j : Int) := by omega
    obtain ⟨xa0, xa1, _, _⟩ := XA_v4.out
    have xaz := cell_lt xa0
    obtain ⟨xb0, xb1, _, _⟩ := XB_v4.out
    have xbz := cell_lt xb0
    go_wp2
    go_ret
    exact ⟨rfl, bstep HB_w1.out (up_alloc _ _)⟩
  have hjM := h0
  clear h0
  obtain ⟨_, _, _, e4, HDA⟩ := HA.out.1.lst
  cases e4
  obtain ⟨_, _, _, e4, HDB⟩ := HA.out.2.2.1.lst
  cases e4
  obtain ⟨_, _, _, e4, HX⟩ := HA.out.2.1.lst
  cases e4
  obtain ⟨_, _, _, e4, HY⟩ := HA.out.2.2.2.lst
  cases e4
  have hn : n = 2 := HDA.out.1.symm
  have hn3 : n3 = 2 := HDB.out.1.symm
  subst hn hn3
  obtain ⟨qa, oa, rfl, ca1⟩ := HDA.out.2 1 (by omega)
  obtain ⟨qb, ob, rfl, cb1⟩ := HDB.out.2 1 (by omega)
  have ca1 : w.cell? ⟨qa, oa + 1, none⟩ = some (.int .i64 (K : Int)) := ca1
  have cb1 : w.cell? ⟨qb, ob + 1, none⟩ = some (.int .i64 (M' : Int)) := cb1
  obtain ⟨xa0, xa1, _, _⟩ := XA_v4.out
  have xaz := cell_lt xa0
  obtain ⟨xb0, xb1, _, _⟩ := XB_v4.out
  have xbz := cell_lt xb0
  go_wp2_with fail
  generalize hW1 : World.alloc _ _ = W1
  have hC1 : Below w1.heap.size w1 W1 := by rw [← hW1]; exact up_alloc w1 _
  have HB_W1 : Hid (Below w.heap.size w W1) := bstep HB_w1.out hC1
  have XA_v5 : Hid (Cel W1 w.heap.size (.slice (some ⟨qa, oa, none⟩) 2 c) (.slice p2 n2 c2)) := XA_v4.out.up hC1
  have XB_v5 : Hid (Cel W1 (w.heap.size + 1) (.slice (some ⟨qb, ob, none⟩) 2 c3) (.slice p4 n4 c4)) := XB_v4.out.up hC1
  have T1_v5 : Hid (TnC [(N : Int), (M' : Int)] (mulV N K M' x y) (.agg #[.slice (some ⟨q1, o1, none⟩) 2 cs1, .slice pt1 nt1 ct1]) W1) := T1_v4.out.up hC1
  clear XA_v4 XB_v4 T1_v4
  have X1_v5 : Hid (Cel W1 w1.heap.size (.slice (some ⟨q1, o1, none⟩) 2 cs1) (.slice pt1 nt1 ct1)) := by show Cel _ _ _ _; unfold Cel; rw [← hW1]; simp [go_sem]
  clear hW1 hC1 c10 c11 c19 xa0 xa1 xaz xb0 xb1 xbz
  obtain ⟨xa0, xa1, _, _⟩ := XA_v5.out
  have xaz := cell_lt xa0
  obtain ⟨xb0, xb1, _, _⟩ := XB_v5.out
  have xbz := cell_lt xb0
  have ua := cell_low ca1 HB_W1.out
  have ub := cell_low cb1 HB_W1.out
  have ua9 := cell_lt ua
  have ub9 := cell_lt ub
  go_quiet (fail)
  generalize hw2 : World.drewN W1 nq = w2
  have hB2 : Below W1.heap.size W1 w2 := by rw [← hw2]; exact below_drew (Below.refl _ _) nq
  have HB_w2 : Hid (Below w.heap.size w w2) := bstep HB_W1.out hB2
  have XA_v6 : Hid (Cel w2 w.heap.size (.slice (some ⟨qa, oa, none⟩) 2 c) (.slice p2 n2 c2)) := XA_v5.out.up hB2
  have XB_v6 : Hid (Cel w2 (w.heap.size + 1) (.slice (some ⟨qb, ob, none⟩) 2 c3) (.slice p4 n4 c4)) := XB_v5.out.up hB2
  have T1_v6 : Hid (TnC [(N : Int), (M' : Int)] (mulV N K M' x y) (.agg #[.slice (some ⟨q1, o1, none⟩) 2 cs1, .slice pt1 nt1 ct1]) w2) := T1_v5.out.up hB2
  have X1_v6 : Hid (Cel w2 w1.heap.size (.slice (some ⟨q1, o1, none⟩) 2 cs1) (.slice pt1 nt1 ct1)) := X1_v5.out.up hB2
  clear XA_v5 XB_v5 T1_v5 X1_v5
  clear hw2 hB2 ua ub ua9 ub9 xa0 xa1 xaz xb0 xb1 xbz
  have HZ : Hid (RI x ∧ RI y ∧ x.length = N * K ∧ y.length = K * M' ∧ i < N ∧ j < M' ∧ N * K ≤ 4096 ∧ K * M' ≤ 4096 ∧ N * M' ≤ 4096 ∧ 1 ≤ K ∧ K ≤ 4096) := ⟨HI.out.2.1, HI.out.2.2.2, hx0, hy0, by omega, by omega, l1, l2, l3, k2, s1.2⟩
  clear hx0 hy0 k1 k2 k3 l1 l2 l3 eE f1 f2 hI0 hJ0 HDA HDB hiN hjM
  go_wp2_with fail
  have y1 : decide (N ≤ i) = false := decide_eq_false (by have := HZ.out.2.2.2.2.1; omega)
  have y2 : decide (M' ≤ j) = false := decide_eq_false (by have := HZ.out.2.2.2.2.2.1; omega)
  have y3 : decide ((i : Int) < 0) = false := decide_eq_false (by omega)
  have y4 : decide ((j : Int) < 0) = false := decide_eq_false (by omega)
  simp only [y1, y2, y3, y4, Bool.or_self, Bool.or_false, Bool.false_or]
  clear y1 y2 y3 y4
  go_loopg [13, 14, 15] K (fun gg u v q wr => ∃ (k : Nat), k ≤ K ∧ gg = K - k ∧ q = .int .i64 (k : Int) ∧ Hid (OwnK .i64 22 wr w2.heap.size u ((List.range k).map fun q => x.getD (i * K + q) 0)) ∧ Hid (OwnK .i64 22 wr w2.heap.size v ((List.range k).map fun q => y.getD (q * M' + j) 0) ∧ Ap u v) ∧ Hid (Below w2.heap.size w2 wr))
  case atStart => exact ⟨0, by omega, by omega, by first | rfl | simp, OwnK.nil _ _ _ _, ⟨OwnK.nil _ _ _ _, fun q hq => by cases hq.1⟩, Below.refl _ _⟩
  case round =>
    obtain ⟨k, hk, hgk, rfl, HU, HVj, hBk⟩ := hrel
    obtain ⟨R1, hR1⟩ : ∃ R1 : World, R1 = wr := ⟨_, rfl⟩
    subst hR1
    have hBw : Below w.heap.size w R1 := bstep HB_w2.out hBk.out
    have xA : Cel R1 w.heap.size (.slice (some ⟨qa, oa, none⟩) 2 c) (.slice p2 n2 c2) := XA_v6.out.up hBk.out
    have xB : Cel R1 (w.heap.size + 1) (.slice (some ⟨qb, ob, none⟩) 2 c3) (.slice p4 n4 c4) := XB_v6.out.up hBk.out
    obtain ⟨zx1, zx2, zx3, zx4, zx5, zx6, zx7, zx8, zx9, zx10, zx11⟩ := HZ.out
    by_cases hkn : k < K
    · have hk' : (k : Int) < (K : Int) := by omega
      have hAx : i * K + k < N * K := pair_lt zx5 hkn
      have hBy : k * M' + j < K * M' := pair_lt hkn zx6
      have hn2x : n2 = N * K := by rw [← HX.out.1]; exact zx3
      have hn4y : n4 = K * M' := by rw [← HY.out.1]; exact zx4
      obtain ⟨qx, ox, ex2, hcx⟩ := HX.out.2 (i * K + k) (by omega)
      obtain ⟨qy, oy, ey4, hcy⟩ := HY.out.2 (k * M' + j) (by omega)
      subst ex2 ey4
      have hcx1 := cell_low hcx hBw
      have hcy1 := cell_low hcy hBw
      have ltx := cell_lt hcx1
      obtain ⟨X, eX⟩ : ∃ X, x.getD (i * K + k) 0 = X := ⟨_, rfl⟩
      obtain ⟨Y, eY⟩ : ∃ Y, y.getD (k * M' + j) 0 = Y := ⟨_, rfl⟩
      have hXr := getD_inR zx1 (i * K + k)
      have hYr := getD_inR zx2 (k * M' + j)
      rw [eX] at hcx1 hXr
      rw [eY] at hcy1 hYr
      have HXY : Hid (x.getD (i * K + k) 0 = X ∧ y.getD (k * M' + j) 0 = Y) := ⟨eX, eY⟩
      obtain ⟨A, eA⟩ : ∃ A, i * K = A := ⟨_, rfl⟩
      obtain ⟨B, eB⟩ : ∃ B, k * M' = B := ⟨_, rfl⟩
      have eA' : (i : Int) * (K : Int) = (A : Int) := by rw [← eA]; push_cast; rfl
      have eB' : (k : Int) * (M' : Int) = (B : Int) := by rw [← eB]; push_cast; rfl
      rw [eA] at hAx hcx1
      rw [eB] at hBy hcy1
      obtain ⟨AQ, eAQ⟩ : ∃ AQ, A + k = AQ := ⟨_, rfl⟩
      obtain ⟨BJ, eBJ⟩ : ∃ BJ, B + j = BJ := ⟨_, rfl⟩
      have eAQ' : (A : Int) + (k : Int) = (AQ : Int) := by omega
      have eBJ' : (B : Int) + (j : Int) = (BJ : Int) := by omega
      rw [eAQ] at hAx hcx1
      rw [eBJ] at hBy hcy1
      have bnd : (AQ : Int) < (n2 : Int) ∧ (BJ : Int) < (n4 : Int) ∧ (n2 : Int) ≤ 4096 ∧ (n4 : Int) ≤ 4096 ∧ (A : Int) ≤ 4096 ∧ (B : Int) ≤ 4096 ∧ (k : Int) ≤ 4096 ∧ (i : Int) ≤ 4096 ∧ (j : Int) ≤ 4096 := by omega
      have hXr' : -9223372036854775808 ≤ X ∧ X ≤ 9223372036854775807 := hXr
      have hYr' : -9223372036854775808 ≤ Y ∧ Y ≤ 9223372036854775807 := hYr
      have HCy : Hid (w.cell? ⟨qy, oy + BJ, none⟩ = some (.int .i64 Y)) := by show _ = _; rw [← eBJ, ← eB, ← eY]; exact hcy
      obtain ⟨a0, a1, _, _⟩ := xA
      have a9 := cell_lt a0
      have HXB : Hid (Cel R1 (w.heap.size + 1) (.slice (some ⟨qb, ob, none⟩) 2 c3) (.slice (some ⟨qy, oy, none⟩) n4 c4)) := xB
      have lu : ((List.range k).map fun q => x.getD (i * K + q) 0).length = k := by simp
      have lv : ((List.range k).map fun q => y.getD (q * M' + j) 0).length = k := by simp
      have H6 : Hid (OwnK .i64 22 (R1.alloc (.cells #[.int .i64 X] 22)) w2.heap.size u13 ((List.range k).map fun q => x.getD (i * K + q) 0)) := HU.out.up (up_alloc R1 _)
      have H6v : Hid (OwnK .i64 22 (R1.alloc (.cells #[.int .i64 X] 22)) w2.heap.size u14 ((List.range k).map fun q => y.getD (q * M' + j) 0)) := HVj.out.1.up (up_alloc R1 _)
      have H6n : Hid (Nums .i64 (R1.alloc (.cells #[.int .i64 X] 22)) (.slice (some ⟨R1.heap.size, 0, none⟩) 1 1) [X]) := nums_lit (k := .i64) R1 [X] 1 (0, 0) rfl
      have H6b : Hid (Below w2.heap.size w2 (R1.alloc (.cells #[.int .i64 X] 22))) := blit hBk.out _
      have HL : Hid (((List.range k).map fun q => x.getD (i * K + q) 0).length + 1 ≤ 1073741824 ∧ ((List.range k).map fun q => y.getD (q * M' + j) 0).length + 1 ≤ 1073741824) := ⟨by rw [lu]; omega, by rw [lv]; omega⟩
      clear eX eY eA eB eAQ eBJ hAx hBy hn2x hn4y hcx hcy hcy1 hBw hXr hYr lu lv xB zx1 zx2 zx3 zx4 zx5 zx6 zx7 zx8 zx9 zx10 zx11
      go_wp2_with (first | (at_builtin; refine wpList_append_apart fixT (by decide) rfl (.tmp 81) (.tmp 91) rfl w2.heap.size _ _ rfl H7.out _ Y 1 rfl H7n.out HL.out.2 H7b.out.size w2 H7b.out _ _ H7v.out H4.out.2.2.symm ?_; intro v' w5 H5 B5) | (at_builtin; refine wpList_append_apart fixT (by decide) rfl (.tmp 69) (.tmp 79) rfl w2.heap.size _ _ rfl H6.out _ X 1 rfl H6n.out HL.out.1 H6b.out.size w2 H6b.out _ _ H6v.out HVj.out.2 ?_; intro u' w4 H4 B4; have uy := cell_low HCy.out (bstep HB_w2.out B4); have uy9 := cell_lt uy; obtain ⟨b0, b1, _, _⟩ := XB_v6.out.up B4; have b9 := cell_lt b0; have H7 : Hid (OwnK .i64 22 (w4.alloc (.cells #[.int .i64 Y] 22)) w2.heap.size u14 ((List.range k).map fun q => y.getD (q * M' + j) 0)) := H4.out.2.1.up (up_alloc w4 _); have H7v : Hid (OwnK .i64 22 (w4.alloc (.cells #[.int .i64 Y] 22)) w2.heap.size u' ((List.range k).map (fun q => x.getD (i * K + q) 0) ++ [X])) := H4.out.1.up (up_alloc w4 _); have H7n : Hid (Nums .i64 (w4.alloc (.cells #[.int .i64 Y] 22)) (.slice (some ⟨w4.heap.size, 0, none⟩) 1 1) [Y]) := nums_lit (k := .i64) w4 [Y] 1 (0, 0) rfl; have H7b : Hid (Below w2.heap.size w2 (w4.alloc (.cells #[.int .i64 Y] 22))) := blit B4 _))
      clear a0 a1 a9 hcx1 ltx
      have H8 : Hid (OwnK .i64 22 w5 w2.heap.size u' ((List.range (k + 1)).map fun q => x.getD (i * K + q) 0)) := by
        show OwnK _ _ _ _ _ _
        rw [rng_succ, HXY.out.1]
        exact H5.out.2.1
      have H9 : Hid (OwnK .i64 22 w5 w2.heap.size v' ((List.range (k + 1)).map fun q => y.getD (q * M' + j) 0) ∧ Ap u' v') := by
        refine ⟨?_, H5.out.2.2.symm⟩
        rw [rng_succ, HXY.out.2]
        exact H5.out.1
      go_wp2
      go_roundg (K - (k + 1))
      case measure => omega
      case rel => exact ⟨k + 1, by omega, rfl, by first | rfl | simp, H8, H9, B5⟩
    · obtain rfl : k = K := by omega
      obtain ⟨_, _, _, _, _, _, ea, nD1, nV1, nC1⟩ := T1_v6.out
      cases ea
      obtain ⟨_, _, _, e4, HV⟩ := nV1.lst
      cases e4
      have hIJ : i * M' + j < N * M' := pair_lt zx5 zx6
      have hnt : nt1 = N * M' := by rw [← HV.out.1, mulV_len]
      obtain ⟨qv, ov, rfl, hcv⟩ := HV.out.2 (i * M' + j) (by omega)
      have hcv1 := cell_low hcv hBk.out
      have x1 : Cel R1 w1.heap.size (.slice (some ⟨q1, o1, none⟩) 2 cs1) (.slice (some ⟨qv, ov, none⟩) nt1 ct1) := X1_v6.out.up hBk.out
      rw [mulV_at _ _ _ _ _ _ hIJ, mul_dot (n := N) zx6] at hcv1
      obtain ⟨pu, nu, cu, rfl, HLu⟩ := HU.out.nums.lst
      obtain ⟨pv, nv_, cv, rfl, HLv⟩ := HVj.out.1.nums.lst
      have hnu : k = nu := by rw [← HLu.out.1]; simp
      have hnv : k = nv_ := by rw [← HLv.out.1]; simp
      subst hnu hnv
      obtain ⟨Z, eZ⟩ : ∃ Z, dotI ((List.range k).map fun q => x.getD (i * k + q) 0) ((List.range k).map fun q => y.getD (q * M' + j) 0) = Z := ⟨_, rfl⟩
      rw [eZ] at hcv1
      have cDt : Hid (∀ W, Below R1.heap.size R1 W → Calls Tryd.prog 13 #[.slice pu k cu, .slice pv k cv] W fun e w' => e = .returned (.int .i64 Z) ∧ Below W.heap.size W w') := fun W hW => by
        rw [← eZ]
        exact dot_any pu pv k cu k cv _ _ (fun q hq => by
          obtain ⟨i, _, rfl⟩ := List.mem_map.1 hq
          exact getD_inR HZ.out.1 _) (fun q hq => by
          obtain ⟨i, _, rfl⟩ := List.mem_map.1 hq
          exact getD_inR HZ.out.2.1 _) k (Nat.min_self _) zx11 W (Hid.up_tz hT (bstep (bstep HB_w2.out hBk.out) hW)) (HU.out.up hW).nums (HVj.out.1.up hW).nums
      obtain ⟨A, eA⟩ : ∃ A, i * M' = A := ⟨_, rfl⟩
      have eA' : (i : Int) * (M' : Int) = (A : Int) := by rw [← eA]; push_cast; rfl
      rw [eA] at hIJ hcv1
      obtain ⟨AJ, eAJ⟩ : ∃ AJ, A + j = AJ := ⟨_, rfl⟩
      have eAJ' : (A : Int) + (j : Int) = (AJ : Int) := by omega
      rw [eAJ] at hIJ hcv1
      have bnd : (AJ : Int) < (nt1 : Int) ∧ (A : Int) ≤ 4096 ∧ (nt1 : Int) ≤ 4096 ∧ (i : Int) ≤ 4096 ∧ (j : Int) ≤ 4096 := by omega
      obtain ⟨t0, t1, _, _⟩ := x1
      have t9 := cell_lt t0
      have lv9 := cell_lt hcv1
      have HBR : Hid (Below w.heap.size w R1) := bstep HB_w2.out hBk.out
      clear eZ eA eAJ hcv HLu HLv xA xB hBw nD1 nV1 nC1 zx1 zx2 zx3 zx4 zx5 zx6 zx7 zx8 zx9 zx10 zx11 hIJ
      go_wp2_with fail
      refine flow 13 106 (by kernel_rfl) rfl rfl (by kernel_rfl) ?_
      apply Exists.intro
      refine ⟨?_, ?_⟩
      · intro F hF
        have hFc := hF.cell
        have hFf := hF.frozen
        simp only [List.take_succ_cons, List.take_zero, List.eraseIdx_cons_succ, List.eraseIdx_cons_zero]
        repeat (go_big_quiet_step (first | (go_at_call 13; with_reducible exact hF.call (cDt.out _ (hF.below _)))))
        refine wpQuiet_nil ?_
        exact rfl
      · intro W9 hW9
        have HB9 : Hid (Below w.heap.size w W9) := bstep HBR.out hW9
        clear hW9 t0 t1 t9 hcv1 lv9 cDt
        simp only [List.drop_succ_cons, List.drop_zero]
        go_wp2
        go_ret
        exact ⟨by simp, HB9.out⟩
end Go.Proofs.YthcfeiddbffcfabDoor.Wd
