/- TensKeeps: what is handed in stays; what is answered is its own. -/
import Derived.Test.YtbndiadgnglkhaaTenM
import Derived.Test.YtbndiadgnglkhaaTenH
namespace Go.Proofs.Ytbndiadgnglkhaa.Wd
open Go.RowKit
set_option linter.unusedVariables false
set_option linter.unusedSimpArgs false
/-- A cell for a tensor, newly made. -/
def NewC (B : Nat) (v : Value) (W : World) : Prop := ∃ b, v = .pointer (some ⟨b, 0, none⟩) ∧ W.heap[b]? = some (.cells #[.slice none 0 0, .slice none 0 0] 27 (0, 0)) ∧ B ≤ b
theorem heap_lt {W : World} {b : Nat} {o : Obj} (h : W.heap[b]? = some o) : b < W.heap.size := by
  rcases Nat.lt_or_ge b W.heap.size with h' | h'
  · exact h'
  · rw [Array.getElem?_eq_none h'] at h; cases h
theorem NewC.up {B : Nat} {v : Value} {W W' : World} (h : NewC B v W) (hB : Below W.heap.size W W') : NewC B v W' := by
  obtain ⟨b, e, h1, h2⟩ := h
  exact ⟨b, e, by rw [hB.block b (heap_lt h1)]; exact h1, h2⟩
theorem new_cel {W : World} {b : Nat} {s t : Value} {e : TypeId} (h : W.heap[b]? = some (.cells #[s, t] e (0, 0))) : Cel W b s t := by
  refine ⟨?_, ?_, ?_, ?_⟩
  · unfold World.cell?; simp [h]
  · unfold World.cell?; simp [h]
  · unfold World.frozen?; simp [h]
  · unfold World.frozen?; simp [h]
theorem OwnK.off_type {k : IntKind} {e e' : TypeId} {W : World} {B b : Nat} {v : Value} {l : List Int} {cs : Array Value} {fz : Nat × Nat} (h : OwnK k e W B v l) (hb : W.heap[b]? = some (.cells cs e' fz)) (hne : e ≠ e') : Off b v := by
  intro ad n c ev
  rcases h.2 with ⟨h1, _⟩ | ⟨q, cap, cur, h1, h2, h3, _⟩
  · rw [h1] at ev; cases ev
  · rw [h1] at ev
    cases ev
    intro hq
    have hq : q = b := hq
    subst hq
    rw [h3] at hb
    injection hb with hb
    injection hb with _ h5 _
    exact hne h5
/-- A tensor's copy. -/
def OwnT (B : Nat) (D X : List Int) (v : Value) (W : World) : Prop := ∃ p n c p2 n2 c2, v = .agg #[.slice p n c, .slice p2 n2 c2] ∧ OwnK .i64 3 W B (.slice p n c) D ∧ OwnK .i64 24 W B (.slice p2 n2 c2) X
theorem OwnT.up {B : Nat} {D X : List Int} {v : Value} {W W' : World} (h : OwnT B D X v W) (hB : Below W.heap.size W W') : OwnT B D X v W' := by
  obtain ⟨p, n, c, p2, n2, c2, e, h1, h2⟩ := h
  exact ⟨p, n, c, p2, n2, c2, e, h1.up hB, h2.up hB⟩
/-- An own slice, whatever it holds. -/
def Some_ (W : World) (g N c : Nat) : Prop := ∃ l : List Int, l.length = N ∧ OwnK .i64 24 W g (.slice (some ⟨g, 0, none⟩) N c) l
theorem Some_.put {W : World} {g N c : Nat} (h : Some_ W g N c) (j : Nat) (x : Int) : Some_ (W.setCell ⟨g, j, none⟩ (.int .i64 x)) g N c := by
  obtain ⟨l, h1, h2⟩ := h
  exact ⟨l.set j x, by rw [List.length_set]; exact h1, h2.store h1 j x⟩
theorem Some_.cell {W : World} {g N c : Nat} (h : Some_ W g N c) (j : Nat) (hj : j < N) : ∃ y, W.cell? ⟨g, j, none⟩ = some (.int .i64 y) ∧ W.frozen? ⟨g, j, none⟩ = false := by
  obtain ⟨l, h1, h2⟩ := h
  exact ⟨_, h2.cell h1 j hj⟩
theorem Some_.stay {W W' : World} {g g' N c : Nat} (h : Some_ W g N c) (hs : Stay g' W W') (hne : g ≠ g') : Some_ W' g N c := by
  obtain ⟨l, h1, h2⟩ := h
  exact ⟨l, h1, h2.stay hs (fun ad n1 c1 e1 => by cases e1; exact hne)⟩
theorem Some_.up {W W' : World} {g N c : Nat} (h : Some_ W g N c) (hB : Below W.heap.size W W') : Some_ W' g N c := by
  obtain ⟨l, h1, h2⟩ := h
  exact ⟨l, h1, h2.up hB⟩
theorem tn_nums {D X : List Int} {p p2 : Option Addr} {n c n2 c2 : Nat} {W : World} (h : Tn D X (.agg #[.slice p n c, .slice p2 n2 c2]) W) : Nums .i64 W (.slice p n c) D ∧ Nums .i64 W (.slice p2 n2 c2) X := by
  obtain ⟨p', n', c', p2', n2', c2', e, h1, h2⟩ := h
  cases e
  exact ⟨h1, h2⟩
theorem own_some {W : World} {B : Nat} {p : Option Addr} {n c : Nat} {l : List Int} (h : OwnK .i64 24 W B (.slice p n c) l) (hl : l.length = n) (h1 : 1 ≤ n) : ∃ g, p = some ⟨g, 0, none⟩ ∧ B ≤ g ∧ g < W.heap.size ∧ Some_ W g n c := by
  obtain ⟨g, c', e, hg⟩ := h.at (by omega)
  rw [hl] at e
  injection e with e1 e2 e3
  subst e1
  exact ⟨g, rfl, hg, h.size, l, hl, h.base⟩
theorem shp_self {d x : List Int} (h : isP d x) : shpE d x d = 0 ∧ shpD d x d = d ∧ shpV d x d = x := by
  unfold shpE shpD shpV
  rw [if_pos ⟨h, h.1⟩, if_pos h.2.symm, if_pos ⟨⟨h, h.1⟩, h.2.symm⟩, if_pos ⟨⟨h, h.1⟩, h.2.symm⟩]
  exact ⟨rfl, rfl, rfl⟩
theorem each_len (op : Int → Int → Int) {d x d' y : List Int} (h : eachE d x d' y = 0) : 1 ≤ (eachV op d x d' y).length ∧ (eachV op d x d' y).length ≤ 4096 := by
  unfold eachE at h
  by_cases hp : isP d x ∧ isP d' y
  · rw [if_pos hp] at h
    obtain ⟨a, b, J, hJ⟩ := joint hp h
    rw [(hJ.E (op := op)).2.2, List.length_map, List.length_range]
    exact ⟨hJ.gJ.pos, hJ.gJ.2.2⟩
  · rw [if_neg hp] at h
    cases h
set_option maxRecDepth 8000 in
set_option maxHeartbeats 8000000 in
theorem tkeeps_walk (w : World) (za : Nat → Int) (n c : Nat) (p : Option Addr) (zb : Nat → Int) (n2 c2 : Nat) (p2 : Option Addr) (zc : Nat → Int) (n3 c3 : Nat) (p3 : Option Addr) (zd : Nat → Int) (n4 c4 : Nat) (p4 : Option Addr)
    (r1 : RowN .i64 w p n c za) (r2 : RowN .i64 w p2 n2 c2 zb) (r3 : RowN .i64 w p3 n3 c3 zc) (r4 : RowN .i64 w p4 n4 c4 zd) :
    Calls Try.prog 7 #[.agg #[.slice p n c, .slice p2 n2 c2], .agg #[.slice p3 n3 c3, .slice p4 n4 c4]] w fun e w' => e = .returned (.bool true) ∧ Below w.heap.size w w' := by
  have HA : Hid (Nums .i64 w (.slice p n c) (nlst n za) ∧ Nums .i64 w (.slice p2 n2 c2) (nlst n2 zb) ∧ Nums .i64 w (.slice p3 n3 c3) (nlst n3 zc) ∧ Nums .i64 w (.slice p4 n4 c4) (nlst n4 zd)) := ⟨r1.nums, r2.nums, r3.nums, r4.nums⟩
  have HI : Hid (RI (nlst n za) ∧ RI (nlst n2 zb) ∧ RI (nlst n3 zc) ∧ RI (nlst n4 zd)) := ⟨r1.riI, r2.riI, r3.riI, r4.riI⟩
  have HF : Hid (Few (nlst n za) ∧ Few (nlst n2 zb) ∧ Few (nlst n3 zc) ∧ Few (nlst n4 zd)) := ⟨r1.few, r2.few, r3.few, r4.few⟩
  obtain ⟨d, ed⟩ : ∃ d, nlst n za = d := ⟨_, rfl⟩
  obtain ⟨x, ex⟩ : ∃ x, nlst n2 zb = x := ⟨_, rfl⟩
  obtain ⟨d', ed'⟩ : ∃ d, nlst n3 zc = d := ⟨_, rfl⟩
  obtain ⟨y, ey⟩ : ∃ y, nlst n4 zd = y := ⟨_, rfl⟩
  rw [ed, ex, ed', ey] at HA HI HF
  clear ed ex ed' ey r1 r2 r3 r4
  have HTa : Hid (∀ W, Below w.heap.size w W → Tn d x (.agg #[.slice p n c, .slice p2 n2 c2]) W ∧ Tn d' y (.agg #[.slice p3 n3 c3, .slice p4 n4 c4]) W) := fun W hW => ⟨⟨_, _, _, _, _, _, rfl, HA.out.1.up hW, HA.out.2.1.up hW⟩, _, _, _, _, _, _, rfl, HA.out.2.2.1.up hW, HA.out.2.2.2.up hW⟩
  haveI : Nonempty World := ⟨w⟩
  go_enter Try.func7, Try.ntmps7
  go_wp2_with fail
  generalize hW0 : World.alloc _ _ = W0
  have HB_W0 : Hid (Below w.heap.size w W0) := by show Below _ _ _; rw [← hW0]; go_grown
  have XA_v0 : Hid (Cel W0 w.heap.size (.slice p n c) (.slice p2 n2 c2)) := by show Cel _ _ _ _; unfold Cel; rw [← hW0]; simp [go_sem]
  have XB_v0 : Hid (Cel W0 (w.heap.size + 1) (.slice p3 n3 c3) (.slice p4 n4 c4)) := by show Cel _ _ _ _; unfold Cel; rw [← hW0]; simp [go_sem]
  clear hW0
  refine (tawake_any W0).mono ?_
  rintro e wa ⟨rfl, hBa⟩
  have HB_wa : Hid (Below w.heap.size w wa) := bstep HB_W0.out hBa
  have XA_v1 : Hid (Cel wa w.heap.size (.slice p n c) (.slice p2 n2 c2)) := XA_v0.out.up hBa
  have XB_v1 : Hid (Cel wa (w.heap.size + 1) (.slice p3 n3 c3) (.slice p4 n4 c4)) := XB_v0.out.up hBa
  clear XA_v0 XB_v0
  clear hBa
  have cg := great_any p p2 n c n2 c2 200 (by decide) wa
  by_cases hga : 10 < n ∨ 200 < n2
  · rw [decide_eq_true hga] at cg
    obtain ⟨xa0, xa1, _, _⟩ := XA_v1.out
    have xaz := cell_lt xa0
    obtain ⟨xb0, xb1, _, _⟩ := XB_v1.out
    have xbz := cell_lt xb0
    go_wp2_with fail
    refine (cg).mono ?_
    rintro e wb ⟨rfl, hBwb⟩
    have HB_wb : Hid (Below w.heap.size w wb) := bstep HB_wa.out hBwb
    have XA_v2 : Hid (Cel wb w.heap.size (.slice p n c) (.slice p2 n2 c2)) := XA_v1.out.up hBwb
    have XB_v2 : Hid (Cel wb (w.heap.size + 1) (.slice p3 n3 c3) (.slice p4 n4 c4)) := XB_v1.out.up hBwb
    clear XA_v1 XB_v1
    clear hBwb xa0 xa1 xaz xb0 xb1 xbz
    go_wp2
    go_ret
    exact ⟨rfl, HB_wb.out⟩
  rw [decide_eq_false hga] at cg
  obtain ⟨xa0, xa1, _, _⟩ := XA_v1.out
  have xaz := cell_lt xa0
  obtain ⟨xb0, xb1, _, _⟩ := XB_v1.out
  have xbz := cell_lt xb0
  go_wp2_with fail
  refine (cg).mono ?_
  rintro e wb ⟨rfl, hBwb⟩
  have HB_wb : Hid (Below w.heap.size w wb) := bstep HB_wa.out hBwb
  have XA_v2 : Hid (Cel wb w.heap.size (.slice p n c) (.slice p2 n2 c2)) := XA_v1.out.up hBwb
  have XB_v2 : Hid (Cel wb (w.heap.size + 1) (.slice p3 n3 c3) (.slice p4 n4 c4)) := XB_v1.out.up hBwb
  clear XA_v1 XB_v1
  clear hBwb xa0 xa1 xaz xb0 xb1 xbz
  clear cg hga
  have cg := great_any p3 p4 n3 c3 n4 c4 200 (by decide) wb
  by_cases hga : 10 < n3 ∨ 200 < n4
  · rw [decide_eq_true hga] at cg
    obtain ⟨xa0, xa1, _, _⟩ := XA_v2.out
    have xaz := cell_lt xa0
    obtain ⟨xb0, xb1, _, _⟩ := XB_v2.out
    have xbz := cell_lt xb0
    go_wp2_with fail
    refine (cg).mono ?_
    rintro e wc ⟨rfl, hBwc⟩
    have HB_wc : Hid (Below w.heap.size w wc) := bstep HB_wb.out hBwc
    have XA_v3 : Hid (Cel wc w.heap.size (.slice p n c) (.slice p2 n2 c2)) := XA_v2.out.up hBwc
    have XB_v3 : Hid (Cel wc (w.heap.size + 1) (.slice p3 n3 c3) (.slice p4 n4 c4)) := XB_v2.out.up hBwc
    clear XA_v2 XB_v2
    clear hBwc xa0 xa1 xaz xb0 xb1 xbz
    go_wp2
    go_ret
    exact ⟨rfl, HB_wc.out⟩
  rw [decide_eq_false hga] at cg
  obtain ⟨xa0, xa1, _, _⟩ := XA_v2.out
  have xaz := cell_lt xa0
  obtain ⟨xb0, xb1, _, _⟩ := XB_v2.out
  have xbz := cell_lt xb0
  go_wp2_with fail
  refine (cg).mono ?_
  rintro e wc ⟨rfl, hBwc⟩
  have HB_wc : Hid (Below w.heap.size w wc) := bstep HB_wb.out hBwc
  have XA_v3 : Hid (Cel wc w.heap.size (.slice p n c) (.slice p2 n2 c2)) := XA_v2.out.up hBwc
  have XB_v3 : Hid (Cel wc (w.heap.size + 1) (.slice p3 n3 c3) (.slice p4 n4 c4)) := XB_v2.out.up hBwc
  clear XA_v2 XB_v2
  clear hBwc xa0 xa1 xaz xb0 xb1 xbz
  clear cg hga
  have cg := is_tn (HTa.out wc HB_wc.out).1 HI.out.1
  rcases (Decidable.em (isP d x)).symm with hp0 | hp0
  · rw [decide_eq_false hp0] at cg
    obtain ⟨xa0, xa1, _, _⟩ := XA_v3.out
    have xaz := cell_lt xa0
    obtain ⟨xb0, xb1, _, _⟩ := XB_v3.out
    have xbz := cell_lt xb0
    go_wp2_with fail
    refine (cg).mono ?_
    rintro e wd ⟨rfl, hBwd⟩
    have HB_wd : Hid (Below w.heap.size w wd) := bstep HB_wc.out hBwd
    have XA_v4 : Hid (Cel wd w.heap.size (.slice p n c) (.slice p2 n2 c2)) := XA_v3.out.up hBwd
    have XB_v4 : Hid (Cel wd (w.heap.size + 1) (.slice p3 n3 c3) (.slice p4 n4 c4)) := XB_v3.out.up hBwd
    clear XA_v3 XB_v3
    clear hBwd xa0 xa1 xaz xb0 xb1 xbz
    go_wp2
    go_ret
    exact ⟨rfl, HB_wd.out⟩
  rw [decide_eq_true hp0] at cg
  obtain ⟨xa0, xa1, _, _⟩ := XA_v3.out
  have xaz := cell_lt xa0
  obtain ⟨xb0, xb1, _, _⟩ := XB_v3.out
  have xbz := cell_lt xb0
  go_wp2_with fail
  refine (cg).mono ?_
  rintro e wd ⟨rfl, hBwd⟩
  have HB_wd : Hid (Below w.heap.size w wd) := bstep HB_wc.out hBwd
  have XA_v4 : Hid (Cel wd w.heap.size (.slice p n c) (.slice p2 n2 c2)) := XA_v3.out.up hBwd
  have XB_v4 : Hid (Cel wd (w.heap.size + 1) (.slice p3 n3 c3) (.slice p4 n4 c4)) := XB_v3.out.up hBwd
  clear XA_v3 XB_v3
  clear hBwd xa0 xa1 xaz xb0 xb1 xbz
  clear cg
  have cg := is_tn (HTa.out wd HB_wd.out).2 HI.out.2.2.1
  rcases (Decidable.em (isP d' y)).symm with hp1 | hp1
  · rw [decide_eq_false hp1] at cg
    obtain ⟨xa0, xa1, _, _⟩ := XA_v4.out
    have xaz := cell_lt xa0
    obtain ⟨xb0, xb1, _, _⟩ := XB_v4.out
    have xbz := cell_lt xb0
    go_wp2_with fail
    refine (cg).mono ?_
    rintro e we ⟨rfl, hBwe⟩
    have HB_we : Hid (Below w.heap.size w we) := bstep HB_wd.out hBwe
    have XA_v5 : Hid (Cel we w.heap.size (.slice p n c) (.slice p2 n2 c2)) := XA_v4.out.up hBwe
    have XB_v5 : Hid (Cel we (w.heap.size + 1) (.slice p3 n3 c3) (.slice p4 n4 c4)) := XB_v4.out.up hBwe
    clear XA_v4 XB_v4
    clear hBwe xa0 xa1 xaz xb0 xb1 xbz
    go_wp2
    go_ret
    exact ⟨rfl, HB_we.out⟩
  rw [decide_eq_true hp1] at cg
  obtain ⟨xa0, xa1, _, _⟩ := XA_v4.out
  have xaz := cell_lt xa0
  obtain ⟨xb0, xb1, _, _⟩ := XB_v4.out
  have xbz := cell_lt xb0
  go_wp2_with fail
  refine (cg).mono ?_
  rintro e we ⟨rfl, hBwe⟩
  have HB_we : Hid (Below w.heap.size w we) := bstep HB_wd.out hBwe
  have XA_v5 : Hid (Cel we w.heap.size (.slice p n c) (.slice p2 n2 c2)) := XA_v4.out.up hBwe
  have XB_v5 : Hid (Cel we (w.heap.size + 1) (.slice p3 n3 c3) (.slice p4 n4 c4)) := XB_v4.out.up hBwe
  clear XA_v4 XB_v4
  clear hBwe xa0 xa1 xaz xb0 xb1 xbz
  clear cg
  have HP : Hid (isP d x ∧ isP d' y) := ⟨hp0, hp1⟩
  clear hp0 hp1
  have HND : Hid (∀ W, Below we.heap.size we W → Nums .i64 W (.slice p n c) d ∧ d.length ≤ 1073741824) := fun W hW => ⟨HA.out.1.up (bstep HB_we.out hW), by have := HP.out.1.1.1; rw [ntl_len] at this; omega⟩
  have HNX : Hid (∀ W, Below we.heap.size we W → Nums .i64 W (.slice p2 n2 c2) x ∧ x.length ≤ 1073741824) := fun W hW => ⟨HA.out.2.1.up (bstep HB_we.out hW), by have h1 := HP.out.1.1.2.2; have h2 := HP.out.1.2; omega⟩
  obtain ⟨xa0, xa1, _, _⟩ := XA_v5.out
  have xaz := cell_lt xa0
  obtain ⟨xb0, xb1, _, _⟩ := XB_v5.out
  have xbz := cell_lt xb0
  go_wp2_with fail
  refine rel [⟨0, 31, Emp .i64 3 we.heap.size⟩, ⟨3, 34, fun v W => OwnK .i64 3 W we.heap.size v d⟩, ⟨4, 35, Emp .i64 24 we.heap.size⟩, ⟨7, 38, fun v W => OwnK .i64 24 W we.heap.size v x⟩, ⟨8, 39, OwnT we.heap.size d x⟩, ⟨9, 5, NewC we.heap.size⟩] 10 94 (by kernel_rfl) rfl rfl (by kernel_rfl) (by rfl) ?_ ?_
  · intro e he v W W' h hb
    simp only [List.mem_cons, List.not_mem_nil, or_false] at he
    rcases he with rfl | rfl | rfl | rfl | rfl | rfl
    · obtain ⟨g, e1, h1⟩ := h
      exact ⟨g, e1, h1.up hb⟩
    · exact OwnK.up h hb
    · obtain ⟨g, e1, h1⟩ := h
      exact ⟨g, e1, h1.up hb⟩
    · exact OwnK.up h hb
    · exact OwnT.up h hb
    · exact NewC.up h hb
  apply Exists.intro
  refine ⟨fun x => ?_, ?_, ?_⟩
  · simp only [List.take_succ_cons, List.take_zero]
    refine relTold rfl rfl ?_ ?_
    · intro F hF hf d_
      have hFc := hF.cell
      have hFf := hF.frozen
      simp [yieldsR, yieldsUpon, go_sem]
      exact ⟨⟨(F d_).heap.size, rfl, (own_lit (k := .i64) (e := 3) (F d_) [] 0 rfl (by decide)).low (hF.below d_).size⟩, up_alloc _ _⟩
    (try simp only [Act.put, List.setIfInBounds_toArray, List.set_cons_zero, List.set_cons_succ])
    refine relQuiet rfl rfl ?_
    apply Exists.intro
    refine ⟨fun F hF hf K hK => ?_, ?_⟩
    · have hFc := hF.cell
      have hFf := hF.frozen
      go_big_quiet_op
      first | exact hK | (apply Exists.intro; refine ⟨fun _ => ?_, ?_⟩; (· fail); exact hK)
    (try simp only [Act.put, List.setIfInBounds_toArray, List.set_cons_zero, List.set_cons_succ])
    refine relQuiet rfl rfl ?_
    apply Exists.intro
    refine ⟨fun F hF hf K hK => ?_, ?_⟩
    · have hFc := hF.cell
      have hFf := hF.frozen
      go_big_quiet_op
      first | exact hK | (apply Exists.intro; refine ⟨fun _ => ?_, ?_⟩; (· fail); exact hK)
    (try simp only [Act.put, List.setIfInBounds_toArray, List.set_cons_zero, List.set_cons_succ])
    refine relTold rfl rfl ?_ ?_
    · intro F hF hf d_
      have hFc := hF.cell
      have hFf := hF.frozen
      have h9 := hf _ List.mem_cons_self (by rfl) d_
      obtain ⟨g9, e9, o9⟩ := h9
      simp only [] at e9
      rw [e9] at o9
      obtain ⟨v8, w8, hr, ho, hb⟩ := app0 numT (by decide) 23 (F d_) we.heap.size g9 o9 (hF.below d_).size _ _ (HND.out (F d_) (hF.below d_)).1 (HND.out (F d_) (hF.below d_)).2
      simp [yieldsR, yieldsUpon, execOp, resolve, invoke, builtin, Act.eval, e9, hr, Result.andThen]
      exact ⟨ho, hb⟩
    (try simp only [Act.put, List.setIfInBounds_toArray, List.set_cons_zero, List.set_cons_succ])
    refine relTold rfl rfl ?_ ?_
    · intro F hF hf d_
      have hFc := hF.cell
      have hFf := hF.frozen
      simp [yieldsR, yieldsUpon, go_sem]
      exact ⟨⟨(F d_).heap.size, rfl, (own_lit (k := .i64) (e := 24) (F d_) [] 0 rfl (by decide)).low (hF.below d_).size⟩, up_alloc _ _⟩
    (try simp only [Act.put, List.setIfInBounds_toArray, List.set_cons_zero, List.set_cons_succ])
    refine relQuiet rfl rfl ?_
    apply Exists.intro
    refine ⟨fun F hF hf K hK => ?_, ?_⟩
    · have hFc := hF.cell
      have hFf := hF.frozen
      go_big_quiet_op
      first | exact hK | (apply Exists.intro; refine ⟨fun _ => ?_, ?_⟩; (· fail); exact hK)
    (try simp only [Act.put, List.setIfInBounds_toArray, List.set_cons_zero, List.set_cons_succ])
    refine relQuiet rfl rfl ?_
    apply Exists.intro
    refine ⟨fun F hF hf K hK => ?_, ?_⟩
    · have hFc := hF.cell
      have hFf := hF.frozen
      go_big_quiet_op
      first | exact hK | (apply Exists.intro; refine ⟨fun _ => ?_, ?_⟩; (· fail); exact hK)
    (try simp only [Act.put, List.setIfInBounds_toArray, List.set_cons_zero, List.set_cons_succ])
    refine relTold rfl rfl ?_ ?_
    · intro F hF hf d_
      have hFc := hF.cell
      have hFf := hF.frozen
      have h9 := hf _ (List.mem_cons_of_mem _ (List.mem_cons_of_mem _ List.mem_cons_self)) (by rfl) d_
      obtain ⟨g9, e9, o9⟩ := h9
      simp only [] at e9
      rw [e9] at o9
      obtain ⟨v8, w8, hr, ho, hb⟩ := app0 fixT (by decide) 25 (F d_) we.heap.size g9 o9 (hF.below d_).size _ _ (HNX.out (F d_) (hF.below d_)).1 (HNX.out (F d_) (hF.below d_)).2
      simp [yieldsR, yieldsUpon, execOp, resolve, invoke, builtin, Act.eval, e9, hr, Result.andThen]
      exact ⟨ho, hb⟩
    (try simp only [Act.put, List.setIfInBounds_toArray, List.set_cons_zero, List.set_cons_succ])
    refine relTold rfl rfl ?_ ?_
    · intro F hF hf d_
      have hFc := hF.cell
      have hFf := hF.frozen
      have h3 := hf _ (List.mem_cons_of_mem _ List.mem_cons_self) (by rfl) d_
      have h7 := hf _ (List.mem_cons_of_mem _ (List.mem_cons_of_mem _ (List.mem_cons_of_mem _ List.mem_cons_self))) (by rfl) d_
      obtain ⟨pa, na, ca, ea, _⟩ := OwnK.nums h3 |>.lst
      obtain ⟨pb, nb, cb, eb, _⟩ := OwnK.nums h7 |>.lst
      simp only [] at h3 h7 ea eb
      rw [ea] at h3
      rw [eb] at h7
      simp [yieldsR, yieldsUpon, go_sem, ea, eb]
      exact ⟨⟨pa, na, ca, pb, nb, cb, rfl, h3, h7⟩, Below.refl _ _⟩
    (try simp only [Act.put, List.setIfInBounds_toArray, List.set_cons_zero, List.set_cons_succ])
    refine relTold rfl rfl ?_ ?_
    · intro F hF hf d_
      have hFc := hF.cell
      have hFf := hF.frozen
      simp [yieldsR, yieldsUpon, go_sem]
      exact ⟨⟨(F d_).heap.size, rfl, by show ((F d_).heap.push _)[(F d_).heap.size]? = _; simp, (hF.below d_).size⟩, up_alloc _ _⟩
    (try simp only [Act.put, List.setIfInBounds_toArray, List.set_cons_zero, List.set_cons_succ])
    refine relEnd ?_
    exact rfl
  · exact fun x => rfl

  intro z1 xs hBz1 hf
  simp only [List.drop_succ_cons, List.drop_zero]
  have hT := hf _ (List.mem_cons_of_mem _ (List.mem_cons_of_mem _ (List.mem_cons_of_mem _ (List.mem_cons_of_mem _ List.mem_cons_self))))
  have hN := hf _ (List.mem_cons_of_mem _ (List.mem_cons_of_mem _ (List.mem_cons_of_mem _ (List.mem_cons_of_mem _ (List.mem_cons_of_mem _ List.mem_cons_self)))))
  have h0 := hf _ List.mem_cons_self
  have h3 := hf _ (List.mem_cons_of_mem _ List.mem_cons_self)
  have h4 := hf _ (List.mem_cons_of_mem _ (List.mem_cons_of_mem _ List.mem_cons_self))
  have h7 := hf _ (List.mem_cons_of_mem _ (List.mem_cons_of_mem _ (List.mem_cons_of_mem _ List.mem_cons_self)))
  obtain ⟨pa1, na1, ca1, pb1, nb1, cb1, ev, o1, o2⟩ := hT
  obtain ⟨b1, eb, hb1, hb2⟩ := hN
  simp only [] at ev eb
  obtain ⟨x0, e0⟩ : ∃ q, xs 0 = q := ⟨_, rfl⟩
  obtain ⟨x3, e3⟩ : ∃ q, xs 3 = q := ⟨_, rfl⟩
  obtain ⟨x4, e4⟩ : ∃ q, xs 4 = q := ⟨_, rfl⟩
  obtain ⟨x7, e7⟩ : ∃ q, xs 7 = q := ⟨_, rfl⟩
  simp only [ev, eb, e0, e3, e4, e7]
  have cb := new_cel hb1
  have f1 := o1.off_type hb1 (by decide)
  have f2 := o2.off_type hb1 (by decide)
  have cf := cb.set (.slice pa1 na1 ca1) (.slice pb1 nb1 cb1)
  obtain ⟨c0, c1, c2', c3'⟩ := cb
  obtain ⟨y0, y1, _, _⟩ := cf
  have hY1 : Below we.heap.size we (set2 z1 b1 (.slice pa1 na1 ca1) (.slice pb1 nb1 cb1)) := below_set2 hBz1 b1 hb2 _ _
  have hT1 : Tn d x (.agg #[.slice pa1 na1 ca1, .slice pb1 nb1 cb1]) (set2 z1 b1 (.slice pa1 na1 ca1) (.slice pb1 nb1 cb1)) := ⟨_, _, _, _, _, _, rfl, (o1.stay (Stay.set2 _ _ _) f1).nums, (o2.stay (Stay.set2 _ _ _) f2).nums⟩
  have hC1 : Cel (set2 z1 b1 (.slice pa1 na1 ca1) (.slice pb1 nb1 cb1)) b1 (.slice pa1 na1 ca1) (.slice pb1 nb1 cb1) := (new_cel hb1).set _ _
  clear hf h0 h3 h4 h7 e0 e3 e4 e7 ev eb HND HNX f1 f2 o1 o2
  go_wp2_with fail
  generalize hYn1 : World.setCell _ _ _ = Y1
  have hYs : set2 z1 b1 (.slice pa1 na1 ca1) (.slice pb1 nb1 cb1) = Y1 := hYn1
  rw [hYs] at hY1 hT1 hC1
  clear hYs
  have HB_Y1 : Hid (Below w.heap.size w Y1) := bstep HB_we.out hY1
  have XA_v6 : Hid (Cel Y1 w.heap.size (.slice p n c) (.slice p2 n2 c2)) := XA_v5.out.up hY1
  have XB_v6 : Hid (Cel Y1 (w.heap.size + 1) (.slice p3 n3 c3) (.slice p4 n4 c4)) := XB_v5.out.up hY1
  clear XA_v5 XB_v5
  have C1_v6 : Hid (Cel Y1 b1 (.slice pa1 na1 ca1) (.slice pb1 nb1 cb1)) := hC1
  have T_1_v6 : Hid (Tn d x (.agg #[.slice pa1 na1 ca1, .slice pb1 nb1 cb1]) Y1) := hT1
  clear hYn1 hY1 hT1 hC1 c0 c1 c2' c3' y0 y1 hb1 hb2 hBz1
  have HND : Hid (∀ W, Below Y1.heap.size Y1 W → Nums .i64 W (.slice p3 n3 c3) d' ∧ d'.length ≤ 1073741824) := fun W hW => ⟨HA.out.2.2.1.up (bstep HB_Y1.out hW), by have := HP.out.2.1.1; rw [ntl_len] at this; omega⟩
  have HNX : Hid (∀ W, Below Y1.heap.size Y1 W → Nums .i64 W (.slice p4 n4 c4) y ∧ y.length ≤ 1073741824) := fun W hW => ⟨HA.out.2.2.2.up (bstep HB_Y1.out hW), by have h1 := HP.out.2.1.2.2; have h2 := HP.out.2.2; omega⟩
  obtain ⟨xa0, xa1, _, _⟩ := XA_v6.out
  have xaz := cell_lt xa0
  obtain ⟨xb0, xb1, _, _⟩ := XB_v6.out
  have xbz := cell_lt xb0
  go_wp2_with fail
  refine rel [⟨0, 40, Emp .i64 3 Y1.heap.size⟩, ⟨3, 43, fun v W => OwnK .i64 3 W Y1.heap.size v d'⟩, ⟨4, 44, Emp .i64 24 Y1.heap.size⟩, ⟨7, 47, fun v W => OwnK .i64 24 W Y1.heap.size v y⟩, ⟨8, 48, OwnT Y1.heap.size d' y⟩, ⟨9, 6, NewC Y1.heap.size⟩] 10 94 (by kernel_rfl) rfl rfl (by kernel_rfl) (by rfl) ?_ ?_
  · intro e he v W W' h hb
    simp only [List.mem_cons, List.not_mem_nil, or_false] at he
    rcases he with rfl | rfl | rfl | rfl | rfl | rfl
    · obtain ⟨g, e1, h1⟩ := h
      exact ⟨g, e1, h1.up hb⟩
    · exact OwnK.up h hb
    · obtain ⟨g, e1, h1⟩ := h
      exact ⟨g, e1, h1.up hb⟩
    · exact OwnK.up h hb
    · exact OwnT.up h hb
    · exact NewC.up h hb
  apply Exists.intro
  refine ⟨fun x => ?_, ?_, ?_⟩
  · simp only [List.take_succ_cons, List.take_zero]
    refine relTold rfl rfl ?_ ?_
    · intro F hF hf d_
      have hFc := hF.cell
      have hFf := hF.frozen
      simp [yieldsR, yieldsUpon, go_sem]
      exact ⟨⟨(F d_).heap.size, rfl, (own_lit (k := .i64) (e := 3) (F d_) [] 0 rfl (by decide)).low (hF.below d_).size⟩, up_alloc _ _⟩
    (try simp only [Act.put, List.setIfInBounds_toArray, List.set_cons_zero, List.set_cons_succ])
    refine relQuiet rfl rfl ?_
    apply Exists.intro
    refine ⟨fun F hF hf K hK => ?_, ?_⟩
    · have hFc := hF.cell
      have hFf := hF.frozen
      go_big_quiet_op
      first | exact hK | (apply Exists.intro; refine ⟨fun _ => ?_, ?_⟩; (· fail); exact hK)
    (try simp only [Act.put, List.setIfInBounds_toArray, List.set_cons_zero, List.set_cons_succ])
    refine relQuiet rfl rfl ?_
    apply Exists.intro
    refine ⟨fun F hF hf K hK => ?_, ?_⟩
    · have hFc := hF.cell
      have hFf := hF.frozen
      go_big_quiet_op
      first | exact hK | (apply Exists.intro; refine ⟨fun _ => ?_, ?_⟩; (· fail); exact hK)
    (try simp only [Act.put, List.setIfInBounds_toArray, List.set_cons_zero, List.set_cons_succ])
    refine relTold rfl rfl ?_ ?_
    · intro F hF hf d_
      have hFc := hF.cell
      have hFf := hF.frozen
      have h9 := hf _ List.mem_cons_self (by rfl) d_
      obtain ⟨g9, e9, o9⟩ := h9
      simp only [] at e9
      rw [e9] at o9
      obtain ⟨v8, w8, hr, ho, hb⟩ := app0 numT (by decide) 23 (F d_) Y1.heap.size g9 o9 (hF.below d_).size _ _ (HND.out (F d_) (hF.below d_)).1 (HND.out (F d_) (hF.below d_)).2
      simp [yieldsR, yieldsUpon, execOp, resolve, invoke, builtin, Act.eval, e9, hr, Result.andThen]
      exact ⟨ho, hb⟩
    (try simp only [Act.put, List.setIfInBounds_toArray, List.set_cons_zero, List.set_cons_succ])
    refine relTold rfl rfl ?_ ?_
    · intro F hF hf d_
      have hFc := hF.cell
      have hFf := hF.frozen
      simp [yieldsR, yieldsUpon, go_sem]
      exact ⟨⟨(F d_).heap.size, rfl, (own_lit (k := .i64) (e := 24) (F d_) [] 0 rfl (by decide)).low (hF.below d_).size⟩, up_alloc _ _⟩
    (try simp only [Act.put, List.setIfInBounds_toArray, List.set_cons_zero, List.set_cons_succ])
    refine relQuiet rfl rfl ?_
    apply Exists.intro
    refine ⟨fun F hF hf K hK => ?_, ?_⟩
    · have hFc := hF.cell
      have hFf := hF.frozen
      go_big_quiet_op
      first | exact hK | (apply Exists.intro; refine ⟨fun _ => ?_, ?_⟩; (· fail); exact hK)
    (try simp only [Act.put, List.setIfInBounds_toArray, List.set_cons_zero, List.set_cons_succ])
    refine relQuiet rfl rfl ?_
    apply Exists.intro
    refine ⟨fun F hF hf K hK => ?_, ?_⟩
    · have hFc := hF.cell
      have hFf := hF.frozen
      go_big_quiet_op
      first | exact hK | (apply Exists.intro; refine ⟨fun _ => ?_, ?_⟩; (· fail); exact hK)
    (try simp only [Act.put, List.setIfInBounds_toArray, List.set_cons_zero, List.set_cons_succ])
    refine relTold rfl rfl ?_ ?_
    · intro F hF hf d_
      have hFc := hF.cell
      have hFf := hF.frozen
      have h9 := hf _ (List.mem_cons_of_mem _ (List.mem_cons_of_mem _ List.mem_cons_self)) (by rfl) d_
      obtain ⟨g9, e9, o9⟩ := h9
      simp only [] at e9
      rw [e9] at o9
      obtain ⟨v8, w8, hr, ho, hb⟩ := app0 fixT (by decide) 25 (F d_) Y1.heap.size g9 o9 (hF.below d_).size _ _ (HNX.out (F d_) (hF.below d_)).1 (HNX.out (F d_) (hF.below d_)).2
      simp [yieldsR, yieldsUpon, execOp, resolve, invoke, builtin, Act.eval, e9, hr, Result.andThen]
      exact ⟨ho, hb⟩
    (try simp only [Act.put, List.setIfInBounds_toArray, List.set_cons_zero, List.set_cons_succ])
    refine relTold rfl rfl ?_ ?_
    · intro F hF hf d_
      have hFc := hF.cell
      have hFf := hF.frozen
      have h3 := hf _ (List.mem_cons_of_mem _ List.mem_cons_self) (by rfl) d_
      have h7 := hf _ (List.mem_cons_of_mem _ (List.mem_cons_of_mem _ (List.mem_cons_of_mem _ List.mem_cons_self))) (by rfl) d_
      obtain ⟨pa, na, ca, ea, _⟩ := OwnK.nums h3 |>.lst
      obtain ⟨pb, nb, cb, eb, _⟩ := OwnK.nums h7 |>.lst
      simp only [] at h3 h7 ea eb
      rw [ea] at h3
      rw [eb] at h7
      simp [yieldsR, yieldsUpon, go_sem, ea, eb]
      exact ⟨⟨pa, na, ca, pb, nb, cb, rfl, h3, h7⟩, Below.refl _ _⟩
    (try simp only [Act.put, List.setIfInBounds_toArray, List.set_cons_zero, List.set_cons_succ])
    refine relTold rfl rfl ?_ ?_
    · intro F hF hf d_
      have hFc := hF.cell
      have hFf := hF.frozen
      simp [yieldsR, yieldsUpon, go_sem]
      exact ⟨⟨(F d_).heap.size, rfl, by show ((F d_).heap.push _)[(F d_).heap.size]? = _; simp, (hF.below d_).size⟩, up_alloc _ _⟩
    (try simp only [Act.put, List.setIfInBounds_toArray, List.set_cons_zero, List.set_cons_succ])
    refine relEnd ?_
    exact rfl
  · exact fun x => rfl

  intro z2 xs hBz2 hf
  simp only [List.drop_succ_cons, List.drop_zero]
  have hT := hf _ (List.mem_cons_of_mem _ (List.mem_cons_of_mem _ (List.mem_cons_of_mem _ (List.mem_cons_of_mem _ List.mem_cons_self))))
  have hN := hf _ (List.mem_cons_of_mem _ (List.mem_cons_of_mem _ (List.mem_cons_of_mem _ (List.mem_cons_of_mem _ (List.mem_cons_of_mem _ List.mem_cons_self)))))
  have h0 := hf _ List.mem_cons_self
  have h3 := hf _ (List.mem_cons_of_mem _ List.mem_cons_self)
  have h4 := hf _ (List.mem_cons_of_mem _ (List.mem_cons_of_mem _ List.mem_cons_self))
  have h7 := hf _ (List.mem_cons_of_mem _ (List.mem_cons_of_mem _ (List.mem_cons_of_mem _ List.mem_cons_self)))
  obtain ⟨pa2, na2, ca2, pb2, nb2, cb2, ev, o1, o2⟩ := hT
  obtain ⟨b2, eb, hb1, hb2⟩ := hN
  simp only [] at ev eb
  obtain ⟨x0, e0⟩ : ∃ q, xs 0 = q := ⟨_, rfl⟩
  obtain ⟨x3, e3⟩ : ∃ q, xs 3 = q := ⟨_, rfl⟩
  obtain ⟨x4, e4⟩ : ∃ q, xs 4 = q := ⟨_, rfl⟩
  obtain ⟨x7, e7⟩ : ∃ q, xs 7 = q := ⟨_, rfl⟩
  simp only [ev, eb, e0, e3, e4, e7]
  have cb := new_cel hb1
  have f1 := o1.off_type hb1 (by decide)
  have f2 := o2.off_type hb1 (by decide)
  have cf := cb.set (.slice pa2 na2 ca2) (.slice pb2 nb2 cb2)
  obtain ⟨c0, c1, c2', c3'⟩ := cb
  obtain ⟨y0, y1, _, _⟩ := cf
  have hY2 : Below Y1.heap.size Y1 (set2 z2 b2 (.slice pa2 na2 ca2) (.slice pb2 nb2 cb2)) := below_set2 hBz2 b2 hb2 _ _
  have hT2 : Tn d' y (.agg #[.slice pa2 na2 ca2, .slice pb2 nb2 cb2]) (set2 z2 b2 (.slice pa2 na2 ca2) (.slice pb2 nb2 cb2)) := ⟨_, _, _, _, _, _, rfl, (o1.stay (Stay.set2 _ _ _) f1).nums, (o2.stay (Stay.set2 _ _ _) f2).nums⟩
  have hC2 : Cel (set2 z2 b2 (.slice pa2 na2 ca2) (.slice pb2 nb2 cb2)) b2 (.slice pa2 na2 ca2) (.slice pb2 nb2 cb2) := (new_cel hb1).set _ _
  clear hf h0 h3 h4 h7 e0 e3 e4 e7 ev eb HND HNX f1 f2 o1 o2
  obtain ⟨u0, u1, _, _⟩ := C1_v6.out.up hY2
  have uz := cell_lt u0
  go_wp2_with fail
  generalize hYn2 : World.setCell _ _ _ = Y2
  have hYs : set2 z2 b2 (.slice pa2 na2 ca2) (.slice pb2 nb2 cb2) = Y2 := hYn2
  rw [hYs] at hY2 hT2 hC2
  clear hYs
  have HB_Y2 : Hid (Below w.heap.size w Y2) := bstep HB_Y1.out hY2
  have XA_v7 : Hid (Cel Y2 w.heap.size (.slice p n c) (.slice p2 n2 c2)) := XA_v6.out.up hY2
  have XB_v7 : Hid (Cel Y2 (w.heap.size + 1) (.slice p3 n3 c3) (.slice p4 n4 c4)) := XB_v6.out.up hY2
  have C1_v7 : Hid (Cel Y2 b1 (.slice pa1 na1 ca1) (.slice pb1 nb1 cb1)) := C1_v6.out.up hY2
  have T_1_v7 : Hid (Tn d x (.agg #[.slice pa1 na1 ca1, .slice pb1 nb1 cb1]) Y2) := T_1_v6.out.up hY2
  clear XA_v6 XB_v6 C1_v6 T_1_v6
  have C2_v7 : Hid (Cel Y2 b2 (.slice pa2 na2 ca2) (.slice pb2 nb2 cb2)) := hC2
  have T_2_v7 : Hid (Tn d' y (.agg #[.slice pa2 na2 ca2, .slice pb2 nb2 cb2]) Y2) := hT2
  clear hYn2 hY2 hT2 hC2 c0 c1 c2' c3' y0 y1 hb1 hb2 hBz2 u0 u1 uz
  obtain ⟨E, eE⟩ : ∃ E, eachE d x d' y = E := ⟨_, rfl⟩
  obtain ⟨D, eD⟩ : ∃ D, eachD d x d' y = D := ⟨_, rfl⟩
  obtain ⟨V, eV⟩ : ∃ V, eachV (fun a b => Fx.hold (a + b)) d x d' y = V := ⟨_, rfl⟩
  have HV : Hid (E = 0 → 1 ≤ V.length ∧ V.length ≤ 4096) := fun h => by rw [← eV]; exact each_len _ (by rw [eE]; exact h)
  have k1 := tadd_any pa1 pb1 pa2 pb2 na1 ca1 nb1 cb1 na2 ca2 nb2 cb2 d x d' y HI.out.1 HI.out.2.1 HI.out.2.2.1 HI.out.2.2.2 Y2 (tn_nums T_1_v7.out).1 (tn_nums T_1_v7.out).2 (tn_nums T_2_v7.out).1 (tn_nums T_2_v7.out).2
  rw [eE, eD, eV] at k1
  clear eE eD eV
  refine k1.mono ?_
  rintro e w1 ⟨v1, rfl, ⟨s1, t1, rfl, hs1, ht1⟩, hB1⟩
  obtain ⟨ps1, ns1, cs1, rfl, _⟩ := hs1.nums.lst
  obtain ⟨pt1, nt1, ct1, rfl, Lt1⟩ := ht1.nums.lst
  have O1 : Hid (OwnK .i64 24 w1 Y2.heap.size (.slice pt1 nt1 ct1) V ∧ V.length = nt1) := ⟨ht1, Lt1.out.1⟩
  have HY1 : Hid (Below Y2.heap.size Y2 w1) := hB1
  clear k1 hs1 ht1 hB1 Lt1
  obtain ⟨c10, c11, _, _⟩ := C1_v7.out.up HY1.out
  have c1z := cell_lt c10
  go_wp2_with fail
  generalize hW1 : World.alloc _ _ = W1
  have hC1 : Below w1.heap.size w1 W1 := by rw [← hW1]; exact up_alloc w1 _
  have X7 : Hid (Cel W1 w1.heap.size (.slice ps1 ns1 cs1) (.slice pt1 nt1 ct1)) := by show Cel _ _ _ _; unfold Cel; rw [← hW1]; simp [go_sem]
  have HYW : Hid (Below Y2.heap.size Y2 W1) := HY1.out.trans (hC1.mono HY1.out.size)
  have O1w : Hid (OwnK .i64 24 W1 Y2.heap.size (.slice pt1 nt1 ct1) V) := O1.out.1.up hC1
  have Hs1 : Hid (w1.heap.size < W1.heap.size) := cell_lt X7.out.1
  clear c10 c11 c1z
  clear hW1 hC1
  have k2 := treshape_any pa1 pb1 pa1 na1 ca1 nb1 cb1 na1 ca1 d x d HI.out.1 HI.out.1 W1 ((tn_nums T_1_v7.out).1.up HYW.out) ((tn_nums T_1_v7.out).2.up HYW.out) ((tn_nums T_1_v7.out).1.up HYW.out)
  rw [(shp_self HP.out.1).1, (shp_self HP.out.1).2.1, (shp_self HP.out.1).2.2] at k2
  refine k2.mono ?_
  rintro e w2 ⟨v2, rfl, ⟨s2, t2, rfl, hs2, ht2⟩, hB2⟩
  obtain ⟨ps2, ns2, cs2, rfl, _⟩ := hs2.nums.lst
  obtain ⟨pt2, nt2, ct2, rfl, Lt2⟩ := ht2.nums.lst
  have hx1 : 1 ≤ nt2 ∧ nt2 ≤ 4096 := by rw [← Lt2.out.1, HP.out.1.2]; exact ⟨HP.out.1.1.pos, HP.out.1.1.2.2⟩
  obtain ⟨g2, eg2, hg2, hg2s, hS2⟩ := own_some ht2 Lt2.out.1 hx1.1
  subst eg2
  have hx1' : (nt2 : Int) ≤ 4096 := by omega
  have HYx : Hid (Below Y2.heap.size Y2 w2) := HYW.out.trans (hB2.mono HYW.out.size)
  have X7x : Hid (Cel w2 w1.heap.size (.slice ps1 ns1 cs1) (.slice pt1 nt1 ct1)) := X7.out.up hB2
  have O1x : Hid (OwnK .i64 24 w2 Y2.heap.size (.slice pt1 nt1 ct1) V) := O1w.out.up hB2
  have HS2 : Hid (Some_ w2 g2 nt2 ct2 ∧ W1.heap.size ≤ g2 ∧ g2 < w2.heap.size ∧ Y2.heap.size ≤ W1.heap.size) := ⟨hS2, hg2, hg2s, HYW.out.size⟩
  clear k2 hs2 ht2 hB2 Lt2 hS2 hg2 hg2s X7 O1w
  by_cases hE : E = 0
  · subst hE
    have hv := HV.out rfl
    rw [O1.out.2] at hv
    obtain ⟨g1, eg1, hg1, hg1s, hS1⟩ := own_some O1x.out O1.out.2 hv.1
    subst eg1
    have hv' : (nt1 : Int) ≤ 4096 := by omega
    have hgw := O1.out.1.size
    go_wp2_with fail
    generalize hW2 : World.alloc _ _ = W2
    have hC2 : Below w2.heap.size w2 W2 := by rw [← hW2]; exact up_alloc w2 _
    have X9 : Hid (Cel W2 w2.heap.size (.slice ps2 ns2 cs2) (.slice (some ⟨g2, 0, none⟩) nt2 ct2)) := by show Cel _ _ _ _; unfold Cel; rw [← hW2]; simp [go_sem]
    have X7w : Hid (Cel W2 w1.heap.size (.slice ps1 ns1 cs1) (.slice (some ⟨g1, 0, none⟩) nt1 ct1)) := X7x.out.up hC2
    have HY2 : Hid (Below Y2.heap.size Y2 W2) := HYx.out.trans (hC2.mono HYx.out.size)
    have S1 : Hid (Some_ W2 g1 nt1 ct1) := hS1.up hC2
    have S2 : Hid (Some_ W2 g2 nt2 ct2) := HS2.out.1.up hC2
    have Hg1 : Hid (Y2.heap.size ≤ g1 ∧ g1 < w1.heap.size) := ⟨hg1, hgw⟩
    clear hW2 hC2 hg1 hg1s hS1 hgw hv
    go_loopg [11] nt1 (fun gg i wr => ∃ (k : Nat), k ≤ nt1 ∧ gg = nt1 - k ∧ i = .int .i64 (k : Int) ∧ Hid (Some_ wr g1 nt1 ct1) ∧ Hid (Below Y2.heap.size Y2 wr ∧ Stay g1 W2 wr))
    case atStart => exact ⟨0, by omega, by omega, by first | rfl | simp, S1, HY2.out, Stay.refl _ _⟩
    case round =>
      obtain ⟨k, hk, hgk, rfl, HS, hBS⟩ := hrel
      obtain ⟨R1, hR1⟩ : ∃ R1 : World, R1 = wr := ⟨_, rfl⟩
      subst hR1
      obtain ⟨x70, x71, _, _⟩ := X7w.out.stay hBS.out.2 (by have := Hg1.out; omega)
      by_cases hkn : k < nt1
      · have hk' : (k : Int) < (nt1 : Int) := by omega
        obtain ⟨yv, hown, hfz⟩ := HS.out.cell k hkn
        have H5 : Hid (Some_ (R1.setCell ⟨g1, k, none⟩ (.int .i64 9)) g1 nt1 ct1) := HS.out.put k 9
        have H6 : Hid (Below Y2.heap.size Y2 (R1.setCell ⟨g1, k, none⟩ (.int .i64 9)) ∧ Stay g1 W2 (R1.setCell ⟨g1, k, none⟩ (.int .i64 9))) := ⟨hBS.out.1.setCell (p := ⟨g1, k, none⟩) Hg1.out.1 _, hBS.out.2.set _ _⟩
        go_wp2
        go_roundg (nt1 - (k + 1))
        case measure => omega
        case rel => exact ⟨k + 1, by omega, rfl, by first | rfl | simp, H5, H6⟩
      · obtain rfl : k = nt1 := by omega
        have HBl : Hid (Below Y2.heap.size Y2 R1) := hBS.out.1
        have S2l : Hid (Some_ R1 g2 nt2 ct2) := S2.out.stay hBS.out.2 (by have := Hg1.out; have := HS2.out; have := Hs1.out; omega)
        have X9l : Hid (Cel R1 w2.heap.size (.slice ps2 ns2 cs2) (.slice (some ⟨g2, 0, none⟩) nt2 ct2)) := X9.out.stay hBS.out.2 (by have := Hg1.out; have := HS2.out; have := Hs1.out; omega)
        have Hg2 : Hid (Y2.heap.size ≤ g2 ∧ g2 < w2.heap.size) := ⟨by have := HS2.out; omega, HS2.out.2.2.1⟩
        go_wp2_with fail
        clear x70 x71
        go_loopg [12] nt2 (fun gg i wr => ∃ (k : Nat), k ≤ nt2 ∧ gg = nt2 - k ∧ i = .int .i64 (k : Int) ∧ Hid (Some_ wr g2 nt2 ct2) ∧ Hid (Below Y2.heap.size Y2 wr ∧ Stay g2 R1 wr))
        case atStart => exact ⟨0, by omega, by omega, by first | rfl | simp, S2l, HBl.out, Stay.refl _ _⟩
        case round =>
          obtain ⟨k, hk, hgk, rfl, HS, hBS⟩ := hrel
          obtain ⟨R2, hR2⟩ : ∃ R2 : World, R2 = wr := ⟨_, rfl⟩
          subst hR2
          obtain ⟨x90, x91, _, _⟩ := X9l.out.stay hBS.out.2 (by have := Hg2.out; omega)
          by_cases hkn : k < nt2
          · have hk' : (k : Int) < (nt2 : Int) := by omega
            obtain ⟨yv, hown, hfz⟩ := HS.out.cell k hkn
            have H5 : Hid (Some_ (R2.setCell ⟨g2, k, none⟩ (.int .i64 7)) g2 nt2 ct2) := HS.out.put k 7
            have H6 : Hid (Below Y2.heap.size Y2 (R2.setCell ⟨g2, k, none⟩ (.int .i64 7)) ∧ Stay g2 R1 (R2.setCell ⟨g2, k, none⟩ (.int .i64 7))) := ⟨hBS.out.1.setCell (p := ⟨g2, k, none⟩) Hg2.out.1 _, hBS.out.2.set _ _⟩
            go_wp2
            go_roundg (nt2 - (k + 1))
            case measure => omega
            case rel => exact ⟨k + 1, by omega, rfl, by first | rfl | simp, H5, H6⟩
          · obtain rfl : k = nt2 := by omega
            have HBf : Hid (Below w.heap.size w R2) := bstep HB_Y2.out hBS.out.1
            obtain ⟨c10, c11, _, _⟩ := C1_v7.out.up hBS.out.1
            have c1z := cell_lt c10
            obtain ⟨xa0, xa1, _, _⟩ := XA_v7.out.up hBS.out.1
            have xaz := cell_lt xa0
            have l0 := same_tn (T_1_v7.out.up hBS.out.1) (HTa.out R2 HBf.out).1 HF.out.1 HF.out.2.1
            rw [decide_eq_true ⟨rfl, rfl⟩] at l0
            go_wp2_with fail
            refine l0.mono ?_
            rintro e q0 ⟨rfl, hq0⟩
            have HBq : Hid (Below Y2.heap.size Y2 q0 ∧ Below w.heap.size w q0) := ⟨hBS.out.1.trans (hq0.mono hBS.out.1.size), bstep HBf.out hq0⟩
            clear c10 c11 c1z xa0 xa1 xaz
            clear l0 hq0
            obtain ⟨c20, c21, _, _⟩ := C2_v7.out.up HBq.out.1
            have c2z := cell_lt c20
            obtain ⟨xb0, xb1, _, _⟩ := XB_v7.out.up HBq.out.1
            have xbz := cell_lt xb0
            have l1 := same_tn (T_2_v7.out.up HBq.out.1) (HTa.out q0 HBq.out.2).2 HF.out.2.2.1 HF.out.2.2.2
            rw [decide_eq_true ⟨rfl, rfl⟩] at l1
            go_wp2_with fail
            refine l1.mono ?_
            rintro e q1 ⟨rfl, hq1⟩
            have HBr : Hid (Below w.heap.size w q1) := bstep HBq.out.2 hq1
            clear l1 hq1
            go_wp2
            go_ret
            exact ⟨rfl, HBr.out⟩
  · have hE' : (E == 0) = false := by simp [hE]
    go_wp2_with fail
    generalize hW2 : World.alloc _ _ = W2
    have hC2 : Below w2.heap.size w2 W2 := by rw [← hW2]; exact up_alloc w2 _
    have X9l : Hid (Cel W2 w2.heap.size (.slice ps2 ns2 cs2) (.slice (some ⟨g2, 0, none⟩) nt2 ct2)) := by show Cel _ _ _ _; unfold Cel; rw [← hW2]; simp [go_sem]
    have HBl : Hid (Below Y2.heap.size Y2 W2) := HYx.out.trans (hC2.mono HYx.out.size)
    have S2l : Hid (Some_ W2 g2 nt2 ct2) := HS2.out.1.up hC2
    have Hg2 : Hid (Y2.heap.size ≤ g2 ∧ g2 < w2.heap.size) := ⟨by have := HS2.out; omega, HS2.out.2.2.1⟩
    clear hW2 hC2
    go_loopg [12] nt2 (fun gg i wr => ∃ (k : Nat), k ≤ nt2 ∧ gg = nt2 - k ∧ i = .int .i64 (k : Int) ∧ Hid (Some_ wr g2 nt2 ct2) ∧ Hid (Below Y2.heap.size Y2 wr ∧ Stay g2 W2 wr))
    case atStart => exact ⟨0, by omega, by omega, by first | rfl | simp, S2l, HBl.out, Stay.refl _ _⟩
    case round =>
      obtain ⟨k, hk, hgk, rfl, HS, hBS⟩ := hrel
      obtain ⟨R2, hR2⟩ : ∃ R2 : World, R2 = wr := ⟨_, rfl⟩
      subst hR2
      obtain ⟨x90, x91, _, _⟩ := X9l.out.stay hBS.out.2 (by have := Hg2.out; omega)
      by_cases hkn : k < nt2
      · have hk' : (k : Int) < (nt2 : Int) := by omega
        obtain ⟨yv, hown, hfz⟩ := HS.out.cell k hkn
        have H5 : Hid (Some_ (R2.setCell ⟨g2, k, none⟩ (.int .i64 7)) g2 nt2 ct2) := HS.out.put k 7
        have H6 : Hid (Below Y2.heap.size Y2 (R2.setCell ⟨g2, k, none⟩ (.int .i64 7)) ∧ Stay g2 W2 (R2.setCell ⟨g2, k, none⟩ (.int .i64 7))) := ⟨hBS.out.1.setCell (p := ⟨g2, k, none⟩) Hg2.out.1 _, hBS.out.2.set _ _⟩
        go_wp2
        go_roundg (nt2 - (k + 1))
        case measure => omega
        case rel => exact ⟨k + 1, by omega, rfl, by first | rfl | simp, H5, H6⟩
      · obtain rfl : k = nt2 := by omega
        have HBf : Hid (Below w.heap.size w R2) := bstep HB_Y2.out hBS.out.1
        obtain ⟨c10, c11, _, _⟩ := C1_v7.out.up hBS.out.1
        have c1z := cell_lt c10
        obtain ⟨xa0, xa1, _, _⟩ := XA_v7.out.up hBS.out.1
        have xaz := cell_lt xa0
        have l0 := same_tn (T_1_v7.out.up hBS.out.1) (HTa.out R2 HBf.out).1 HF.out.1 HF.out.2.1
        rw [decide_eq_true ⟨rfl, rfl⟩] at l0
        go_wp2_with fail
        refine l0.mono ?_
        rintro e q0 ⟨rfl, hq0⟩
        have HBq : Hid (Below Y2.heap.size Y2 q0 ∧ Below w.heap.size w q0) := ⟨hBS.out.1.trans (hq0.mono hBS.out.1.size), bstep HBf.out hq0⟩
        clear c10 c11 c1z xa0 xa1 xaz
        clear l0 hq0
        obtain ⟨c20, c21, _, _⟩ := C2_v7.out.up HBq.out.1
        have c2z := cell_lt c20
        obtain ⟨xb0, xb1, _, _⟩ := XB_v7.out.up HBq.out.1
        have xbz := cell_lt xb0
        have l1 := same_tn (T_2_v7.out.up HBq.out.1) (HTa.out q0 HBq.out.2).2 HF.out.2.2.1 HF.out.2.2.2
        rw [decide_eq_true ⟨rfl, rfl⟩] at l1
        go_wp2_with fail
        refine l1.mono ?_
        rintro e q1 ⟨rfl, hq1⟩
        have HBr : Hid (Below w.heap.size w q1) := bstep HBq.out.2 hq1
        clear l1 hq1
        go_wp2
        go_ret
        exact ⟨rfl, HBr.out⟩
end Go.Proofs.Ytbndiadgnglkhaa.Wd
