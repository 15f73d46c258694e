/- The reference's Get. -/
import Derived.Test.YthmpfdkbpdbhnaaMsR
namespace Go.Proofs.Ythmpfdkbpdbhnaa.Wd
open Go.RowKit
set_option linter.unusedVariables false
set_option linter.unusedSimpArgs false
set_option maxRecDepth 40000
set_option maxHeartbeats 4000000
theorem ms_put {W : World} {g : Nat} {τ : TypeId} (x0 x1 x2 x3 x4 x5 x6 : Value) (h : W.heap[g]? = some (.cells #[.int .i64 0, .int .i64 0, .int .i64 0, .int .u32 0, .int .u32 0, .slice none 0 0, .slice none 0 0] τ (0, 0))) :
    (((((((W.setCell ⟨g, 0, none⟩ x0).setCell ⟨g, 1, none⟩ x1).setCell ⟨g, 2, none⟩ x2).setCell ⟨g, 3, none⟩ x3).setCell ⟨g, 4, none⟩ x4).setCell ⟨g, 5, none⟩ x5).setCell ⟨g, 6, none⟩ x6).cell? ⟨g, 0, none⟩ = some x0 ∧ (((((((W.setCell ⟨g, 0, none⟩ x0).setCell ⟨g, 1, none⟩ x1).setCell ⟨g, 2, none⟩ x2).setCell ⟨g, 3, none⟩ x3).setCell ⟨g, 4, none⟩ x4).setCell ⟨g, 5, none⟩ x5).setCell ⟨g, 6, none⟩ x6).cell? ⟨g, 1, none⟩ = some x1 ∧ (((((((W.setCell ⟨g, 0, none⟩ x0).setCell ⟨g, 1, none⟩ x1).setCell ⟨g, 2, none⟩ x2).setCell ⟨g, 3, none⟩ x3).setCell ⟨g, 4, none⟩ x4).setCell ⟨g, 5, none⟩ x5).setCell ⟨g, 6, none⟩ x6).cell? ⟨g, 2, none⟩ = some x2 ∧ (((((((W.setCell ⟨g, 0, none⟩ x0).setCell ⟨g, 1, none⟩ x1).setCell ⟨g, 2, none⟩ x2).setCell ⟨g, 3, none⟩ x3).setCell ⟨g, 4, none⟩ x4).setCell ⟨g, 5, none⟩ x5).setCell ⟨g, 6, none⟩ x6).cell? ⟨g, 3, none⟩ = some x3 ∧ (((((((W.setCell ⟨g, 0, none⟩ x0).setCell ⟨g, 1, none⟩ x1).setCell ⟨g, 2, none⟩ x2).setCell ⟨g, 3, none⟩ x3).setCell ⟨g, 4, none⟩ x4).setCell ⟨g, 5, none⟩ x5).setCell ⟨g, 6, none⟩ x6).cell? ⟨g, 4, none⟩ = some x4 ∧ (((((((W.setCell ⟨g, 0, none⟩ x0).setCell ⟨g, 1, none⟩ x1).setCell ⟨g, 2, none⟩ x2).setCell ⟨g, 3, none⟩ x3).setCell ⟨g, 4, none⟩ x4).setCell ⟨g, 5, none⟩ x5).setCell ⟨g, 6, none⟩ x6).cell? ⟨g, 5, none⟩ = some x5 ∧ (((((((W.setCell ⟨g, 0, none⟩ x0).setCell ⟨g, 1, none⟩ x1).setCell ⟨g, 2, none⟩ x2).setCell ⟨g, 3, none⟩ x3).setCell ⟨g, 4, none⟩ x4).setCell ⟨g, 5, none⟩ x5).setCell ⟨g, 6, none⟩ x6).cell? ⟨g, 6, none⟩ = some x6 := by
  have c : ∀ j u, (#[.int .i64 0, .int .i64 0, .int .i64 0, .int .u32 0, .int .u32 0, .slice none 0 0, .slice none 0 0] : Array Value)[j]? = some u → W.cell? ⟨g, j, none⟩ = some u := fun j u hj => by
    unfold World.cell?
    rw [h]
    exact hj
  have off : ∀ (W : World) (i j : Nat) (x : Value), j ≠ i → (W.setCell ⟨g, i, none⟩ x).cell? ⟨g, j, none⟩ = W.cell? ⟨g, j, none⟩ := fun W i j x hij => World.cell?_setCell_other _ _ _ _ (by simp; try omega)
  have same : ∀ (W : World) (p : Addr) (x v : Value), W.cell? p = some v → (W.setCell p x).cell? p = some x := fun W p x v h => World.cell?_setCell_same _ _ _ h
  refine ⟨?_, ?_, ?_, ?_, ?_, ?_, ?_⟩
  · rw [off _ 6 0 _ (by decide), off _ 5 0 _ (by decide), off _ 4 0 _ (by decide), off _ 3 0 _ (by decide), off _ 2 0 _ (by decide), off _ 1 0 _ (by decide)]
    refine same _ _ _ (.int .i64 0) ?_
    exact c 0 _ rfl
  · rw [off _ 6 1 _ (by decide), off _ 5 1 _ (by decide), off _ 4 1 _ (by decide), off _ 3 1 _ (by decide), off _ 2 1 _ (by decide)]
    refine same _ _ _ (.int .i64 0) ?_
    rw [off _ 0 1 _ (by decide)]
    exact c 1 _ rfl
  · rw [off _ 6 2 _ (by decide), off _ 5 2 _ (by decide), off _ 4 2 _ (by decide), off _ 3 2 _ (by decide)]
    refine same _ _ _ (.int .i64 0) ?_
    rw [off _ 1 2 _ (by decide), off _ 0 2 _ (by decide)]
    exact c 2 _ rfl
  · rw [off _ 6 3 _ (by decide), off _ 5 3 _ (by decide), off _ 4 3 _ (by decide)]
    refine same _ _ _ (.int .u32 0) ?_
    rw [off _ 2 3 _ (by decide), off _ 1 3 _ (by decide), off _ 0 3 _ (by decide)]
    exact c 3 _ rfl
  · rw [off _ 6 4 _ (by decide), off _ 5 4 _ (by decide)]
    refine same _ _ _ (.int .u32 0) ?_
    rw [off _ 3 4 _ (by decide), off _ 2 4 _ (by decide), off _ 1 4 _ (by decide), off _ 0 4 _ (by decide)]
    exact c 4 _ rfl
  · rw [off _ 6 5 _ (by decide)]
    refine same _ _ _ (.slice none 0 0) ?_
    rw [off _ 4 5 _ (by decide), off _ 3 5 _ (by decide), off _ 2 5 _ (by decide), off _ 1 5 _ (by decide), off _ 0 5 _ (by decide)]
    exact c 5 _ rfl
  · refine same _ _ _ (.slice none 0 0) ?_
    rw [off _ 5 6 _ (by decide), off _ 4 6 _ (by decide), off _ 3 6 _ (by decide), off _ 2 6 _ (by decide), off _ 1 6 _ (by decide), off _ 0 6 _ (by decide)]
    exact c 6 _ rfl
theorem ms_set5 {W : World} {g : Nat} {τ : TypeId} {a0 a1 a2 a3 a4 a5 a6 : Value} (u : Value) (h : W.heap[g]? = some (.cells #[a0, a1, a2, a3, a4, a5, a6] τ (0, 0))) : (W.setCell ⟨g, 5, none⟩ u).heap[g]? = some (.cells #[a0, a1, a2, a3, a4, u, a6] τ (0, 0)) := by
  rw [setCell_eq_setRow W g 5 _ τ (0, 0) _ h, setRow_heap W g _ _ τ _ h]
  rfl
theorem ms_set6 {W : World} {g : Nat} {τ : TypeId} {a0 a1 a2 a3 a4 a5 a6 : Value} (u : Value) (h : W.heap[g]? = some (.cells #[a0, a1, a2, a3, a4, a5, a6] τ (0, 0))) : (W.setCell ⟨g, 6, none⟩ u).heap[g]? = some (.cells #[a0, a1, a2, a3, a4, a5, u] τ (0, 0)) := by
  rw [setCell_eq_setRow W g 6 _ τ (0, 0) _ h, setRow_heap W g _ _ τ _ h]
  rfl
/-- A literal of one number, of one Wide. -/
def LitN (B : Nat) (x : Int) (v : Value) (W : World) : Prop := ∃ g, v = .slice (some ⟨g, 0, none⟩) 1 1 ∧ W.heap[g]? = some (.cells #[.int .i64 x] 2 (0, 0)) ∧ B ≤ g
theorem LitN.up {B : Nat} {x : Int} {v : Value} {W W' : World} (h : LitN B x v W) (hB : Below W.heap.size W W') : LitN B x v W' := by
  obtain ⟨g, e, a, b⟩ := h
  exact ⟨g, e, (hB.block _ (heap_in8 a)).trans a, b⟩
theorem LitN.nums {B : Nat} {x : Int} {v : Value} {W : World} (h : LitN B x v W) : Nums .i64 W v [x] := by
  obtain ⟨g, rfl, a, _⟩ := h
  refine .inr ⟨_, 1, rfl, fun j u hj => ?_⟩
  rw [addr_plus, Nat.zero_add]
  unfold World.cell?
  simp only [a]
  simpa [vals] using hj
def LitWd (B : Nat) (hi lo : Int) (v : Value) (W : World) : Prop := ∃ g, v = .slice (some ⟨g, 0, none⟩) 1 1 ∧ W.heap[g]? = some (.cells #[.int .i64 hi, .int .u64 lo] 47 (0, 0)) ∧ B ≤ g
theorem LitWd.up {B : Nat} {x y : Int} {v : Value} {W W' : World} (h : LitWd B x y v W) (hB : Below W.heap.size W W') : LitWd B x y v W' := by
  obtain ⟨g, e, a, b⟩ := h
  exact ⟨g, e, (hB.block _ (heap_in8 a)).trans a, b⟩
def IsW (hi lo : Int) (v : Value) (W : World) : Prop := v = .agg #[.int .i64 hi, .int .u64 lo]
theorem numI64 : NumT Try.prog 24 2 .i64 8 := ⟨Try.underlying24, by kernel_rfl⟩
theorem OwnW.stay {W W' : World} {B g : Nat} {v : Value} {l : List Int} (h : OwnW W B v l) (hs : Stay g W W') (hg : g < B) : OwnW W' B v l := by
  refine ⟨h.1, h.2.1, ?_⟩
  rcases h.2.2 with h | ⟨b, cap, cur, h1, h2, h3, h4⟩
  · exact .inl h
  · exact .inr ⟨b, cap, cur, h1, h2, by rw [hs.block b (by omega) (heap_in8 h3)]; exact h3, h4⟩
theorem OwnW.low {W : World} {B B' : Nat} {v : Value} {l : List Int} (h : OwnW W B v l) (hB : B' ≤ B) : OwnW W B' v l := by
  refine ⟨h.1, h.2.1, ?_⟩
  rcases h.2.2 with h | ⟨b, cap, cur, h1, h2, h3, h4⟩
  · exact .inl h
  · exact .inr ⟨b, cap, cur, h1, Nat.le_trans hB h2, h3, h4⟩
theorem OwnW.sl {W : World} {B : Nat} {v : Value} {l : List Int} (h : OwnW W B v l) : ∃ a b d, v = .slice a b d := by
  rcases h.2.2 with ⟨e, _⟩ | ⟨g2, cap, cur, e, _⟩
  · exact ⟨_, _, _, e⟩
  · exact ⟨_, _, _, e⟩
theorem OwnK.sl {k : IntKind} {e : TypeId} {W : World} {B : Nat} {v : Value} {l : List Int} (h : OwnK k e W B v l) : ∃ a b d, v = .slice a b d := by
  rcases h.2 with ⟨e, _⟩ | ⟨g2, cap, cur, e, _⟩
  · exact ⟨_, _, _, e⟩
  · exact ⟨_, _, _, e⟩
theorem rget_any (p : Option Addr) (n c : Nat) (l : List Int) (hl : By8 l) (hn : l.length = n) (hn2 : n ≤ 1073741000) (hnc : n ≤ c) (w : World) (hB : Bytes w (.slice p n c) l) :
    Calls Try.prog 14 #[.slice p n c] w fun e w' => ∃ vN vV, e = .returned (.tuple #[MsV (qI l (uK l)) (qI l (uF l)) (qI l (uT l)) (qI l (uV l)) (qI l (uS l)) vN vV, .bool (decide (getP l))]) ∧ OwnK .i64 2 w' w.heap.size vN (qN l) ∧ OwnW w' w.heap.size vV (qW l) ∧ Below w.heap.size w w' := by
  haveI : Nonempty World := ⟨w⟩
  obtain ⟨r, er⟩ : ∃ r, decide (getP l) = r := ⟨_, rfl⟩
  have HR : Hid (decide (getP l) = r) := er
  rw [er]
  clear er
  obtain ⟨A1, eA1⟩ : ∃ x, qI l (uK l) = x := ⟨_, rfl⟩
  obtain ⟨A2, eA2⟩ : ∃ x, qI l (uF l) = x := ⟨_, rfl⟩
  obtain ⟨A3, eA3⟩ : ∃ x, qI l (uT l) = x := ⟨_, rfl⟩
  obtain ⟨A4, eA4⟩ : ∃ x, qI l (uV l) = x := ⟨_, rfl⟩
  obtain ⟨A5, eA5⟩ : ∃ x, qI l (uS l) = x := ⟨_, rfl⟩
  obtain ⟨A6, eA6⟩ : ∃ x, qN l = x := ⟨_, rfl⟩
  obtain ⟨A7, eA7⟩ : ∃ x, qW l = x := ⟨_, rfl⟩
  have HA : Hid (qI l (uK l) = A1 ∧ qI l (uF l) = A2 ∧ qI l (uT l) = A3 ∧ qI l (uV l) = A4 ∧ qI l (uS l) = A5 ∧ qN l = A6 ∧ qW l = A7) := ⟨eA1, eA2, eA3, eA4, eA5, eA6, eA7⟩
  rw [eA1, eA2, eA3, eA4, eA5, eA6, eA7]
  clear eA1 eA2 eA3 eA4 eA5 eA6 eA7
  have cD : ∀ W, Below w.heap.size w W → _ := fun W hW => rfdec_any p n c l hl hn hn2 hnc W (hB.up hW)
  unfold FrD FrV at cD
  have HN : Hid (By8 l ∧ l.length = n ∧ n ≤ 1073741000) := ⟨hl, hn, hn2⟩
  obtain ⟨K, eK⟩ : ∃ x, dN l (uK l) = x := ⟨_, rfl⟩
  obtain ⟨F, eF⟩ : ∃ x, dN l (uF l) = x := ⟨_, rfl⟩
  obtain ⟨T, eT⟩ : ∃ x, dN l (uT l) = x := ⟨_, rfl⟩
  obtain ⟨V, eV⟩ : ∃ x, dN l (uV l) = x := ⟨_, rfl⟩
  obtain ⟨S, eS⟩ : ∃ x, dN l (uS l) = x := ⟨_, rfl⟩
  have HK : Hid (dN l (uK l) = K ∧ dN l (uF l) = F ∧ dN l (uT l) = T ∧ dN l (uV l) = V ∧ dN l (uS l) = S) := ⟨eK, eF, eT, eV, eS⟩
  rw [eK, eF, eT, eV, eS] at cD
  clear eK eF eT eV eS hl hn hn2 hB
  go_enter Try.func14, Try.ntmps14
  go_wp2_with fail
  generalize hW0 : World.alloc _ _ = W0
  have H0 : Hid (Below w.heap.size w W0 ∧ W0.heap[w.heap.size]? = some (.cells #[.int .i64 0, .int .i64 0, .int .i64 0, .int .u32 0, .int .u32 0, .slice none 0 0, .slice none 0 0] 35 (0, 0))) := by
    rw [← hW0]
    exact ⟨up_alloc _ _, by show (w.heap.push _)[w.heap.size]? = _; simp⟩
  clear hW0
  refine (cD W0 H0.out.1).mono ?_
  clear cD
  rintro e W1 ⟨vb, rfl, ho, hb⟩
  obtain ⟨pb, cb, rfl, hcb⟩ := own8_form ho
  have hX : Bytes W1 (.slice pb (dB8 l).length cb) (dB8 l) := ho.bytes
  have H1 : Hid (Below w.heap.size w W1 ∧ W1.heap[w.heap.size]? = some (.cells #[.int .i64 0, .int .i64 0, .int .i64 0, .int .u32 0, .int .u32 0, .slice none 0 0, .slice none 0 0] 35 (0, 0)) ∧ Bytes W1 (.slice pb (dB8 l).length cb) (dB8 l)) := ⟨bstep H0.out.1 hb, (hb.block _ (heap_in8 H0.out.2)).trans H0.out.2, hX⟩
  clear ho hb H0 hX
  by_cases hd : decP l
  case neg =>
    rw [decide_eq_false hd]
    have HG : Hid (¬ decP l) := hd
    clear hd
    clear HN HK
    have hd0 : ¬ getP l := fun h => HG.out h.1
    have HD : Hid (A1 = 0 ∧ A2 = 0 ∧ A3 = 0 ∧ A4 = 0 ∧ A5 = 0 ∧ A6 = [] ∧ A7 = [] ∧ r = false) := by
      obtain ⟨a1, a2, a3, a4, a5, a6, a7⟩ := HA.out
      exact ⟨a1.symm.trans (if_neg hd0), a2.symm.trans (if_neg hd0), a3.symm.trans (if_neg hd0), a4.symm.trans (if_neg hd0), a5.symm.trans (if_neg hd0), a6.symm.trans (if_neg hd0), a7.symm.trans (if_neg hd0), HR.out.symm.trans (decide_eq_false hd0)⟩
    have hb0 := H1.out.2.1
    obtain ⟨⟨z0, z1, z2, z3, z4, z5, z6⟩, e0, e1, e2, e3, e4, e5, e6⟩ := ms_cells hb0
    have kz := cell_lt z0
    have HT := ms_put (.int .i64 0) (.int .i64 0) (.int .i64 0) (.int .u32 0) (.int .u32 0) (.slice none 0 0) (.slice none 0 0) hb0
    have HT := hid2 HT HT
    have hB0 : Below w.heap.size w (((((((W1.setCell ⟨w.heap.size, 0, none⟩ (.int .i64 0)).setCell ⟨w.heap.size, 1, none⟩ (.int .i64 0)).setCell ⟨w.heap.size, 2, none⟩ (.int .i64 0)).setCell ⟨w.heap.size, 3, none⟩ (.int .u32 0)).setCell ⟨w.heap.size, 4, none⟩ (.int .u32 0)).setCell ⟨w.heap.size, 5, none⟩ (.slice none 0 0)).setCell ⟨w.heap.size, 6, none⟩ (.slice none 0 0)) := (((((((H1.out.1.setCell (p := ⟨w.heap.size, 0, none⟩) (Nat.le_refl _) _).setCell (p := ⟨w.heap.size, 1, none⟩) (Nat.le_refl _) _).setCell (p := ⟨w.heap.size, 2, none⟩) (Nat.le_refl _) _).setCell (p := ⟨w.heap.size, 3, none⟩) (Nat.le_refl _) _).setCell (p := ⟨w.heap.size, 4, none⟩) (Nat.le_refl _) _).setCell (p := ⟨w.heap.size, 5, none⟩) (Nat.le_refl _) _).setCell (p := ⟨w.heap.size, 6, none⟩) (Nat.le_refl _) _)
    have HB : Hid (Below w.heap.size w ((((((((W1.setCell ⟨w.heap.size, 0, none⟩ (.int .i64 0)).setCell ⟨w.heap.size, 1, none⟩ (.int .i64 0)).setCell ⟨w.heap.size, 2, none⟩ (.int .i64 0)).setCell ⟨w.heap.size, 3, none⟩ (.int .u32 0)).setCell ⟨w.heap.size, 4, none⟩ (.int .u32 0)).setCell ⟨w.heap.size, 5, none⟩ (.slice none 0 0)).setCell ⟨w.heap.size, 6, none⟩ (.slice none 0 0)).alloc (.cells #[.int .i64 K, .int .i64 F, .int .i64 T, .int .u32 V, .int .u32 S, .slice pb (dB8 l).length cb] 61))) := bstep hB0 (up_alloc _ _)
    clear hd0 hb0 hB0 H1
    repeat (first | go_values | go_skip | go_guarded | go_step | go_upon | (simp only [Int.not_lt, Int.not_le] at *; go_simp))
    obtain ⟨t0, t1, t2, t3, t4, t5, t6⟩ := HT.out.1
    obtain ⟨d1, d2, d3, d4, d5, d6, d7, d8⟩ := HD.out
    subst d1 d2 d3 d4 d5 d6 d7 d8
    refine bodyPost_ret (v := .tuple #[MsV 0 0 0 0 0 (.slice none 0 0) (.slice none 0 0), .bool false]) ?_ rfl ⟨.slice none 0 0, .slice none 0 0, rfl, OwnK.nil _ _ _ _, OwnW.nil _ _, HB.out⟩
    simp only [results]
    simp only [Try.results14]
    simp [go_sem, t0, t1, t2, t3, t4, t5, t6, kz]
  rw [decide_eq_true hd]
  obtain ⟨X, eX⟩ : ∃ X, dB8 l = X := ⟨_, rfl⟩
  rw [eX] at H1 hcb ⊢
  obtain ⟨nx, ex⟩ : ∃ x, X.length = x := ⟨_, rfl⟩
  rw [ex] at H1 hcb ⊢
  have HX : Hid (uB l = X ∧ X.length = nx ∧ By8 X ∧ nx ≤ 1073741000 ∧ decP l) := by
    have e : uB l = X := by rw [← eX]; exact (if_pos hd).symm
    have hu := uB_len hd.1
    have := HN.out.2.1
    have := HN.out.2.2
    rw [e, ex] at hu
    exact ⟨e, ex, by rw [← e]; exact (u_rng HN.out.1 hd.1).2.2.1, by omega, hd⟩
  clear hd eX ex
  by_cases h4 : (nx : Int) < 4
  case pos =>
    have HG : Hid (¬ getP l) := fun h => by have := h.2.1; rw [HX.out.1, HX.out.2.1] at this; omega
    clear HN HK HX
    have hd0 : ¬ getP l := HG.out
    have HD : Hid (A1 = 0 ∧ A2 = 0 ∧ A3 = 0 ∧ A4 = 0 ∧ A5 = 0 ∧ A6 = [] ∧ A7 = [] ∧ r = false) := by
      obtain ⟨a1, a2, a3, a4, a5, a6, a7⟩ := HA.out
      exact ⟨a1.symm.trans (if_neg hd0), a2.symm.trans (if_neg hd0), a3.symm.trans (if_neg hd0), a4.symm.trans (if_neg hd0), a5.symm.trans (if_neg hd0), a6.symm.trans (if_neg hd0), a7.symm.trans (if_neg hd0), HR.out.symm.trans (decide_eq_false hd0)⟩
    have hb0 := H1.out.2.1
    obtain ⟨⟨z0, z1, z2, z3, z4, z5, z6⟩, e0, e1, e2, e3, e4, e5, e6⟩ := ms_cells hb0
    have kz := cell_lt z0
    have HT := ms_put (.int .i64 0) (.int .i64 0) (.int .i64 0) (.int .u32 0) (.int .u32 0) (.slice none 0 0) (.slice none 0 0) hb0
    have HT := hid2 HT HT
    have hB0 : Below w.heap.size w (((((((W1.setCell ⟨w.heap.size, 0, none⟩ (.int .i64 0)).setCell ⟨w.heap.size, 1, none⟩ (.int .i64 0)).setCell ⟨w.heap.size, 2, none⟩ (.int .i64 0)).setCell ⟨w.heap.size, 3, none⟩ (.int .u32 0)).setCell ⟨w.heap.size, 4, none⟩ (.int .u32 0)).setCell ⟨w.heap.size, 5, none⟩ (.slice none 0 0)).setCell ⟨w.heap.size, 6, none⟩ (.slice none 0 0)) := (((((((H1.out.1.setCell (p := ⟨w.heap.size, 0, none⟩) (Nat.le_refl _) _).setCell (p := ⟨w.heap.size, 1, none⟩) (Nat.le_refl _) _).setCell (p := ⟨w.heap.size, 2, none⟩) (Nat.le_refl _) _).setCell (p := ⟨w.heap.size, 3, none⟩) (Nat.le_refl _) _).setCell (p := ⟨w.heap.size, 4, none⟩) (Nat.le_refl _) _).setCell (p := ⟨w.heap.size, 5, none⟩) (Nat.le_refl _) _).setCell (p := ⟨w.heap.size, 6, none⟩) (Nat.le_refl _) _)
    have HB : Hid (Below w.heap.size w ((((((((W1.setCell ⟨w.heap.size, 0, none⟩ (.int .i64 0)).setCell ⟨w.heap.size, 1, none⟩ (.int .i64 0)).setCell ⟨w.heap.size, 2, none⟩ (.int .i64 0)).setCell ⟨w.heap.size, 3, none⟩ (.int .u32 0)).setCell ⟨w.heap.size, 4, none⟩ (.int .u32 0)).setCell ⟨w.heap.size, 5, none⟩ (.slice none 0 0)).setCell ⟨w.heap.size, 6, none⟩ (.slice none 0 0)).alloc (.cells #[.int .i64 K, .int .i64 F, .int .i64 T, .int .u32 V, .int .u32 S, .slice pb nx cb] 61))) := bstep hB0 (up_alloc _ _)
    clear hd0 hb0 hB0 H1
    repeat (first | go_values | go_skip | go_guarded | go_step | go_upon | (simp only [Int.not_lt, Int.not_le] at *; go_simp))
    obtain ⟨t0, t1, t2, t3, t4, t5, t6⟩ := HT.out.1
    obtain ⟨d1, d2, d3, d4, d5, d6, d7, d8⟩ := HD.out
    subst d1 d2 d3 d4 d5 d6 d7 d8
    refine bodyPost_ret (v := .tuple #[MsV 0 0 0 0 0 (.slice none 0 0) (.slice none 0 0), .bool false]) ?_ rfl ⟨.slice none 0 0, .slice none 0 0, rfl, OwnK.nil _ _ _ _, OwnW.nil _ _, HB.out⟩
    simp only [results]
    simp only [Try.results14]
    simp [go_sem, t0, t1, t2, t3, t4, t5, t6, kz]
  go_wp2_with fail
  generalize hWp : World.alloc W1 _ = Wp
  have hA : Below W1.heap.size W1 Wp := by rw [← hWp]; exact up_alloc _ _
  have HP : Hid (Below w.heap.size w Wp ∧ Wp.heap[w.heap.size]? = some (.cells #[.int .i64 0, .int .i64 0, .int .i64 0, .int .u32 0, .int .u32 0, .slice none 0 0, .slice none 0 0] 35 (0, 0)) ∧ Bytes Wp (.slice pb nx cb) X) := ⟨bstep H1.out.1 hA, (hA.block _ (heap_in8 H1.out.2.1)).trans H1.out.2.1, H1.out.2.2.up hA⟩
  have eqp : Wp.heap.size = W1.heap.size + 1 := by rw [← hWp]; simp
  clear hWp hA H1
  generalize hW3 : World.alloc Wp _ = W3
  have hA : Below Wp.heap.size Wp W3 ∧ W3.heap[Wp.heap.size]? = some (.cells #[.int .i64 K, .int .i64 F, .int .i64 T, .int .u32 V, .int .u32 S, .slice none 0 0, .slice none 0 0] 35 (0, 0)) := by
    rw [← hW3]
    exact ⟨up_alloc _ _, by show (Wp.heap.push _)[Wp.heap.size]? = _; simp⟩
  obtain ⟨q, eq⟩ : ∃ q, Wp.heap.size = q := ⟨_, rfl⟩
  have HQ : Hid (Wp.heap.size = q ∧ w.heap.size < q) := ⟨eq, by rw [← eq]; exact heap_in8 HP.out.2.1⟩
  have H3 : Hid (Below q Wp W3 ∧ W3.heap[q]? = some (.cells #[.int .i64 K, .int .i64 F, .int .i64 T, .int .u32 V, .int .u32 S, .slice none 0 0, .slice none 0 0] 35 (0, 0))) := by rw [← eq]; exact hA
  rw [← eqp, eq]
  clear hW3 hA eq eqp
  have CA : Hid (∀ W, Below q Wp W → ∀ (s k : Nat), k ≤ 8 → s + k ≤ nx → ∀ y, num ((X.drop s).take k) = y → Calls Try.prog 31 #[.slice pb nx cb, .int .i64 (s : Int), .int .i64 (k : Int)] W fun e w' => e = .returned (.int .u64 y) ∧ w' = W) := fun W hW s k hk hs y hy => by
    have := at_any pb cb nx s k X HX.out.2.1 (by have := HX.out.2.2.2.1; omega) hk hs HX.out.2.2.1 W (HP.out.2.2.up (by rw [HQ.out.1]; exact hW))
    rw [hy] at this
    exact this
  have bx3 : ∀ W, Below q Wp W → Below w.heap.size w W ∧ W.heap[w.heap.size]? = some (.cells #[.int .i64 0, .int .i64 0, .int .i64 0, .int .u32 0, .int .u32 0, .slice none 0 0, .slice none 0 0] 35 (0, 0)) := fun W hW => ⟨bstep HP.out.1 (by rw [HQ.out.1]; exact hW), (hW.block _ HQ.out.2).trans HP.out.2.1⟩
  have BX : Hid (∀ W, Below q Wp W → Below w.heap.size w W ∧ W.heap[w.heap.size]? = some (.cells #[.int .i64 0, .int .i64 0, .int .i64 0, .int .u32 0, .int .u32 0, .slice none 0 0, .slice none 0 0] 35 (0, 0))) := bx3
  clear bx3
  obtain ⟨nn, en⟩ : ∃ x, nN X = x := ⟨_, rfl⟩
  have hnum : num ((X.drop 0).take 2) = (nn : Int) ∧ nn < 65536 := by
    have := num_top 2 (HX.out.2.2.1.take 2) (by rw [List.length_take, HX.out.2.1]; omega)
    rw [List.drop_zero, ← en]
    unfold nN
    omega
  have c0 := CA.out W3 H3.out.1 0 2 (by omega) (by omega) _ hnum.1
  rw [show ((0 : Nat) : Int) = 0 from rfl, show ((2 : Nat) : Int) = 2 from rfl] at c0
  have hnn : (nn : Int) < 65536 := by omega
  refine c0.mono ?_
  rintro e w1 ⟨rfl, rfl⟩
  have HXn : Hid (nN X = nn) := en
  clear c0 hnum en
  by_cases h5 : (500 : Int) < (nn : Int)
  case pos =>
    have HG : Hid (¬ getP l) := fun h => by have := h.2.2.1; rw [HX.out.1, HXn.out] at this; omega
    have hz := BX.out w1 H3.out.1
    clear HN HK HX CA BX
    have hd0 : ¬ getP l := HG.out
    have HD : Hid (A1 = 0 ∧ A2 = 0 ∧ A3 = 0 ∧ A4 = 0 ∧ A5 = 0 ∧ A6 = [] ∧ A7 = [] ∧ r = false) := by
      obtain ⟨a1, a2, a3, a4, a5, a6, a7⟩ := HA.out
      exact ⟨a1.symm.trans (if_neg hd0), a2.symm.trans (if_neg hd0), a3.symm.trans (if_neg hd0), a4.symm.trans (if_neg hd0), a5.symm.trans (if_neg hd0), a6.symm.trans (if_neg hd0), a7.symm.trans (if_neg hd0), HR.out.symm.trans (decide_eq_false hd0)⟩
    have hb0 := hz.2
    obtain ⟨⟨z0, z1, z2, z3, z4, z5, z6⟩, e0, e1, e2, e3, e4, e5, e6⟩ := ms_cells hb0
    have kz := cell_lt z0
    have HT := ms_put (.int .i64 0) (.int .i64 0) (.int .i64 0) (.int .u32 0) (.int .u32 0) (.slice none 0 0) (.slice none 0 0) hb0
    have HT := hid2 HT HT
    have hB0 : Below w.heap.size w (((((((w1.setCell ⟨w.heap.size, 0, none⟩ (.int .i64 0)).setCell ⟨w.heap.size, 1, none⟩ (.int .i64 0)).setCell ⟨w.heap.size, 2, none⟩ (.int .i64 0)).setCell ⟨w.heap.size, 3, none⟩ (.int .u32 0)).setCell ⟨w.heap.size, 4, none⟩ (.int .u32 0)).setCell ⟨w.heap.size, 5, none⟩ (.slice none 0 0)).setCell ⟨w.heap.size, 6, none⟩ (.slice none 0 0)) := (((((((hz.1.setCell (p := ⟨w.heap.size, 0, none⟩) (Nat.le_refl _) _).setCell (p := ⟨w.heap.size, 1, none⟩) (Nat.le_refl _) _).setCell (p := ⟨w.heap.size, 2, none⟩) (Nat.le_refl _) _).setCell (p := ⟨w.heap.size, 3, none⟩) (Nat.le_refl _) _).setCell (p := ⟨w.heap.size, 4, none⟩) (Nat.le_refl _) _).setCell (p := ⟨w.heap.size, 5, none⟩) (Nat.le_refl _) _).setCell (p := ⟨w.heap.size, 6, none⟩) (Nat.le_refl _) _)
    have HB : Hid (Below w.heap.size w (((((((w1.setCell ⟨w.heap.size, 0, none⟩ (.int .i64 0)).setCell ⟨w.heap.size, 1, none⟩ (.int .i64 0)).setCell ⟨w.heap.size, 2, none⟩ (.int .i64 0)).setCell ⟨w.heap.size, 3, none⟩ (.int .u32 0)).setCell ⟨w.heap.size, 4, none⟩ (.int .u32 0)).setCell ⟨w.heap.size, 5, none⟩ (.slice none 0 0)).setCell ⟨w.heap.size, 6, none⟩ (.slice none 0 0))) := hB0
    clear hd0 hb0 hB0 hz
    repeat (first | go_values | go_skip | go_guarded | go_step | go_upon | (simp only [Int.not_lt, Int.not_le] at *; go_simp))
    obtain ⟨t0, t1, t2, t3, t4, t5, t6⟩ := HT.out.1
    obtain ⟨d1, d2, d3, d4, d5, d6, d7, d8⟩ := HD.out
    subst d1 d2 d3 d4 d5 d6 d7 d8
    refine bodyPost_ret (v := .tuple #[MsV 0 0 0 0 0 (.slice none 0 0) (.slice none 0 0), .bool false]) ?_ rfl ⟨.slice none 0 0, .slice none 0 0, rfl, OwnK.nil _ _ _ _, OwnW.nil _ _, HB.out⟩
    simp only [results]
    simp only [Try.results14]
    simp [go_sem, t0, t1, t2, t3, t4, t5, t6, kz]
  by_cases h6 : (nx : Int) < 4 + 8 * (nn : Int)
  case pos =>
    have HG : Hid (¬ getP l) := fun h => by have := h.2.2.2.1; rw [HX.out.1, HXn.out, HX.out.2.1] at this; omega
    have hz := BX.out w1 H3.out.1
    clear HN HK HX CA BX
    have hd0 : ¬ getP l := HG.out
    have HD : Hid (A1 = 0 ∧ A2 = 0 ∧ A3 = 0 ∧ A4 = 0 ∧ A5 = 0 ∧ A6 = [] ∧ A7 = [] ∧ r = false) := by
      obtain ⟨a1, a2, a3, a4, a5, a6, a7⟩ := HA.out
      exact ⟨a1.symm.trans (if_neg hd0), a2.symm.trans (if_neg hd0), a3.symm.trans (if_neg hd0), a4.symm.trans (if_neg hd0), a5.symm.trans (if_neg hd0), a6.symm.trans (if_neg hd0), a7.symm.trans (if_neg hd0), HR.out.symm.trans (decide_eq_false hd0)⟩
    have hb0 := hz.2
    obtain ⟨⟨z0, z1, z2, z3, z4, z5, z6⟩, e0, e1, e2, e3, e4, e5, e6⟩ := ms_cells hb0
    have kz := cell_lt z0
    have HT := ms_put (.int .i64 0) (.int .i64 0) (.int .i64 0) (.int .u32 0) (.int .u32 0) (.slice none 0 0) (.slice none 0 0) hb0
    have HT := hid2 HT HT
    have hB0 : Below w.heap.size w (((((((w1.setCell ⟨w.heap.size, 0, none⟩ (.int .i64 0)).setCell ⟨w.heap.size, 1, none⟩ (.int .i64 0)).setCell ⟨w.heap.size, 2, none⟩ (.int .i64 0)).setCell ⟨w.heap.size, 3, none⟩ (.int .u32 0)).setCell ⟨w.heap.size, 4, none⟩ (.int .u32 0)).setCell ⟨w.heap.size, 5, none⟩ (.slice none 0 0)).setCell ⟨w.heap.size, 6, none⟩ (.slice none 0 0)) := (((((((hz.1.setCell (p := ⟨w.heap.size, 0, none⟩) (Nat.le_refl _) _).setCell (p := ⟨w.heap.size, 1, none⟩) (Nat.le_refl _) _).setCell (p := ⟨w.heap.size, 2, none⟩) (Nat.le_refl _) _).setCell (p := ⟨w.heap.size, 3, none⟩) (Nat.le_refl _) _).setCell (p := ⟨w.heap.size, 4, none⟩) (Nat.le_refl _) _).setCell (p := ⟨w.heap.size, 5, none⟩) (Nat.le_refl _) _).setCell (p := ⟨w.heap.size, 6, none⟩) (Nat.le_refl _) _)
    have HB : Hid (Below w.heap.size w (((((((w1.setCell ⟨w.heap.size, 0, none⟩ (.int .i64 0)).setCell ⟨w.heap.size, 1, none⟩ (.int .i64 0)).setCell ⟨w.heap.size, 2, none⟩ (.int .i64 0)).setCell ⟨w.heap.size, 3, none⟩ (.int .u32 0)).setCell ⟨w.heap.size, 4, none⟩ (.int .u32 0)).setCell ⟨w.heap.size, 5, none⟩ (.slice none 0 0)).setCell ⟨w.heap.size, 6, none⟩ (.slice none 0 0))) := hB0
    clear hd0 hb0 hB0 hz
    repeat (first | go_values | go_skip | go_guarded | go_step | go_upon | (simp only [Int.not_lt, Int.not_le] at *; go_simp))
    obtain ⟨t0, t1, t2, t3, t4, t5, t6⟩ := HT.out.1
    obtain ⟨d1, d2, d3, d4, d5, d6, d7, d8⟩ := HD.out
    subst d1 d2 d3 d4 d5 d6 d7 d8
    refine bodyPost_ret (v := .tuple #[MsV 0 0 0 0 0 (.slice none 0 0) (.slice none 0 0), .bool false]) ?_ rfl ⟨.slice none 0 0, .slice none 0 0, rfl, OwnK.nil _ _ _ _, OwnW.nil _ _, HB.out⟩
    simp only [results]
    simp only [Try.results14]
    simp [go_sem, t0, t1, t2, t3, t4, t5, t6, kz]
  have H3w : Hid (w1.heap[q]? = some (.cells #[.int .i64 K, .int .i64 F, .int .i64 T, .int .u32 V, .int .u32 S, .slice none 0 0, .slice none 0 0] 35 (0, 0)) ∧ Below q Wp w1) := ⟨H3.out.2, H3.out.1⟩
  have hnx : (nx : Int) ≤ 1073741000 := by have := HX.out.2.2.2.1; omega
  clear H3 hnn
  have h5' : (nn : Int) ≤ 500 := by omega
  have h6' : 4 + 8 * (nn : Int) ≤ (nx : Int) := by omega
  clear h5 h6
  go_wp2_with fail
  go_loopg [9] nn (fun gg u wr => ∃ i : Nat, i ≤ nn ∧ gg = nn - i ∧ u = .int .i64 (i : Int) ∧ Hid (∃ vN, wr.heap[q]? = some (.cells #[.int .i64 K, .int .i64 F, .int .i64 T, .int .u32 V, .int .u32 S, vN, .slice none 0 0] 35 (0, 0)) ∧ OwnK .i64 2 wr (q + 1) vN (rdN i (X.drop 2)) ∧ Below q Wp wr))
  case atStart => exact ⟨0, by omega, by omega, rfl, ⟨_, H3w.out.1, OwnK.nil _ _ _ _, H3w.out.2⟩⟩
  case round =>
    obtain ⟨i, hi, hg, rfl, vN, hbq, hOw, hBq⟩ := hrel
    have HI : Hid (wr.heap[q]? = some (.cells #[.int .i64 K, .int .i64 F, .int .i64 T, .int .u32 V, .int .u32 S, vN, .slice none 0 0] 35 (0, 0)) ∧ OwnK .i64 2 wr (q + 1) vN (rdN i (X.drop 2)) ∧ Below q Wp wr) := ⟨hbq, hOw, hBq⟩
    clear hbq hOw hBq
    obtain ⟨pn, jn, cn, rfl⟩ := HI.out.2.1.sl
    obtain ⟨⟨y0, y1, y2, y3, y4, y5, y6⟩, f0, f1, f2, f3, f4, f5, f6⟩ := ms_cells HI.out.1
    have ky := cell_lt y5
    by_cases hin : i < nn
    · have h' : (i : Int) < (nn : Int) := by omega
      have hi8 : 8 * (i : Int) ≤ 4000 := by omega
      obtain ⟨s, es⟩ : ∃ s, 2 + 8 * i = s := ⟨_, rfl⟩
      have hs : 2 + 8 * (i : Int) = (s : Int) := by omega
      obtain ⟨y, ey⟩ : ∃ y, num ((X.drop s).take 8) = y := ⟨_, rfl⟩
      obtain ⟨z, ez⟩ : ∃ z, i64w y = z := ⟨_, rfl⟩
      have hz : IntKind.i64.wrap y = z := by rw [IntKind.wrap_i64]; exact ez
      have HY : Hid (rdN i (X.drop 2) ++ [z] = rdN (i + 1) (X.drop 2)) := by
        show _ = _
        rw [rdN_succ, List.drop_drop, es, ey, ez]
      have CS : Hid (∀ W, Below q Wp W → Calls Try.prog 31 #[.slice pb nx cb, .int .i64 (s : Int), .int .i64 8] W fun e w' => e = .returned (.int .u64 y) ∧ w' = W) := fun W hW => CA.out W hW s 8 (by omega) (by omega) y ey
      clear es ey ez y0 y1 y2 y3 y4 y6 f0 f1 f2 f3 f4 f6
      go_wp2_with fail
      have HQW : q ≤ wr.heap.size := Nat.le_of_lt ky
      refine rel [⟨8, 66, LitN wr.heap.size z⟩] 9 107 (by kernel_rfl) rfl rfl (by kernel_rfl) (by rfl) ?_ ?_
      · intro e he v W W' h hb
        simp only [List.mem_cons, List.not_mem_nil, or_false] at he
        rcases he with rfl
        · exact LitN.up h hb
      apply Exists.intro
      refine ⟨fun x => ?_, ?_, ?_⟩
      · simp only [List.take_succ_cons, List.take_zero]
        refine relQuiet rfl rfl ?_
        apply Exists.intro
        refine ⟨fun F_ hF hf K_ hK => ?_, ?_⟩
        · have hFc := hF.cell
          have hFf := hF.frozen
          go_big_quiet_op
          first | exact hK | (apply Exists.intro; refine ⟨fun _ => ?_, ?_⟩; (· fail); exact hK)
        (try simp only [Act.put, List.setIfInBounds_toArray, List.set_cons_zero, List.set_cons_succ])
        refine relQuiet rfl rfl ?_
        apply Exists.intro
        refine ⟨fun F_ hF hf K_ hK => ?_, ?_⟩
        · have hFc := hF.cell
          have hFf := hF.frozen
          go_big_quiet_op
          first | exact hK | (apply Exists.intro; refine ⟨fun _ => ?_, ?_⟩; (· fail); exact hK)
        (try simp only [Act.put, List.setIfInBounds_toArray, List.set_cons_zero, List.set_cons_succ])
        refine relQuiet rfl rfl ?_
        apply Exists.intro
        refine ⟨fun F_ hF hf K_ hK => ?_, ?_⟩
        · have hFc := hF.cell
          have hFf := hF.frozen
          go_big_quiet_op
          first | exact hK | (apply Exists.intro; refine ⟨fun _ => ?_, ?_⟩; (· fail); exact hK)
        (try simp only [Act.put, List.setIfInBounds_toArray, List.set_cons_zero, List.set_cons_succ])
        refine relQuiet rfl rfl ?_
        apply Exists.intro
        refine ⟨fun F_ hF hf K_ hK => ?_, ?_⟩
        · have hFc := hF.cell
          have hFf := hF.frozen
          go_big_quiet_op
          first | exact hK | (apply Exists.intro; refine ⟨fun _ => ?_, ?_⟩; (· fail); exact hK)
        (try simp only [Act.put, List.setIfInBounds_toArray, List.set_cons_zero, List.set_cons_succ])
        refine relQuiet rfl rfl ?_
        apply Exists.intro
        refine ⟨fun F_ hF hf K_ hK => ?_, ?_⟩
        · have hFc := hF.cell
          have hFf := hF.frozen
          go_big_quiet_op
          first | exact hK | (apply Exists.intro; refine ⟨fun _ => ?_, ?_⟩; (· fail); exact hK)
        (try simp only [Act.put, List.setIfInBounds_toArray, List.set_cons_zero, List.set_cons_succ])
        refine relQuiet rfl rfl ?_
        apply Exists.intro
        refine ⟨fun F_ hF hf K_ hK => ?_, ?_⟩
        · have hFc := hF.cell
          have hFf := hF.frozen
          go_big_quiet_op
          first | exact hK | (apply Exists.intro; refine ⟨fun _ => ?_, ?_⟩; (· fail); exact hK)
        (try simp only [Act.put, List.setIfInBounds_toArray, List.set_cons_zero, List.set_cons_succ])
        refine relQuiet rfl rfl ?_
        apply Exists.intro
        refine ⟨fun F_ hF hf K_ hK => ?_, ?_⟩
        · have hFc := hF.cell
          have hFf := hF.frozen
          go_big_quiet_op
          first | exact hK | (apply Exists.intro; refine ⟨fun _ => ?_, ?_⟩; (· exact hF.same (CS.out _ (HI.out.2.2.trans ((hF.below _).mono HQW)))); exact hK)
        (try simp only [Act.put, List.setIfInBounds_toArray, List.set_cons_zero, List.set_cons_succ])
        refine relQuiet rfl rfl ?_
        apply Exists.intro
        refine ⟨fun F_ hF hf K_ hK => ?_, ?_⟩
        · have hFc := hF.cell
          have hFf := hF.frozen
          go_big_quiet_op
          first | exact hK | (apply Exists.intro; refine ⟨fun _ => ?_, ?_⟩; (· fail); exact hK)
        (try simp only [Act.put, List.setIfInBounds_toArray, List.set_cons_zero, List.set_cons_succ])
        refine relTold rfl rfl ?_ ?_
        · intro F_ hF hf d
          have hFc := hF.cell
          have hFf := hF.frozen
          simp [yieldsR, yieldsUpon, go_sem]
          exact ⟨⟨(F_ d).heap.size, rfl, by show ((F_ d).heap.push _)[(F_ d).heap.size]? = _; simp, (hF.below d).size⟩, up_alloc _ _⟩
        (try simp only [Act.put, List.setIfInBounds_toArray, List.set_cons_zero, List.set_cons_succ])
        refine relEnd ?_
        exact rfl
      · intro x
        simp only [putsK, List.foldl_cons, List.foldl_nil, Act.put, List.setIfInBounds_toArray, List.set_cons_zero, List.set_cons_succ]
      · intro W4 xs hB4 hf
        simp only [List.drop_succ_cons, List.drop_zero]
        have h8 := hf _ List.mem_cons_self
        obtain ⟨x8, ex8⟩ : ∃ q, xs 8 = q := ⟨_, rfl⟩
        simp only [ex8] at h8
        simp only [ex8]
        have H4 : Hid (W4.heap[q]? = some (.cells #[.int .i64 K, .int .i64 F, .int .i64 T, .int .u32 V, .int .u32 S, .slice pn jn cn, .slice none 0 0] 35 (0, 0)) ∧ OwnK .i64 2 W4 (q + 1) (.slice pn jn cn) (rdN i (X.drop 2)) ∧ Below q Wp W4 ∧ Nums .i64 W4 x8 [z]) := ⟨(hB4.block _ (heap_in8 HI.out.1)).trans HI.out.1, HI.out.2.1.up hB4, HI.out.2.2.trans (hB4.mono HQW), h8.nums⟩
        have hl4 : (rdN i (X.drop 2)).length + [z].length ≤ 1073741824 := by rw [rdN_len]; simp; omega
        have hq4 : q + 1 ≤ W4.heap.size := heap_in8 H4.out.1
        clear hf h8 hB4 ex8 y5 f5 ky
        refine wpList_appendK numI64 (by decide) rfl (.tmp 59) (.tmp 66) rfl (q + 1) _ _ rfl H4.out.2.1 _ [z] rfl H4.out.2.2.2 hl4 hq4 W4 (Below.refl _ _) ?_
        intro v5 W5 HO5 B5
        obtain ⟨p5, j5, c5, rfl⟩ := HO5.out.sl
        have hq5 := (B5.block q (Nat.lt_succ_self q)).trans H4.out.1
        have HB5 := hid2 (And.intro hq5 B5) True.intro
        obtain ⟨⟨_, _, _, _, _, y5, _⟩, _, _, _, _, _, f5, _⟩ := ms_cells hq5
        have ky := cell_lt y5
        clear B5 hq5
        go_wp2_with fail
        have HI5 : Hid (∃ vN, (W5.setCell ⟨q, 5, none⟩ (.slice p5 j5 c5)).heap[q]? = some (.cells #[.int .i64 K, .int .i64 F, .int .i64 T, .int .u32 V, .int .u32 S, vN, .slice none 0 0] 35 (0, 0)) ∧ OwnK .i64 2 (W5.setCell ⟨q, 5, none⟩ (.slice p5 j5 c5)) (q + 1) vN (rdN (i + 1) (X.drop 2)) ∧ Below q Wp (W5.setCell ⟨q, 5, none⟩ (.slice p5 j5 c5))) := by
          have ho := HO5.out
          rw [HY.out] at ho
          exact ⟨_, ms_set5 _ HB5.out.1.1, OwnK.stay ho ((Stay.refl _ _).set _ _) (ho.off (Nat.lt_succ_self q)), (H4.out.2.2.1.trans (HB5.out.1.2.mono (Nat.le_succ q))).setCell (p := ⟨q, 5, none⟩) (Nat.le_refl _) _⟩
        clear HO5 HB5 H4 y5 f5 ky hl4 hq4
        go_roundg (nn - (i + 1))
        case measure => omega
        case rel => exact ⟨i + 1, by omega, rfl, by first | rfl | simp, HI5.out⟩
    · have hin2 : nn = i := by omega
      subst hin2
      have HN1 : Hid (OwnK .i64 2 wr (q + 1) (.slice pn jn cn) (rdN nn (X.drop 2)) ∧ wr.heap[q]? = some (.cells #[.int .i64 K, .int .i64 F, .int .i64 T, .int .u32 V, .int .u32 S, .slice pn jn cn, .slice none 0 0] 35 (0, 0)) ∧ Below q Wp wr) := ⟨HI.out.2.1, HI.out.1, HI.out.2.2⟩
      obtain ⟨s2, es⟩ : ∃ s, 2 + 8 * nn = s := ⟨_, rfl⟩
      have hs2 : 2 + 8 * (nn : Int) = (s2 : Int) := by omega
      have hs3 : (s2 : Int) ≤ 4002 := by omega
      obtain ⟨mm, em⟩ : ∃ x, nW X = x := ⟨_, rfl⟩
      have hnum : num ((X.drop s2).take 2) = (mm : Int) ∧ mm < 65536 := by
        have := num_top 2 ((HX.out.2.2.1.drop s2).take 2) (by rw [List.length_take, List.length_drop, HX.out.2.1]; omega)
        rw [← em]
        unfold nW
        rw [HXn.out, es]
        omega
      have c0 := CA.out wr HI.out.2.2 s2 2 (by omega) (by omega) _ hnum.1
      rw [show ((2 : Nat) : Int) = 2 from rfl] at c0
      have hmm : (mm : Int) < 65536 := by omega
      have HXm : Hid (nW X = mm ∧ 2 + 8 * nn = s2) := ⟨em, es⟩
      clear es em hnum HI y0 y1 y2 y3 y4 y5 y6 f0 f1 f2 f3 f4 f5 f6 ky hin h6'
      go_wp2_with fail
      refine c0.mono ?_
      rintro e w2 ⟨rfl, rfl⟩
      clear c0
      by_cases h5 : (500 : Int) < (mm : Int)
      case pos =>
        have HG : Hid (¬ getP l) := fun h => by have := h.2.2.2.2.1; rw [HX.out.1, HXm.out.1] at this; omega
        have hz := BX.out w2 HN1.out.2.2
        clear HN HK HX CA BX
        have hd0 : ¬ getP l := HG.out
        have HD : Hid (A1 = 0 ∧ A2 = 0 ∧ A3 = 0 ∧ A4 = 0 ∧ A5 = 0 ∧ A6 = [] ∧ A7 = [] ∧ r = false) := by
          obtain ⟨a1, a2, a3, a4, a5, a6, a7⟩ := HA.out
          exact ⟨a1.symm.trans (if_neg hd0), a2.symm.trans (if_neg hd0), a3.symm.trans (if_neg hd0), a4.symm.trans (if_neg hd0), a5.symm.trans (if_neg hd0), a6.symm.trans (if_neg hd0), a7.symm.trans (if_neg hd0), HR.out.symm.trans (decide_eq_false hd0)⟩
        have hb0 := hz.2
        obtain ⟨⟨z0, z1, z2, z3, z4, z5, z6⟩, e0, e1, e2, e3, e4, e5, e6⟩ := ms_cells hb0
        have kz := cell_lt z0
        have HT := ms_put (.int .i64 0) (.int .i64 0) (.int .i64 0) (.int .u32 0) (.int .u32 0) (.slice none 0 0) (.slice none 0 0) hb0
        have HT := hid2 HT HT
        have hB0 : Below w.heap.size w (((((((w2.setCell ⟨w.heap.size, 0, none⟩ (.int .i64 0)).setCell ⟨w.heap.size, 1, none⟩ (.int .i64 0)).setCell ⟨w.heap.size, 2, none⟩ (.int .i64 0)).setCell ⟨w.heap.size, 3, none⟩ (.int .u32 0)).setCell ⟨w.heap.size, 4, none⟩ (.int .u32 0)).setCell ⟨w.heap.size, 5, none⟩ (.slice none 0 0)).setCell ⟨w.heap.size, 6, none⟩ (.slice none 0 0)) := (((((((hz.1.setCell (p := ⟨w.heap.size, 0, none⟩) (Nat.le_refl _) _).setCell (p := ⟨w.heap.size, 1, none⟩) (Nat.le_refl _) _).setCell (p := ⟨w.heap.size, 2, none⟩) (Nat.le_refl _) _).setCell (p := ⟨w.heap.size, 3, none⟩) (Nat.le_refl _) _).setCell (p := ⟨w.heap.size, 4, none⟩) (Nat.le_refl _) _).setCell (p := ⟨w.heap.size, 5, none⟩) (Nat.le_refl _) _).setCell (p := ⟨w.heap.size, 6, none⟩) (Nat.le_refl _) _)
        have HB : Hid (Below w.heap.size w (((((((w2.setCell ⟨w.heap.size, 0, none⟩ (.int .i64 0)).setCell ⟨w.heap.size, 1, none⟩ (.int .i64 0)).setCell ⟨w.heap.size, 2, none⟩ (.int .i64 0)).setCell ⟨w.heap.size, 3, none⟩ (.int .u32 0)).setCell ⟨w.heap.size, 4, none⟩ (.int .u32 0)).setCell ⟨w.heap.size, 5, none⟩ (.slice none 0 0)).setCell ⟨w.heap.size, 6, none⟩ (.slice none 0 0))) := hB0
        clear hd0 hb0 hB0 hz
        repeat (first | go_values | go_skip | go_guarded | go_step | go_upon | (simp only [Int.not_lt, Int.not_le] at *; go_simp))
        obtain ⟨t0, t1, t2, t3, t4, t5, t6⟩ := HT.out.1
        obtain ⟨d1, d2, d3, d4, d5, d6, d7, d8⟩ := HD.out
        subst d1 d2 d3 d4 d5 d6 d7 d8
        refine bodyPost_ret (v := .tuple #[MsV 0 0 0 0 0 (.slice none 0 0) (.slice none 0 0), .bool false]) ?_ rfl ⟨.slice none 0 0, .slice none 0 0, rfl, OwnK.nil _ _ _ _, OwnW.nil _ _, HB.out⟩
        simp only [results]
        simp only [Try.results14]
        simp [go_sem, t0, t1, t2, t3, t4, t5, t6, kz]
      have h5' : (mm : Int) ≤ 500 := by omega
      clear h5 hmm
      obtain ⟨u, eu⟩ : ∃ u, s2 + 2 + 16 * mm = u := ⟨_, rfl⟩
      have hu : (s2 : Int) + 2 + 16 * (mm : Int) = (u : Int) := by omega
      have hu2 : (u : Int) ≤ 12004 := by omega
      by_cases h6 : nx = u
      case neg =>
        have HG : Hid (¬ getP l) := fun h => by have := h.2.2.2.2.2; rw [HX.out.1, HXm.out.1, HXn.out, HX.out.2.1] at this; have := HXm.out.2; omega
        have hz := BX.out w2 HN1.out.2.2
        have h6' : ((nx : Int) != (u : Int)) = true := by simp; omega
        have h6n : ¬ (nx : Int) = (u : Int) := by omega
        clear HN HK HX CA BX h6 eu
        have hd0 : ¬ getP l := HG.out
        have HD : Hid (A1 = 0 ∧ A2 = 0 ∧ A3 = 0 ∧ A4 = 0 ∧ A5 = 0 ∧ A6 = [] ∧ A7 = [] ∧ r = false) := by
          obtain ⟨a1, a2, a3, a4, a5, a6, a7⟩ := HA.out
          exact ⟨a1.symm.trans (if_neg hd0), a2.symm.trans (if_neg hd0), a3.symm.trans (if_neg hd0), a4.symm.trans (if_neg hd0), a5.symm.trans (if_neg hd0), a6.symm.trans (if_neg hd0), a7.symm.trans (if_neg hd0), HR.out.symm.trans (decide_eq_false hd0)⟩
        have hb0 := hz.2
        obtain ⟨⟨z0, z1, z2, z3, z4, z5, z6⟩, e0, e1, e2, e3, e4, e5, e6⟩ := ms_cells hb0
        have kz := cell_lt z0
        have HT := ms_put (.int .i64 0) (.int .i64 0) (.int .i64 0) (.int .u32 0) (.int .u32 0) (.slice none 0 0) (.slice none 0 0) hb0
        have HT := hid2 HT HT
        have hB0 : Below w.heap.size w (((((((w2.setCell ⟨w.heap.size, 0, none⟩ (.int .i64 0)).setCell ⟨w.heap.size, 1, none⟩ (.int .i64 0)).setCell ⟨w.heap.size, 2, none⟩ (.int .i64 0)).setCell ⟨w.heap.size, 3, none⟩ (.int .u32 0)).setCell ⟨w.heap.size, 4, none⟩ (.int .u32 0)).setCell ⟨w.heap.size, 5, none⟩ (.slice none 0 0)).setCell ⟨w.heap.size, 6, none⟩ (.slice none 0 0)) := (((((((hz.1.setCell (p := ⟨w.heap.size, 0, none⟩) (Nat.le_refl _) _).setCell (p := ⟨w.heap.size, 1, none⟩) (Nat.le_refl _) _).setCell (p := ⟨w.heap.size, 2, none⟩) (Nat.le_refl _) _).setCell (p := ⟨w.heap.size, 3, none⟩) (Nat.le_refl _) _).setCell (p := ⟨w.heap.size, 4, none⟩) (Nat.le_refl _) _).setCell (p := ⟨w.heap.size, 5, none⟩) (Nat.le_refl _) _).setCell (p := ⟨w.heap.size, 6, none⟩) (Nat.le_refl _) _)
        have HB : Hid (Below w.heap.size w (((((((w2.setCell ⟨w.heap.size, 0, none⟩ (.int .i64 0)).setCell ⟨w.heap.size, 1, none⟩ (.int .i64 0)).setCell ⟨w.heap.size, 2, none⟩ (.int .i64 0)).setCell ⟨w.heap.size, 3, none⟩ (.int .u32 0)).setCell ⟨w.heap.size, 4, none⟩ (.int .u32 0)).setCell ⟨w.heap.size, 5, none⟩ (.slice none 0 0)).setCell ⟨w.heap.size, 6, none⟩ (.slice none 0 0))) := hB0
        clear hd0 hb0 hB0 hz
        repeat (first | go_values | go_skip | go_guarded | go_step | go_upon | (simp only [Int.not_lt, Int.not_le] at *; go_simp))
        obtain ⟨t0, t1, t2, t3, t4, t5, t6⟩ := HT.out.1
        obtain ⟨d1, d2, d3, d4, d5, d6, d7, d8⟩ := HD.out
        subst d1 d2 d3 d4 d5 d6 d7 d8
        refine bodyPost_ret (v := .tuple #[MsV 0 0 0 0 0 (.slice none 0 0) (.slice none 0 0), .bool false]) ?_ rfl ⟨.slice none 0 0, .slice none 0 0, rfl, OwnK.nil _ _ _ _, OwnW.nil _ _, HB.out⟩
        simp only [results]
        simp only [Try.results14]
        simp [go_sem, t0, t1, t2, t3, t4, t5, t6, kz]
      subst h6
      go_wp2_with fail
      obtain ⟨B2, eB2⟩ : ∃ b, w2.heap.size = b := ⟨_, rfl⟩
      have HB2 : Hid (w2.heap.size = B2 ∧ q < B2) := ⟨eB2, by rw [← eB2]; exact heap_in8 HN1.out.2.1⟩
      obtain ⟨s4, es4⟩ : ∃ x, 4 + 8 * nn = x := ⟨_, rfl⟩
      have HS4 : Hid (4 + 8 * nn = s4 ∧ s2 + 2 = s4) := ⟨es4, by have := HXm.out.2; omega⟩
      clear eB2 es4
      go_loopg [12] mm (fun gg u wr => ∃ i : Nat, i ≤ mm ∧ gg = mm - i ∧ u = .int .i64 (i : Int) ∧ Hid (∃ vV, wr.heap[q]? = some (.cells #[.int .i64 K, .int .i64 F, .int .i64 T, .int .u32 V, .int .u32 S, .slice pn jn cn, vV] 35 (0, 0)) ∧ OwnW wr B2 vV (rdW i (X.drop s4)) ∧ Below q Wp wr ∧ Stay q w2 wr))
      case atStart => exact ⟨0, by omega, by omega, rfl, ⟨_, HN1.out.2.1, OwnW.nil _ _, HN1.out.2.2, Stay.refl _ _⟩⟩
      case round =>
        obtain ⟨i, hi, hg, rfl, vV, hbq, hOw, hBq, hSt⟩ := hrel
        have HI : Hid (wr.heap[q]? = some (.cells #[.int .i64 K, .int .i64 F, .int .i64 T, .int .u32 V, .int .u32 S, .slice pn jn cn, vV] 35 (0, 0)) ∧ OwnW wr B2 vV (rdW i (X.drop s4)) ∧ Below q Wp wr ∧ Stay q w2 wr) := ⟨hbq, hOw, hBq, hSt⟩
        clear hbq hOw hBq hSt
        obtain ⟨pv, jv, cv, rfl⟩ := HI.out.2.1.sl
        obtain ⟨⟨y0, y1, y2, y3, y4, y5, y6⟩, f0, f1, f2, f3, f4, f5, f6⟩ := ms_cells HI.out.1
        have ky := cell_lt y5
        by_cases hin : i < mm
        · have h' : (i : Int) < (mm : Int) := by omega
          have hi8 : 16 * (i : Int) ≤ 8000 := by omega
          obtain ⟨s, es⟩ : ∃ s, s4 + 16 * i = s := ⟨_, rfl⟩
          have hs : (s2 : Int) + 2 + 16 * (i : Int) = (s : Int) := by have := HS4.out.2; omega
          obtain ⟨hi_, eh⟩ : ∃ y, hiW (X.drop s) = y := ⟨_, rfl⟩
          obtain ⟨lo_, el⟩ : ∃ y, loW (X.drop s) = y := ⟨_, rfl⟩
          have hwr := w_rng (X.drop s) (HX.out.2.2.1.drop s) (by rw [List.length_drop, HX.out.2.1]; have := HS4.out.1; have := HS4.out.2; have := HXm.out.2; omega)
          rw [eh, el] at hwr
          have HY : Hid (rdW i (X.drop s4) ++ [hi_ * 18446744073709551616 + lo_] = rdW (i + 1) (X.drop s4) ∧ InW (hi_ * 18446744073709551616 + lo_) ∧ (hi_ * 18446744073709551616 + lo_) / 18446744073709551616 = hi_ ∧ (hi_ * 18446744073709551616 + lo_) % 18446744073709551616 = lo_) := by
            refine ⟨?_, by unfold InW; omega, by omega, by omega⟩
            rw [rdW_succ, List.drop_drop, es, eh, el]
          have CS : Hid (∀ W, Below q Wp W → Calls Try.prog 32 #[.slice pb nx cb, .int .i64 (s : Int)] W fun e w' => e = .returned (.agg #[.int .i64 hi_, .int .u64 lo_]) ∧ Below W.heap.size W w') := fun W hW => by
            have := wget_any pb cb nx s X HX.out.2.1 (by have := HX.out.2.2.2.1; omega) (by have := HS4.out.1; have := HS4.out.2; have := HXm.out.2; omega) HX.out.2.2.1 W (HP.out.2.2.up (by rw [HQ.out.1]; exact hW))
            rw [eh, el] at this
            exact this
          clear es eh el hwr y0 y1 y2 y3 y4 y5 f0 f1 f2 f3 f4 f5
          go_wp2_with fail
          have HQW : q ≤ wr.heap.size := Nat.le_of_lt ky
          refine rel [⟨8, 102, IsW hi_ lo_⟩, ⟨9, 103, LitWd wr.heap.size hi_ lo_⟩] 10 107 (by kernel_rfl) rfl rfl (by kernel_rfl) (by rfl) ?_ ?_
          · intro e he v W W' h hb
            simp only [List.mem_cons, List.not_mem_nil, or_false] at he
            rcases he with rfl | rfl
            · exact h
            · exact LitWd.up h hb
          apply Exists.intro
          refine ⟨fun x => ?_, ?_, ?_⟩
          · simp only [List.take_succ_cons, List.take_zero]
            refine relQuiet rfl rfl ?_
            apply Exists.intro
            refine ⟨fun F_ hF hf K_ hK => ?_, ?_⟩
            · have hFc := hF.cell
              have hFf := hF.frozen
              go_big_quiet_op
              first | exact hK | (apply Exists.intro; refine ⟨fun _ => ?_, ?_⟩; (· fail); exact hK)
            (try simp only [Act.put, List.setIfInBounds_toArray, List.set_cons_zero, List.set_cons_succ])
            refine relQuiet rfl rfl ?_
            apply Exists.intro
            refine ⟨fun F_ hF hf K_ hK => ?_, ?_⟩
            · have hFc := hF.cell
              have hFf := hF.frozen
              go_big_quiet_op
              first | exact hK | (apply Exists.intro; refine ⟨fun _ => ?_, ?_⟩; (· fail); exact hK)
            (try simp only [Act.put, List.setIfInBounds_toArray, List.set_cons_zero, List.set_cons_succ])
            refine relQuiet rfl rfl ?_
            apply Exists.intro
            refine ⟨fun F_ hF hf K_ hK => ?_, ?_⟩
            · have hFc := hF.cell
              have hFf := hF.frozen
              go_big_quiet_op
              first | exact hK | (apply Exists.intro; refine ⟨fun _ => ?_, ?_⟩; (· fail); exact hK)
            (try simp only [Act.put, List.setIfInBounds_toArray, List.set_cons_zero, List.set_cons_succ])
            refine relQuiet rfl rfl ?_
            apply Exists.intro
            refine ⟨fun F_ hF hf K_ hK => ?_, ?_⟩
            · have hFc := hF.cell
              have hFf := hF.frozen
              go_big_quiet_op
              first | exact hK | (apply Exists.intro; refine ⟨fun _ => ?_, ?_⟩; (· fail); exact hK)
            (try simp only [Act.put, List.setIfInBounds_toArray, List.set_cons_zero, List.set_cons_succ])
            refine relQuiet rfl rfl ?_
            apply Exists.intro
            refine ⟨fun F_ hF hf K_ hK => ?_, ?_⟩
            · have hFc := hF.cell
              have hFf := hF.frozen
              go_big_quiet_op
              first | exact hK | (apply Exists.intro; refine ⟨fun _ => ?_, ?_⟩; (· fail); exact hK)
            (try simp only [Act.put, List.setIfInBounds_toArray, List.set_cons_zero, List.set_cons_succ])
            refine relQuiet rfl rfl ?_
            apply Exists.intro
            refine ⟨fun F_ hF hf K_ hK => ?_, ?_⟩
            · have hFc := hF.cell
              have hFf := hF.frozen
              go_big_quiet_op
              first | exact hK | (apply Exists.intro; refine ⟨fun _ => ?_, ?_⟩; (· fail); exact hK)
            (try simp only [Act.put, List.setIfInBounds_toArray, List.set_cons_zero, List.set_cons_succ])
            refine relQuiet rfl rfl ?_
            apply Exists.intro
            refine ⟨fun F_ hF hf K_ hK => ?_, ?_⟩
            · have hFc := hF.cell
              have hFf := hF.frozen
              go_big_quiet_op
              first | exact hK | (apply Exists.intro; refine ⟨fun _ => ?_, ?_⟩; (· fail); exact hK)
            (try simp only [Act.put, List.setIfInBounds_toArray, List.set_cons_zero, List.set_cons_succ])
            refine relQuiet rfl rfl ?_
            apply Exists.intro
            refine ⟨fun F_ hF hf K_ hK => ?_, ?_⟩
            · have hFc := hF.cell
              have hFf := hF.frozen
              go_big_quiet_op
              first | exact hK | (apply Exists.intro; refine ⟨fun _ => ?_, ?_⟩; (· fail); exact hK)
            (try simp only [Act.put, List.setIfInBounds_toArray, List.set_cons_zero, List.set_cons_succ])
            refine relTold rfl rfl ?_ ?_
            · intro F_ hF hf d
              have hFc := hF.cell
              have hFf := hF.frozen
              simp [yieldsR, yieldsUpon, go_sem]
              refine (CS.out _ (HI.out.2.2.1.trans ((hF.below d).mono HQW))).mono ?_
              rintro e' w8 ⟨rfl, hb8⟩
              exact ⟨_, rfl, rfl, hb8⟩
            (try simp only [Act.put, List.setIfInBounds_toArray, List.set_cons_zero, List.set_cons_succ])
            refine relTold rfl rfl ?_ ?_
            · intro F_ hF hf d
              have hFc := hF.cell
              have hFf := hF.frozen
              have e9 := hf _ List.mem_cons_self (by rfl) d
              unfold IsW at e9
              simp only [] at e9
              simp [yieldsR, yieldsUpon, go_sem, e9]
              exact ⟨⟨(F_ d).heap.size, rfl, by show ((F_ d).heap.push _)[(F_ d).heap.size]? = _; simp, (hF.below d).size⟩, up_alloc _ _⟩
            (try simp only [Act.put, List.setIfInBounds_toArray, List.set_cons_zero, List.set_cons_succ])
            refine relEnd ?_
            exact rfl
          · intro x
            simp only [putsK, List.foldl_cons, List.foldl_nil, Act.put, List.setIfInBounds_toArray, List.set_cons_zero, List.set_cons_succ]
          · intro W4 xs hB4 hf
            simp only [List.drop_succ_cons, List.drop_zero]
            obtain ⟨gx, ex9, hgx, _⟩ := hf _ (List.mem_cons_of_mem _ List.mem_cons_self)
            obtain ⟨x8, ex8⟩ : ∃ q, xs 8 = q := ⟨_, rfl⟩
            simp only [] at ex9
            simp only [ex8, ex9]
            have H4 : Hid (W4.heap[q]? = some (.cells #[.int .i64 K, .int .i64 F, .int .i64 T, .int .u32 V, .int .u32 S, .slice pn jn cn, .slice pv jv cv] 35 (0, 0)) ∧ OwnW W4 B2 (.slice pv jv cv) (rdW i (X.drop s4)) ∧ Below q Wp W4 ∧ Stay q w2 W4 ∧ W4.heap[gx]? = some (.cells #[.int .i64 hi_, .int .u64 lo_] 47 (0, 0))) := ⟨(hB4.block _ (heap_in8 HI.out.1)).trans HI.out.1, HI.out.2.1.up hB4, HI.out.2.2.1.trans (hB4.mono HQW), HI.out.2.2.2.up hB4, hgx⟩
            have hl4 : (rdW i (X.drop s4)).length ≤ 1000 := by rw [rdW_len]; omega
            have hq4 : B2 ≤ W4.heap.size := by rw [← HB2.out.1]; exact H4.out.2.2.2.1.size
            clear hf hgx hB4 ex8 ex9 y6 f6 ky
            refine wpList_appW1 rfl (.tmp 95) (.tmp 103) rfl B2 _ _ rfl H4.out.2.1 gx (hi_ * 18446744073709551616 + lo_) hi_ lo_ 1 rfl HY.out.2.1 HY.out.2.2.1 HY.out.2.2.2 H4.out.2.2.2.2 hl4 hq4 W4 (Below.refl _ _) ?_
            intro v5 W5 HO5 B5
            obtain ⟨p5, j5, c5, rfl⟩ := HO5.out.sl
            have hq5 := (B5.block q HB2.out.2).trans H4.out.1
            have HB5 := hid2 (And.intro hq5 B5) True.intro
            obtain ⟨⟨_, _, _, _, _, _, y6⟩, _, _, _, _, _, _, f6⟩ := ms_cells hq5
            have ky := cell_lt y6
            clear B5 hq5
            go_wp2_with fail
            have HI5 : Hid (∃ vV, (W5.setCell ⟨q, 6, none⟩ (.slice p5 j5 c5)).heap[q]? = some (.cells #[.int .i64 K, .int .i64 F, .int .i64 T, .int .u32 V, .int .u32 S, .slice pn jn cn, vV] 35 (0, 0)) ∧ OwnW (W5.setCell ⟨q, 6, none⟩ (.slice p5 j5 c5)) B2 vV (rdW (i + 1) (X.drop s4)) ∧ Below q Wp (W5.setCell ⟨q, 6, none⟩ (.slice p5 j5 c5)) ∧ Stay q w2 (W5.setCell ⟨q, 6, none⟩ (.slice p5 j5 c5))) := by
              have ho := HO5.out
              rw [HY.out.1] at ho
              refine ⟨_, ms_set6 _ HB5.out.1.1, ho.stay ((Stay.refl _ _).set _ _) HB2.out.2, (H4.out.2.2.1.trans (HB5.out.1.2.mono (Nat.le_of_lt HB2.out.2))).setCell (p := ⟨q, 6, none⟩) (Nat.le_refl _) _, ?_⟩
              have h1 := H4.out.2.2.2.1
              have h2 : Below w2.heap.size W4 W5 := by rw [HB2.out.1]; exact HB5.out.1.2
              exact (Stay.mk (Nat.le_trans h1.size h2.size) fun b hb hk => (h2.block b hk).trans (h1.block b hb hk) : Stay q w2 W5).set _ _
            clear HO5 HB5 H4 y6 f6 ky hl4 hq4
            go_roundg (mm - (i + 1))
            case measure => omega
            case rel => exact ⟨i + 1, by omega, rfl, by first | rfl | simp, HI5.out⟩
        · have hin2 : mm = i := by omega
          subst hin2
          have hG : getP l := ⟨HX.out.2.2.2.2, by
            unfold getB
            rw [HX.out.1, HXn.out, HXm.out.1, HX.out.2.1]
            have := HXm.out.2
            omega⟩
          have HD : Hid (A1 = K ∧ A2 = F ∧ A3 = T ∧ A4 = V ∧ A5 = S ∧ A6 = rdN nn (X.drop 2) ∧ A7 = rdW mm (X.drop s4) ∧ r = true) := by
            obtain ⟨a1, a2, a3, a4, a5, a6, a7⟩ := HA.out
            obtain ⟨k1, k2, k3, k4, k5⟩ := HK.out
            refine ⟨a1.symm.trans ((if_pos hG).trans ((if_pos hG.1).symm.trans k1)), a2.symm.trans ((if_pos hG).trans ((if_pos hG.1).symm.trans k2)), a3.symm.trans ((if_pos hG).trans ((if_pos hG.1).symm.trans k3)), a4.symm.trans ((if_pos hG).trans ((if_pos hG.1).symm.trans k4)), a5.symm.trans ((if_pos hG).trans ((if_pos hG.1).symm.trans k5)), ?_, ?_, HR.out.symm.trans (decide_eq_true hG)⟩
            · rw [← a6]
              unfold qN
              rw [if_pos hG, HX.out.1]
              unfold parN
              rw [HXn.out]
            · rw [← a7]
              unfold qW
              rw [if_pos hG, HX.out.1]
              unfold parW
              rw [HXn.out, HXm.out.1, HS4.out.1]
          have hb0 := (BX.out wr HI.out.2.2.1).2
          obtain ⟨⟨z0, z1, z2, z3, z4, z5, z6⟩, e0, e1, e2, e3, e4, e5, e6⟩ := ms_cells hb0
          have kz := cell_lt z0
          have HT := ms_put (.int .i64 K) (.int .i64 F) (.int .i64 T) (.int .u32 V) (.int .u32 S) (.slice pn jn cn) (.slice pv jv cv) hb0
          have HT := hid2 HT HT
          have hB0 : Below w.heap.size w (((((((wr.setCell ⟨w.heap.size, 0, none⟩ (.int .i64 K)).setCell ⟨w.heap.size, 1, none⟩ (.int .i64 F)).setCell ⟨w.heap.size, 2, none⟩ (.int .i64 T)).setCell ⟨w.heap.size, 3, none⟩ (.int .u32 V)).setCell ⟨w.heap.size, 4, none⟩ (.int .u32 S)).setCell ⟨w.heap.size, 5, none⟩ (.slice pn jn cn)).setCell ⟨w.heap.size, 6, none⟩ (.slice pv jv cv)) := ((((((((BX.out wr HI.out.2.2.1).1.setCell (p := ⟨w.heap.size, 0, none⟩) (Nat.le_refl _) _).setCell (p := ⟨w.heap.size, 1, none⟩) (Nat.le_refl _) _).setCell (p := ⟨w.heap.size, 2, none⟩) (Nat.le_refl _) _).setCell (p := ⟨w.heap.size, 3, none⟩) (Nat.le_refl _) _).setCell (p := ⟨w.heap.size, 4, none⟩) (Nat.le_refl _) _).setCell (p := ⟨w.heap.size, 5, none⟩) (Nat.le_refl _) _).setCell (p := ⟨w.heap.size, 6, none⟩) (Nat.le_refl _) _)
          have hST : Stay w.heap.size wr (((((((wr.setCell ⟨w.heap.size, 0, none⟩ (.int .i64 K)).setCell ⟨w.heap.size, 1, none⟩ (.int .i64 F)).setCell ⟨w.heap.size, 2, none⟩ (.int .i64 T)).setCell ⟨w.heap.size, 3, none⟩ (.int .u32 V)).setCell ⟨w.heap.size, 4, none⟩ (.int .u32 S)).setCell ⟨w.heap.size, 5, none⟩ (.slice pn jn cn)).setCell ⟨w.heap.size, 6, none⟩ (.slice pv jv cv)) := (((((((Stay.refl _ _).set _ _).set _ _).set _ _).set _ _).set _ _).set _ _).set _ _
          have HB : Hid (OwnK .i64 2 (((((((wr.setCell ⟨w.heap.size, 0, none⟩ (.int .i64 K)).setCell ⟨w.heap.size, 1, none⟩ (.int .i64 F)).setCell ⟨w.heap.size, 2, none⟩ (.int .i64 T)).setCell ⟨w.heap.size, 3, none⟩ (.int .u32 V)).setCell ⟨w.heap.size, 4, none⟩ (.int .u32 S)).setCell ⟨w.heap.size, 5, none⟩ (.slice pn jn cn)).setCell ⟨w.heap.size, 6, none⟩ (.slice pv jv cv)) w.heap.size (.slice pn jn cn) (rdN nn (X.drop 2)) ∧ OwnW (((((((wr.setCell ⟨w.heap.size, 0, none⟩ (.int .i64 K)).setCell ⟨w.heap.size, 1, none⟩ (.int .i64 F)).setCell ⟨w.heap.size, 2, none⟩ (.int .i64 T)).setCell ⟨w.heap.size, 3, none⟩ (.int .u32 V)).setCell ⟨w.heap.size, 4, none⟩ (.int .u32 S)).setCell ⟨w.heap.size, 5, none⟩ (.slice pn jn cn)).setCell ⟨w.heap.size, 6, none⟩ (.slice pv jv cv)) w.heap.size (.slice pv jv cv) (rdW mm (X.drop s4)) ∧ Below w.heap.size w (((((((wr.setCell ⟨w.heap.size, 0, none⟩ (.int .i64 K)).setCell ⟨w.heap.size, 1, none⟩ (.int .i64 F)).setCell ⟨w.heap.size, 2, none⟩ (.int .i64 T)).setCell ⟨w.heap.size, 3, none⟩ (.int .u32 V)).setCell ⟨w.heap.size, 4, none⟩ (.int .u32 S)).setCell ⟨w.heap.size, 5, none⟩ (.slice pn jn cn)).setCell ⟨w.heap.size, 6, none⟩ (.slice pv jv cv))) := by
            have hq := HQ.out.2
            have hq2 := HB2.out.2
            have o1 : OwnK .i64 2 wr (q + 1) (.slice pn jn cn) (rdN nn (X.drop 2)) := OwnK.stay HN1.out.1 HI.out.2.2.2 (HN1.out.1.off (Nat.lt_succ_self q))
            exact ⟨(OwnK.stay o1 hST (o1.off (by omega))).low (by omega), (HI.out.2.1.stay hST (by omega)).low (by omega), hB0⟩
          clear hb0 hB0 hST HX HXn HXm HN HK CA BX HP HN1 HI HA HR HS4 HB2 H3w
          repeat (first | go_values | go_skip | go_guarded | go_step | go_upon | (simp only [Int.not_lt, Int.not_le] at *; go_simp))
          obtain ⟨t0, t1, t2, t3, t4, t5, t6⟩ := HT.out.1
          obtain ⟨d1, d2, d3, d4, d5, d6, d7, d8⟩ := HD.out
          refine bodyPost_ret (v := .tuple #[MsV K F T V S (.slice pn jn cn) (.slice pv jv cv), .bool true]) ?_ rfl ⟨.slice pn jn cn, .slice pv jv cv, by rw [d1, d2, d3, d4, d5, d8], by rw [d6]; exact HB.out.1, by rw [d7]; exact HB.out.2.1, HB.out.2.2⟩
          simp only [results]
          simp only [Try.results14]
          simp [go_sem, t0, t1, t2, t3, t4, t5, t6, kz]
end Go.Proofs.Ythmpfdkbpdbhnaa.Wd
