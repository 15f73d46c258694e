/- TensKnown: what chapter 6 says of a few. -/
import Derived.Test.YtbndiadgnglkhaaTenM
import Derived.Test.YtbndiadgnglkhaaTenT
import Derived.Test.YtbndiadgnglkhaaRelE
namespace Go.Proofs.Ytbndiadgnglkhaa.Wd
open Go.RowKit
set_option linter.unusedVariables false
set_option linter.unusedSimpArgs false
/-- A cell for a tensor, newly made. -/
def NewC (B : Nat) (v : Value) (W : World) : Prop := ∃ b, v = .pointer (some ⟨b, 0, none⟩) ∧ W.heap[b]? = some (.cells #[.slice none 0 0, .slice none 0 0] 27 (0, 0)) ∧ B ≤ b
theorem heap_lt {W : World} {b : Nat} {o : Obj} (h : W.heap[b]? = some o) : b < W.heap.size := by
  rcases Nat.lt_or_ge b W.heap.size with h' | h'
  · exact h'
  · rw [Array.getElem?_eq_none h'] at h; cases h
theorem NewC.up {B : Nat} {v : Value} {W W' : World} (h : NewC B v W) (hB : Below W.heap.size W W') : NewC B v W' := by
  obtain ⟨b, e, h1, h2⟩ := h
  exact ⟨b, e, by rw [hB.block b (heap_lt h1)]; exact h1, h2⟩
theorem new_cel {W : World} {b : Nat} {s t : Value} {e : TypeId} (h : W.heap[b]? = some (.cells #[s, t] e (0, 0))) : Cel W b s t := by
  refine ⟨?_, ?_, ?_, ?_⟩
  · unfold World.cell?; simp [h]
  · unfold World.cell?; simp [h]
  · unfold World.frozen?; simp [h]
  · unfold World.frozen?; simp [h]
theorem OwnK.off_type {k : IntKind} {e e' : TypeId} {W : World} {B b : Nat} {v : Value} {l : List Int} {cs : Array Value} {fz : Nat × Nat} (h : OwnK k e W B v l) (hb : W.heap[b]? = some (.cells cs e' fz)) (hne : e ≠ e') : Off b v := by
  intro ad n c ev
  rcases h.2 with ⟨h1, _⟩ | ⟨q, cap, cur, h1, h2, h3, _⟩
  · rw [h1] at ev; cases ev
  · rw [h1] at ev
    cases ev
    intro hq
    have hq : q = b := hq
    subst hq
    rw [h3] at hb
    injection hb with hb
    injection hb with _ h5 _
    exact hne h5
/-- A tensor's copy. -/
def OwnT (B : Nat) (D X : List Int) (v : Value) (W : World) : Prop := ∃ p n c p2 n2 c2, v = .agg #[.slice p n c, .slice p2 n2 c2] ∧ OwnK .i64 3 W B (.slice p n c) D ∧ OwnK .i64 24 W B (.slice p2 n2 c2) X
theorem OwnT.up {B : Nat} {D X : List Int} {v : Value} {W W' : World} (h : OwnT B D X v W) (hB : Below W.heap.size W W') : OwnT B D X v W' := by
  obtain ⟨p, n, c, p2, n2, c2, e, h1, h2⟩ := h
  exact ⟨p, n, c, p2, n2, c2, e, h1.up hB, h2.up hB⟩
/-- A literal's row. -/
def LitN (l : List Int) (v : Value) (W : World) : Prop := ∃ g, v = .slice (some ⟨g, 0, none⟩) l.length l.length ∧ Nums .i64 W v l
theorem LitN.up {l : List Int} {v : Value} {W W' : World} (h : LitN l v W) (hB : Below W.heap.size W W') : LitN l v W' := by
  obtain ⟨g, e, h1⟩ := h
  exact ⟨g, e, h1.up hB⟩
def RowP (l : List Int) (v : Value) (W : World) : Prop := Tn [(l.length : Int)] l v W
/-- A tensor's two literals. -/
def TupP (B : Nat) (D X : List Int) (E : Int) (v : Value) (W : World) : Prop := ∃ u, v = .tuple #[u, .int .i64 E] ∧ OwnT B D X u W
theorem TupP.up {B : Nat} {D X : List Int} {E : Int} {v : Value} {W W' : World} (h : TupP B D X E v W) (hB : Below W.heap.size W W') : TupP B D X E v W' := by
  obtain ⟨u, e, h1⟩ := h
  exact ⟨u, e, h1.up hB⟩
theorem tn_nums {D X : List Int} {p p2 : Option Addr} {n c n2 c2 : Nat} {W : World} (h : Tn D X (.agg #[.slice p n c, .slice p2 n2 c2]) W) : Nums .i64 W (.slice p n c) D ∧ Nums .i64 W (.slice p2 n2 c2) X := by
  obtain ⟨p', n', c', p2', n2', c2', e, h1, h2⟩ := h
  cases e
  exact ⟨h1, h2⟩
theorem TRes.own {W : World} {B : Nat} {v : Value} {D X : List Int} (h : TRes W B v D X) : OwnT B D X v W := by
  obtain ⟨s, t, rfl, h1, h2⟩ := h
  obtain ⟨p, n, c, rfl, _⟩ := h1.nums.lst
  obtain ⟨p2, n2, c2, rfl, _⟩ := h2.nums.lst
  exact ⟨p, n, c, p2, n2, c2, rfl, h1, h2⟩
theorem row_tn (p : Option Addr) (n c : Nat) (l : List Int) (hl : l.length = n) (w : World) (h : Nums .i64 w (.slice p n c) l) :
    Calls Try.prog 11 #[.slice p n c] w fun e w' => ∃ v, e = .returned v ∧ RowP l v w' ∧ Below w.heap.size w w' := by
  refine (row_any p n c l w h).mono ?_
  rintro e w' ⟨v, rfl, ⟨g, rfl, h1, h2⟩, hb⟩
  subst hl
  exact ⟨_, rfl, ⟨_, _, _, _, _, _, rfl, h1, h2⟩, hb⟩
theorem add_tn {D X D' X' : List Int} {v v' : Value} {W : World} (h : Tn D X v W) (h' : Tn D' X' v' W) (hD : RI D) (hX : RI X) (hD' : RI D') (hX' : RI X') :
    Calls Try.prog 10 #[v, v'] W fun e w' => ∃ u, e = .returned (.tuple #[u, .int .i64 (eachE D X D' X')]) ∧ TRes w' W.heap.size u (eachD D X D' X') (eachV (fun a b => Fx.hold (a + b)) D X D' X') ∧ Below W.heap.size W w' := by
  obtain ⟨p, n, c, p2, n2, c2, rfl, h1, h2⟩ := h
  obtain ⟨p', n', c', p2', n2', c2', rfl, h1', h2'⟩ := h'
  exact tadd_any _ _ _ _ _ _ _ _ _ _ _ _ D X D' X' hD hX hD' hX' W h1 h2 h1' h2'
theorem kn1 : eachE [2, 2] [1, 2, 3, 4] [2] [10, 20] = 0 ∧ eachD [2, 2] [1, 2, 3, 4] [2] [10, 20] = [2, 2] ∧ eachV (fun a b => Fx.hold (a + b)) [2, 2] [1, 2, 3, 4] [2] [10, 20] = [11, 22, 13, 24] := by decide +kernel
theorem kn2 : turnE [2, 2] [1, 2, 3, 4] [1, 0] = 0 ∧ turnD [2, 2] [1, 2, 3, 4] [1, 0] = [2, 2] ∧ turnV [2, 2] [1, 2, 3, 4] [1, 0] = [1, 3, 2, 4] := by decide +kernel
theorem kn3 : eachE [2, 2] [1, 2, 3, 4] [3] [1, 2, 3] = 4 ∧ eachD [2, 2] [1, 2, 3, 4] [3] [1, 2, 3] = [] ∧ eachV (fun a b => Fx.hold (a + b)) [2, 2] [1, 2, 3, 4] [3] [1, 2, 3] = [] := by decide +kernel
theorem kn4 : eachE [2, 2] [1, 2, 3, 4] [2] [] = 1 ∧ eachD [2, 2] [1, 2, 3, 4] [2] [] = [] ∧ eachV (fun a b => Fx.hold (a + b)) [2, 2] [1, 2, 3, 4] [2] [] = [] := by decide +kernel
theorem kn5 : shpE [2, 2] [1, 2, 3, 4] [3] = 4 ∧ shpD [2, 2] [1, 2, 3, 4] [3] = [] ∧ shpV [2, 2] [1, 2, 3, 4] [3] = [] := by decide +kernel
theorem kn6 : shpE [2, 2] [1, 2, 3, 4] [4] = 0 ∧ shpD [2, 2] [1, 2, 3, 4] [4] = [4] ∧ shpV [2, 2] [1, 2, 3, 4] [4] = [1, 2, 3, 4] := by decide +kernel
theorem kn7 : turnE [2, 2] [1, 2, 3, 4] [0, 0] = 1 ∧ turnD [2, 2] [1, 2, 3, 4] [0, 0] = [] ∧ turnV [2, 2] [1, 2, 3, 4] [0, 0] = [] := by decide +kernel
theorem kn8 : foldE [2, 2] [1, 2, 3, 4] [3] = 4 ∧ foldD [2, 2] [1, 2, 3, 4] [3] = [] ∧ foldV [2, 2] [1, 2, 3, 4] [3] = [] := by decide +kernel
theorem kn9 : newE [0] = 1 ∧ newD [0] = [] ∧ newV [0] 1 = [] := by decide +kernel
set_option maxRecDepth 8000 in
set_option maxHeartbeats 8000000 in
theorem tknown_walk (w : World) :
    Calls Try.prog 3 #[] w fun e w' => e = .returned (.bool true) ∧ Below w.heap.size w w' := by
  have R22 : Hid (RI [2, 2] ∧ RI [1, 2, 3, 4]) := ⟨RI_lit (by decide +kernel), RI_lit (by decide +kernel)⟩
  haveI : Nonempty World := ⟨w⟩
  go_enter Try.func3, Try.ntmps3
  go_wp2_with fail
  have HB_w : Hid (Below w.heap.size w w) := Below.refl _ _
  refine (tawake_any w).mono ?_
  rintro e wa ⟨rfl, hBa⟩
  have HB_wa : Hid (Below w.heap.size w wa) := bstep HB_w.out hBa
  clear hBa
  go_wp2_with fail
  generalize hWk : World.alloc _ _ = Wk
  have hBk : Below wa.heap.size wa Wk := by rw [← hWk]; exact blit (blit (up_alloc wa _) _) _
  have X0k : Hid (Cel Wk (wa.heap.size + 1 + 1) (.slice (some ⟨wa.heap.size, 0, none⟩) 2 2) (.slice (some ⟨wa.heap.size + 1, 0, none⟩) 4 4)) := by show Cel _ _ _ _; unfold Cel; rw [← hWk]; simp [go_sem]
  have N1k : Nums .i64 Wk (.slice (some ⟨wa.heap.size, 0, none⟩) 2 2) [2, 2] := by rw [← hWk]; exact (nums_lit (k := .i64) wa [2, 2] 2 (0, 0) rfl).up (blit (up_alloc _ _) _)
  have N2k : Nums .i64 Wk (.slice (some ⟨wa.heap.size + 1, 0, none⟩) 4 4) [1, 2, 3, 4] := by rw [← hWk]; exact (nums_lit2 (k := .i64) wa _ [1, 2, 3, 4] 4 (0, 0) rfl).up (up_alloc _ _)
  have HB_Wk : Hid (Below w.heap.size w Wk) := bstep HB_wa.out hBk
  have X0_v0 : Hid (Cel Wk (wa.heap.size + 1 + 1) (.slice (some ⟨wa.heap.size, 0, none⟩) 2 2) (.slice (some ⟨wa.heap.size + 1, 0, none⟩) 4 4)) := X0k
  have T0_v0 : Hid (Tn [2, 2] [1, 2, 3, 4] (.agg #[.slice (some ⟨wa.heap.size, 0, none⟩) 2 2, .slice (some ⟨wa.heap.size + 1, 0, none⟩) 4 4]) Wk) := ⟨_, _, _, _, _, _, rfl, N1k, N2k⟩
  clear hWk hBk X0k N1k N2k
  have cA : Hid (∀ W v, Below Wk.heap.size Wk W → RowP [10, 20] v W → Calls Try.prog 10 #[.agg #[.slice (some ⟨wa.heap.size, 0, none⟩) 2 2, .slice (some ⟨wa.heap.size + 1, 0, none⟩) 4 4], v] W fun e w' => ∃ u, e = .returned u ∧ TupP Wk.heap.size [2, 2] [11, 22, 13, 24] 0 u w' ∧ Below W.heap.size W w') := fun W v hW hv => by
    have := add_tn (T0_v0.out.up hW) hv R22.out.1 R22.out.2 (RI_lit (by decide +kernel)) (RI_lit (by decide +kernel))
    rw [show (([10, 20] : List Int).length : Int) = 2 from rfl, kn1.1, kn1.2.1, kn1.2.2] at this
    refine this.mono ?_
    rintro e w' ⟨u, rfl, h, hb⟩
    exact ⟨_, rfl, ⟨u, rfl, (h.low hW.size).own⟩, hb⟩
  obtain ⟨x00, x01, _, _⟩ := X0_v0.out
  have x0z := cell_lt x00
  refine relE [⟨1, 27, LitN [10, 20]⟩, ⟨2, 28, RowP [10, 20]⟩, ⟨3, 29, TupP Wk.heap.size [2, 2] [11, 22, 13, 24] 0⟩, ⟨4, 25, TupP Wk.heap.size [2, 2] [11, 22, 13, 24] 0⟩, ⟨5, 30, OwnT Wk.heap.size [2, 2] [11, 22, 13, 24]⟩, ⟨7, 2, NewC Wk.heap.size⟩] 8 135 (by kernel_rfl) rfl rfl 6 _ rfl (by decide) rfl (by kernel_rfl) (by kernel_rfl) (fun _ _ _ _ h => h) (by rfl) ?_ ?_
  · intro e he v W W' h hb
    simp only [List.mem_cons, List.not_mem_nil, or_false] at he
    rcases he with rfl | rfl | rfl | rfl | rfl | rfl
    · exact LitN.up h hb
    · exact Tn.up h hb
    · exact TupP.up h hb
    · exact TupP.up h hb
    · exact OwnT.up h hb
    · exact NewC.up h hb
  apply Exists.intro
  refine ⟨?yl1, ?wk1, ?pk1, ?rest1⟩
  case wk1 =>
    intro x
    simp only [List.take_succ_cons, List.take_zero]
    refine relQuiet rfl rfl ?_
    apply Exists.intro
    refine ⟨fun F hF hf K hK => ?_, ?_⟩
    · have hFc := hF.cell
      have hFf := hF.frozen
      go_big_quiet_op
      first | exact hK | (apply Exists.intro; refine ⟨fun _ => ?_, ?_⟩; (· fail); exact hK)
    (try simp only [Act.put, List.setIfInBounds_toArray, List.set_cons_zero, List.set_cons_succ])
    refine relTold rfl rfl ?_ ?_
    · intro F hF hf d
      have hFc := hF.cell
      have hFf := hF.frozen
      simp [yieldsR, yieldsUpon, go_sem]
      exact ⟨⟨(F d).heap.size, rfl, nums_lit (k := .i64) (F d) [10, 20] 2 (0, 0) rfl⟩, up_alloc _ _⟩
    (try simp only [Act.put, List.setIfInBounds_toArray, List.set_cons_zero, List.set_cons_succ])
    refine relTold rfl rfl ?_ ?_
    · intro F hF hf d
      have hFc := hF.cell
      have hFf := hF.frozen
      have h9 := hf _ List.mem_cons_self (by rfl) d
      obtain ⟨g9, e9, n9⟩ := h9
      simp only [] at e9 n9
      rw [e9] at n9
      simp [yieldsR, yieldsUpon, go_sem, e9]
      refine (row_tn _ 2 2 [10, 20] rfl (F d) n9).mono ?_
      rintro e' w8 ⟨v8, rfl, h8, hb8⟩
      exact ⟨_, rfl, h8, hb8⟩
    (try simp only [Act.put, List.setIfInBounds_toArray, List.set_cons_zero, List.set_cons_succ])
    refine relTold rfl rfl ?_ ?_
    · intro F hF hf d
      have hFc := hF.cell
      have hFf := hF.frozen
      have h9 := hf _ (List.mem_cons_of_mem _ List.mem_cons_self) (by rfl) d
      simp [yieldsR, yieldsUpon, go_sem]
      refine (cA.out (F d) _ (hF.below d) h9).mono ?_
      rintro e' w8 ⟨v8, rfl, h8, hb8⟩
      exact ⟨_, rfl, h8, hb8⟩
    (try simp only [Act.put, List.setIfInBounds_toArray, List.set_cons_zero, List.set_cons_succ])
    refine relTold rfl rfl ?_ ?_
    · intro F hF hf d
      have hFc := hF.cell
      have hFf := hF.frozen
      have h9 := hf _ (List.mem_cons_of_mem _ (List.mem_cons_of_mem _ List.mem_cons_self)) (by rfl) d
      simp [yieldsR, yieldsUpon, go_sem]
      exact ⟨h9, Below.refl _ _⟩
    (try simp only [Act.put, List.setIfInBounds_toArray, List.set_cons_zero, List.set_cons_succ])
    refine relTold rfl rfl ?_ ?_
    · intro F hF hf d
      have hFc := hF.cell
      have hFf := hF.frozen
      have h9 := hf _ (List.mem_cons_of_mem _ (List.mem_cons_of_mem _ (List.mem_cons_of_mem _ List.mem_cons_self))) (by rfl) d
      obtain ⟨u9, e9, o9⟩ := h9
      simp only [] at e9
      simp [yieldsR, yieldsUpon, go_sem, e9]
      exact ⟨o9, Below.refl _ _⟩
    (try simp only [Act.put, List.setIfInBounds_toArray, List.set_cons_zero, List.set_cons_succ])
    refine relQuiet rfl rfl ?_
    apply Exists.intro
    refine ⟨fun F hF hf K hK => ?_, ?_⟩
    · have hFc := hF.cell
      have hFf := hF.frozen
      have h9 := hf _ (List.mem_cons_of_mem _ (List.mem_cons_of_mem _ (List.mem_cons_of_mem _ List.mem_cons_self))) (by rfl)
      obtain ⟨u9, e9, _⟩ := h9 w
      simp only [] at e9
      go_big_quiet_op
      first | exact hK | (apply Exists.intro; refine ⟨fun _ => ?_, ?_⟩; (· fail); exact hK)
    (try simp only [Act.put, List.setIfInBounds_toArray, List.set_cons_zero, List.set_cons_succ])
    refine relTold rfl rfl ?_ ?_
    · intro F hF hf d
      have hFc := hF.cell
      have hFf := hF.frozen
      simp [yieldsR, yieldsUpon, go_sem]
      exact ⟨⟨(F d).heap.size, rfl, by show ((F d).heap.push _)[(F d).heap.size]? = _; simp, (hF.below d).size⟩, up_alloc _ _⟩
    (try simp only [Act.put, List.setIfInBounds_toArray, List.set_cons_zero, List.set_cons_succ])
    refine relEnd ?_
    exact rfl
  case pk1 => exact fun x => rfl
  case yl1 =>
    intro x hx
    obtain ⟨W9, u9, e9, _⟩ := hx _ (List.mem_cons_of_mem _ (List.mem_cons_of_mem _ (List.mem_cons_of_mem _ List.mem_cons_self))) (by rfl)
    simp only [] at e9
    refine ⟨.int .i64 0, fun t ht => ?_, .inl ⟨by rfl, fun w => ?_⟩⟩
    · cases ht
      rfl
    · simp [execOp, Act.eval, e9, go_sem]
  intro z1 xs hBz1 hf
  simp only [List.drop_succ_cons, List.drop_zero]
  have hT := hf _ (List.mem_cons_of_mem _ (List.mem_cons_of_mem _ (List.mem_cons_of_mem _ (List.mem_cons_of_mem _ List.mem_cons_self))))
  have hN := hf _ (List.mem_cons_of_mem _ (List.mem_cons_of_mem _ (List.mem_cons_of_mem _ (List.mem_cons_of_mem _ (List.mem_cons_of_mem _ List.mem_cons_self)))))
  obtain ⟨pa1, na1, ca1, pb1, nb1, cb1, ev, o1, o2⟩ := hT
  obtain ⟨b1, eb, hb1, hb2⟩ := hN
  simp only [] at ev eb
  obtain ⟨x1, e1⟩ : ∃ q, xs 1 = q := ⟨_, rfl⟩
  obtain ⟨x2, e2⟩ : ∃ q, xs 2 = q := ⟨_, rfl⟩
  obtain ⟨x3, e3⟩ : ∃ q, xs 3 = q := ⟨_, rfl⟩
  obtain ⟨x4, e4⟩ : ∃ q, xs 4 = q := ⟨_, rfl⟩
  simp only [ev, eb, e1, e2, e3, e4]
  have cb := new_cel hb1
  have f1 := o1.off_type hb1 (by decide)
  have f2 := o2.off_type hb1 (by decide)
  obtain ⟨c0, c1, c2', c3'⟩ := cb
  have cz := cell_lt c0
  have hS : Below Wk.heap.size Wk (set2 z1 b1 (.slice pa1 na1 ca1) (.slice pb1 nb1 cb1)) := below_set2 hBz1 b1 hb2 _ _
  have hT : Tn [2, 2] [11, 22, 13, 24] (.agg #[.slice pa1 na1 ca1, .slice pb1 nb1 cb1]) (set2 z1 b1 (.slice pa1 na1 ca1) (.slice pb1 nb1 cb1)) := ⟨_, _, _, _, _, _, rfl, (o1.stay (Stay.set2 _ _ _) f1).nums, (o2.stay (Stay.set2 _ _ _) f2).nums⟩
  have hC : Cel (set2 z1 b1 (.slice pa1 na1 ca1) (.slice pb1 nb1 cb1)) b1 (.slice pa1 na1 ca1) (.slice pb1 nb1 cb1) := (new_cel hb1).set _ _
  obtain ⟨a0, a1, _, _⟩ := X0_v0.out.up hS
  have az := cell_lt a0
  have hsz : (set2 z1 b1 (.slice pa1 na1 ca1) (.slice pb1 nb1 cb1)).heap.size = z1.heap.size := by simp
  clear hf e1 e2 e3 e4 ev eb f1 f2 o1 o2 cA x00 x01 x0z
  go_wp2_with fail
  generalize hYn : World.alloc _ _ = Y1
  have hYs : (set2 z1 b1 (.slice pa1 na1 ca1) (.slice pb1 nb1 cb1)).alloc (.cells (vals .i64 [1, 0]).toArray 3) = Y1 := hYn
  have hU : Below (set2 z1 b1 (.slice pa1 na1 ca1) (.slice pb1 nb1 cb1)).heap.size (set2 z1 b1 (.slice pa1 na1 ca1) (.slice pb1 nb1 cb1)) Y1 := by rw [← hYs]; exact up_alloc _ _
  have hY : Below Wk.heap.size Wk Y1 := hS.trans (hU.mono hS.size)
  have hLit : Nums .i64 Y1 (.slice (some ⟨z1.heap.size, 0, none⟩) 2 2) [1, 0] := by
    have := nums_lit (k := .i64) (e := 3) (set2 z1 b1 (.slice pa1 na1 ca1) (.slice pb1 nb1 cb1)) [1, 0] 2 (0, 0) rfl
    rw [hsz, hYs] at this
    exact this
  have HB_Y1 : Hid (Below w.heap.size w Y1) := bstep HB_Wk.out hY
  have X0_v1 : Hid (Cel Y1 (wa.heap.size + 1 + 1) (.slice (some ⟨wa.heap.size, 0, none⟩) 2 2) (.slice (some ⟨wa.heap.size + 1, 0, none⟩) 4 4)) := X0_v0.out.up hY
  have T0_v1 : Hid (Tn [2, 2] [1, 2, 3, 4] (.agg #[.slice (some ⟨wa.heap.size, 0, none⟩) 2 2, .slice (some ⟨wa.heap.size + 1, 0, none⟩) 4 4]) Y1) := T0_v0.out.up hY
  clear X0_v0 T0_v0
  have X1_v1 : Hid (Cel Y1 b1 (.slice pa1 na1 ca1) (.slice pb1 nb1 cb1)) := hC.up hU
  have T1_v1 : Hid (Tn [2, 2] [11, 22, 13, 24] (.agg #[.slice pa1 na1 ca1, .slice pb1 nb1 cb1]) Y1) := hT.up hU
  have Lit1 : Hid (Nums .i64 Y1 (.slice (some ⟨z1.heap.size, 0, none⟩) 2 2) [1, 0]) := hLit
  clear hYn hYs hU hY hS hT hC hLit hsz hb1 hb2 hBz1 c0 c1 c2' c3' cz a0 a1 az
  have k2 := tturn_any (some ⟨wa.heap.size, 0, none⟩) (some ⟨wa.heap.size + 1, 0, none⟩) (some ⟨z1.heap.size, 0, none⟩) 2 2 4 4 2 2 [2, 2] [1, 2, 3, 4] [1, 0] R22.out.1 (RI_lit (by decide +kernel)) Y1 (tn_nums T0_v1.out).1 (tn_nums T0_v1.out).2 Lit1.out
  rw [kn2.1, kn2.2.1, kn2.2.2] at k2
  refine (k2).mono ?_
  rintro e w2 ⟨v2, rfl, ⟨s2, t2, rfl, hs2, ht2⟩, hB2⟩
  obtain ⟨ps2, ns2, cs2, rfl, _⟩ := hs2.nums.lst
  obtain ⟨pt2, nt2, ct2, rfl, _⟩ := ht2.nums.lst
  have HB_w2 : Hid (Below w.heap.size w w2) := bstep HB_Y1.out hB2
  have X0_v2 : Hid (Cel w2 (wa.heap.size + 1 + 1) (.slice (some ⟨wa.heap.size, 0, none⟩) 2 2) (.slice (some ⟨wa.heap.size + 1, 0, none⟩) 4 4)) := X0_v1.out.up hB2
  have T0_v2 : Hid (Tn [2, 2] [1, 2, 3, 4] (.agg #[.slice (some ⟨wa.heap.size, 0, none⟩) 2 2, .slice (some ⟨wa.heap.size + 1, 0, none⟩) 4 4]) w2) := T0_v1.out.up hB2
  have X1_v2 : Hid (Cel w2 b1 (.slice pa1 na1 ca1) (.slice pb1 nb1 cb1)) := X1_v1.out.up hB2
  have T1_v2 : Hid (Tn [2, 2] [11, 22, 13, 24] (.agg #[.slice pa1 na1 ca1, .slice pb1 nb1 cb1]) w2) := T1_v1.out.up hB2
  clear X0_v1 T0_v1 X1_v1 T1_v1
  have T2_v2 : Hid (Tn [2, 2] [1, 3, 2, 4] (.agg #[.slice ps2 ns2 cs2, .slice pt2 nt2 ct2]) w2) := ⟨_, _, _, _, _, _, rfl, hs2.nums, ht2.nums⟩
  clear hB2 hs2 ht2
  obtain ⟨x00, x01, _, _⟩ := X0_v2.out
  have x0z := cell_lt x00
  go_wp2_with fail
  generalize hYn : World.alloc _ _ = Y2
  have hY : Below w2.heap.size w2 Y2 := by rw [← hYn]; exact up_alloc _ _
  have HB_Y2 : Hid (Below w.heap.size w Y2) := bstep HB_w2.out hY
  have X0_v3 : Hid (Cel Y2 (wa.heap.size + 1 + 1) (.slice (some ⟨wa.heap.size, 0, none⟩) 2 2) (.slice (some ⟨wa.heap.size + 1, 0, none⟩) 4 4)) := X0_v2.out.up hY
  have T0_v3 : Hid (Tn [2, 2] [1, 2, 3, 4] (.agg #[.slice (some ⟨wa.heap.size, 0, none⟩) 2 2, .slice (some ⟨wa.heap.size + 1, 0, none⟩) 4 4]) Y2) := T0_v2.out.up hY
  have X1_v3 : Hid (Cel Y2 b1 (.slice pa1 na1 ca1) (.slice pb1 nb1 cb1)) := X1_v2.out.up hY
  have T1_v3 : Hid (Tn [2, 2] [11, 22, 13, 24] (.agg #[.slice pa1 na1 ca1, .slice pb1 nb1 cb1]) Y2) := T1_v2.out.up hY
  have T2_v3 : Hid (Tn [2, 2] [1, 3, 2, 4] (.agg #[.slice ps2 ns2 cs2, .slice pt2 nt2 ct2]) Y2) := T2_v2.out.up hY
  clear X0_v2 T0_v2 X1_v2 T1_v2 T2_v2
  have X2_v3 : Hid (Cel Y2 w2.heap.size (.slice ps2 ns2 cs2) (.slice pt2 nt2 ct2)) := by show Cel _ _ _ _; unfold Cel; rw [← hYn]; simp [go_sem]
  clear hYn hY x00 x01 x0z
  clear k2
  have cA : Hid (∀ W v, Below Y2.heap.size Y2 W → RowP [1, 2, 3] v W → Calls Try.prog 10 #[.agg #[.slice (some ⟨wa.heap.size, 0, none⟩) 2 2, .slice (some ⟨wa.heap.size + 1, 0, none⟩) 4 4], v] W fun e w' => ∃ u, e = .returned u ∧ TupP Y2.heap.size [] [] 4 u w' ∧ Below W.heap.size W w') := fun W v hW hv => by
    have := add_tn (T0_v3.out.up hW) hv R22.out.1 R22.out.2 (RI_lit (by decide +kernel)) (RI_lit (by decide +kernel))
    rw [show (([1, 2, 3] : List Int).length : Int) = 3 from rfl, kn3.1, kn3.2.1, kn3.2.2] at this
    refine this.mono ?_
    rintro e w' ⟨u, rfl, h, hb⟩
    exact ⟨_, rfl, ⟨u, rfl, (h.low hW.size).own⟩, hb⟩
  obtain ⟨x00, x01, _, _⟩ := X0_v3.out
  have x0z := cell_lt x00
  refine relE [⟨1, 40, LitN [1, 2, 3]⟩, ⟨2, 41, RowP [1, 2, 3]⟩, ⟨3, 42, TupP Y2.heap.size [] [] 4⟩, ⟨4, 38, TupP Y2.heap.size [] [] 4⟩, ⟨5, 43, OwnT Y2.heap.size [] []⟩, ⟨7, 6, NewC Y2.heap.size⟩] 8 135 (by kernel_rfl) rfl rfl 6 _ rfl (by decide) rfl (by kernel_rfl) (by kernel_rfl) (fun _ _ _ _ h => h) (by rfl) ?_ ?_
  · intro e he v W W' h hb
    simp only [List.mem_cons, List.not_mem_nil, or_false] at he
    rcases he with rfl | rfl | rfl | rfl | rfl | rfl
    · exact LitN.up h hb
    · exact Tn.up h hb
    · exact TupP.up h hb
    · exact TupP.up h hb
    · exact OwnT.up h hb
    · exact NewC.up h hb
  apply Exists.intro
  refine ⟨?yl3, ?wk3, ?pk3, ?rest3⟩
  case wk3 =>
    intro x
    simp only [List.take_succ_cons, List.take_zero]
    refine relQuiet rfl rfl ?_
    apply Exists.intro
    refine ⟨fun F hF hf K hK => ?_, ?_⟩
    · have hFc := hF.cell
      have hFf := hF.frozen
      go_big_quiet_op
      first | exact hK | (apply Exists.intro; refine ⟨fun _ => ?_, ?_⟩; (· fail); exact hK)
    (try simp only [Act.put, List.setIfInBounds_toArray, List.set_cons_zero, List.set_cons_succ])
    refine relTold rfl rfl ?_ ?_
    · intro F hF hf d
      have hFc := hF.cell
      have hFf := hF.frozen
      simp [yieldsR, yieldsUpon, go_sem]
      exact ⟨⟨(F d).heap.size, rfl, nums_lit (k := .i64) (F d) [1, 2, 3] 3 (0, 0) rfl⟩, up_alloc _ _⟩
    (try simp only [Act.put, List.setIfInBounds_toArray, List.set_cons_zero, List.set_cons_succ])
    refine relTold rfl rfl ?_ ?_
    · intro F hF hf d
      have hFc := hF.cell
      have hFf := hF.frozen
      have h9 := hf _ List.mem_cons_self (by rfl) d
      obtain ⟨g9, e9, n9⟩ := h9
      simp only [] at e9 n9
      rw [e9] at n9
      simp [yieldsR, yieldsUpon, go_sem, e9]
      refine (row_tn _ 3 3 [1, 2, 3] rfl (F d) n9).mono ?_
      rintro e' w8 ⟨v8, rfl, h8, hb8⟩
      exact ⟨_, rfl, h8, hb8⟩
    (try simp only [Act.put, List.setIfInBounds_toArray, List.set_cons_zero, List.set_cons_succ])
    refine relTold rfl rfl ?_ ?_
    · intro F hF hf d
      have hFc := hF.cell
      have hFf := hF.frozen
      have h9 := hf _ (List.mem_cons_of_mem _ List.mem_cons_self) (by rfl) d
      simp [yieldsR, yieldsUpon, go_sem]
      refine (cA.out (F d) _ (hF.below d) h9).mono ?_
      rintro e' w8 ⟨v8, rfl, h8, hb8⟩
      exact ⟨_, rfl, h8, hb8⟩
    (try simp only [Act.put, List.setIfInBounds_toArray, List.set_cons_zero, List.set_cons_succ])
    refine relTold rfl rfl ?_ ?_
    · intro F hF hf d
      have hFc := hF.cell
      have hFf := hF.frozen
      have h9 := hf _ (List.mem_cons_of_mem _ (List.mem_cons_of_mem _ List.mem_cons_self)) (by rfl) d
      simp [yieldsR, yieldsUpon, go_sem]
      exact ⟨h9, Below.refl _ _⟩
    (try simp only [Act.put, List.setIfInBounds_toArray, List.set_cons_zero, List.set_cons_succ])
    refine relTold rfl rfl ?_ ?_
    · intro F hF hf d
      have hFc := hF.cell
      have hFf := hF.frozen
      have h9 := hf _ (List.mem_cons_of_mem _ (List.mem_cons_of_mem _ (List.mem_cons_of_mem _ List.mem_cons_self))) (by rfl) d
      obtain ⟨u9, e9, o9⟩ := h9
      simp only [] at e9
      simp [yieldsR, yieldsUpon, go_sem, e9]
      exact ⟨o9, Below.refl _ _⟩
    (try simp only [Act.put, List.setIfInBounds_toArray, List.set_cons_zero, List.set_cons_succ])
    refine relQuiet rfl rfl ?_
    apply Exists.intro
    refine ⟨fun F hF hf K hK => ?_, ?_⟩
    · have hFc := hF.cell
      have hFf := hF.frozen
      have h9 := hf _ (List.mem_cons_of_mem _ (List.mem_cons_of_mem _ (List.mem_cons_of_mem _ List.mem_cons_self))) (by rfl)
      obtain ⟨u9, e9, _⟩ := h9 w
      simp only [] at e9
      go_big_quiet_op
      first | exact hK | (apply Exists.intro; refine ⟨fun _ => ?_, ?_⟩; (· fail); exact hK)
    (try simp only [Act.put, List.setIfInBounds_toArray, List.set_cons_zero, List.set_cons_succ])
    refine relTold rfl rfl ?_ ?_
    · intro F hF hf d
      have hFc := hF.cell
      have hFf := hF.frozen
      simp [yieldsR, yieldsUpon, go_sem]
      exact ⟨⟨(F d).heap.size, rfl, by show ((F d).heap.push _)[(F d).heap.size]? = _; simp, (hF.below d).size⟩, up_alloc _ _⟩
    (try simp only [Act.put, List.setIfInBounds_toArray, List.set_cons_zero, List.set_cons_succ])
    refine relEnd ?_
    exact rfl
  case pk3 => exact fun x => rfl
  case yl3 =>
    intro x hx
    obtain ⟨W9, u9, e9, _⟩ := hx _ (List.mem_cons_of_mem _ (List.mem_cons_of_mem _ (List.mem_cons_of_mem _ List.mem_cons_self))) (by rfl)
    simp only [] at e9
    refine ⟨.int .i64 4, fun t ht => ?_, .inl ⟨by rfl, fun w => ?_⟩⟩
    · cases ht
      rfl
    · simp [execOp, Act.eval, e9, go_sem]
  intro z3 xs hBz3 hf
  simp only [List.drop_succ_cons, List.drop_zero]
  have hT := hf _ (List.mem_cons_of_mem _ (List.mem_cons_of_mem _ (List.mem_cons_of_mem _ (List.mem_cons_of_mem _ List.mem_cons_self))))
  have hN := hf _ (List.mem_cons_of_mem _ (List.mem_cons_of_mem _ (List.mem_cons_of_mem _ (List.mem_cons_of_mem _ (List.mem_cons_of_mem _ List.mem_cons_self)))))
  obtain ⟨pa3, na3, ca3, pb3, nb3, cb3, ev, o1, o2⟩ := hT
  obtain ⟨b3, eb, hb1, hb2⟩ := hN
  simp only [] at ev eb
  obtain ⟨x1, e1⟩ : ∃ q, xs 1 = q := ⟨_, rfl⟩
  obtain ⟨x2, e2⟩ : ∃ q, xs 2 = q := ⟨_, rfl⟩
  obtain ⟨x3, e3⟩ : ∃ q, xs 3 = q := ⟨_, rfl⟩
  obtain ⟨x4, e4⟩ : ∃ q, xs 4 = q := ⟨_, rfl⟩
  simp only [ev, eb, e1, e2, e3, e4]
  have cb := new_cel hb1
  have f1 := o1.off_type hb1 (by decide)
  have f2 := o2.off_type hb1 (by decide)
  obtain ⟨c0, c1, c2', c3'⟩ := cb
  have cz := cell_lt c0
  have hS : Below Y2.heap.size Y2 (set2 z3 b3 (.slice pa3 na3 ca3) (.slice pb3 nb3 cb3)) := below_set2 hBz3 b3 hb2 _ _
  have hT : Tn [] [] (.agg #[.slice pa3 na3 ca3, .slice pb3 nb3 cb3]) (set2 z3 b3 (.slice pa3 na3 ca3) (.slice pb3 nb3 cb3)) := ⟨_, _, _, _, _, _, rfl, (o1.stay (Stay.set2 _ _ _) f1).nums, (o2.stay (Stay.set2 _ _ _) f2).nums⟩
  have hC : Cel (set2 z3 b3 (.slice pa3 na3 ca3) (.slice pb3 nb3 cb3)) b3 (.slice pa3 na3 ca3) (.slice pb3 nb3 cb3) := (new_cel hb1).set _ _
  obtain ⟨a0, a1, _, _⟩ := X0_v3.out.up hS
  have az := cell_lt a0
  have hsz : (set2 z3 b3 (.slice pa3 na3 ca3) (.slice pb3 nb3 cb3)).heap.size = z3.heap.size := by simp
  clear hf e1 e2 e3 e4 ev eb f1 f2 o1 o2 cA x00 x01 x0z
  go_wp2_with fail
  generalize hYn : World.alloc _ _ = Y3
  have hYs : (set2 z3 b3 (.slice pa3 na3 ca3) (.slice pb3 nb3 cb3)).alloc (.cells (vals .i64 [2]).toArray 3) = Y3 := hYn
  have hU : Below (set2 z3 b3 (.slice pa3 na3 ca3) (.slice pb3 nb3 cb3)).heap.size (set2 z3 b3 (.slice pa3 na3 ca3) (.slice pb3 nb3 cb3)) Y3 := by rw [← hYs]; exact up_alloc _ _
  have hY : Below Y2.heap.size Y2 Y3 := hS.trans (hU.mono hS.size)
  have hLit : Nums .i64 Y3 (.slice (some ⟨z3.heap.size, 0, none⟩) 1 1) [2] := by
    have := nums_lit (k := .i64) (e := 3) (set2 z3 b3 (.slice pa3 na3 ca3) (.slice pb3 nb3 cb3)) [2] 1 (0, 0) rfl
    rw [hsz, hYs] at this
    exact this
  have HB_Y3 : Hid (Below w.heap.size w Y3) := bstep HB_Y2.out hY
  have X0_v4 : Hid (Cel Y3 (wa.heap.size + 1 + 1) (.slice (some ⟨wa.heap.size, 0, none⟩) 2 2) (.slice (some ⟨wa.heap.size + 1, 0, none⟩) 4 4)) := X0_v3.out.up hY
  have T0_v4 : Hid (Tn [2, 2] [1, 2, 3, 4] (.agg #[.slice (some ⟨wa.heap.size, 0, none⟩) 2 2, .slice (some ⟨wa.heap.size + 1, 0, none⟩) 4 4]) Y3) := T0_v3.out.up hY
  have X1_v4 : Hid (Cel Y3 b1 (.slice pa1 na1 ca1) (.slice pb1 nb1 cb1)) := X1_v3.out.up hY
  have T1_v4 : Hid (Tn [2, 2] [11, 22, 13, 24] (.agg #[.slice pa1 na1 ca1, .slice pb1 nb1 cb1]) Y3) := T1_v3.out.up hY
  have T2_v4 : Hid (Tn [2, 2] [1, 3, 2, 4] (.agg #[.slice ps2 ns2 cs2, .slice pt2 nt2 ct2]) Y3) := T2_v3.out.up hY
  have X2_v4 : Hid (Cel Y3 w2.heap.size (.slice ps2 ns2 cs2) (.slice pt2 nt2 ct2)) := X2_v3.out.up hY
  clear X0_v3 T0_v3 X1_v3 T1_v3 T2_v3 X2_v3
  have Lit3 : Hid (Nums .i64 Y3 (.slice (some ⟨z3.heap.size, 0, none⟩) 1 1) [2]) := hLit
  clear hYn hYs hU hY hS hT hC hLit hsz hb1 hb2 hBz3 c0 c1 c2' c3' cz a0 a1 az
  have k4 := tadd_any (some ⟨wa.heap.size, 0, none⟩) (some ⟨wa.heap.size + 1, 0, none⟩) (some ⟨z3.heap.size, 0, none⟩) none 2 2 4 4 1 1 0 0 [2, 2] [1, 2, 3, 4] [2] [] R22.out.1 R22.out.2 (RI_lit (by decide +kernel)) (fun y hy => by cases hy) Y3 (tn_nums T0_v4.out).1 (tn_nums T0_v4.out).2 Lit3.out (.inl ⟨rfl, rfl⟩)
  rw [kn4.1, kn4.2.1, kn4.2.2] at k4
  refine (k4).mono ?_
  rintro e w4 ⟨v4, rfl, ⟨s4, t4, rfl, hs4, ht4⟩, hB4⟩
  obtain ⟨ps4, ns4, cs4, rfl, _⟩ := hs4.nums.lst
  obtain ⟨pt4, nt4, ct4, rfl, _⟩ := ht4.nums.lst
  have HB_w4 : Hid (Below w.heap.size w w4) := bstep HB_Y3.out hB4
  have X0_v5 : Hid (Cel w4 (wa.heap.size + 1 + 1) (.slice (some ⟨wa.heap.size, 0, none⟩) 2 2) (.slice (some ⟨wa.heap.size + 1, 0, none⟩) 4 4)) := X0_v4.out.up hB4
  have T0_v5 : Hid (Tn [2, 2] [1, 2, 3, 4] (.agg #[.slice (some ⟨wa.heap.size, 0, none⟩) 2 2, .slice (some ⟨wa.heap.size + 1, 0, none⟩) 4 4]) w4) := T0_v4.out.up hB4
  have X1_v5 : Hid (Cel w4 b1 (.slice pa1 na1 ca1) (.slice pb1 nb1 cb1)) := X1_v4.out.up hB4
  have T1_v5 : Hid (Tn [2, 2] [11, 22, 13, 24] (.agg #[.slice pa1 na1 ca1, .slice pb1 nb1 cb1]) w4) := T1_v4.out.up hB4
  have T2_v5 : Hid (Tn [2, 2] [1, 3, 2, 4] (.agg #[.slice ps2 ns2 cs2, .slice pt2 nt2 ct2]) w4) := T2_v4.out.up hB4
  have X2_v5 : Hid (Cel w4 w2.heap.size (.slice ps2 ns2 cs2) (.slice pt2 nt2 ct2)) := X2_v4.out.up hB4
  clear X0_v4 T0_v4 X1_v4 T1_v4 T2_v4 X2_v4
  clear hB4 hs4 ht4
  obtain ⟨x00, x01, _, _⟩ := X0_v5.out
  have x0z := cell_lt x00
  go_wp2_with fail
  generalize hYn : World.alloc _ _ = Y4
  have hY : Below w4.heap.size w4 Y4 := by rw [← hYn]; exact blit (up_alloc _ _) _
  have Lit4 : Hid (Nums .i64 Y4 (.slice (some ⟨w4.heap.size + 1, 0, none⟩) 1 1) [3]) := by rw [← hYn]; exact nums_lit2 (k := .i64) w4 _ [3] 1 (0, 0) rfl
  have HB_Y4 : Hid (Below w.heap.size w Y4) := bstep HB_w4.out hY
  have X0_v6 : Hid (Cel Y4 (wa.heap.size + 1 + 1) (.slice (some ⟨wa.heap.size, 0, none⟩) 2 2) (.slice (some ⟨wa.heap.size + 1, 0, none⟩) 4 4)) := X0_v5.out.up hY
  have T0_v6 : Hid (Tn [2, 2] [1, 2, 3, 4] (.agg #[.slice (some ⟨wa.heap.size, 0, none⟩) 2 2, .slice (some ⟨wa.heap.size + 1, 0, none⟩) 4 4]) Y4) := T0_v5.out.up hY
  have X1_v6 : Hid (Cel Y4 b1 (.slice pa1 na1 ca1) (.slice pb1 nb1 cb1)) := X1_v5.out.up hY
  have T1_v6 : Hid (Tn [2, 2] [11, 22, 13, 24] (.agg #[.slice pa1 na1 ca1, .slice pb1 nb1 cb1]) Y4) := T1_v5.out.up hY
  have T2_v6 : Hid (Tn [2, 2] [1, 3, 2, 4] (.agg #[.slice ps2 ns2 cs2, .slice pt2 nt2 ct2]) Y4) := T2_v5.out.up hY
  have X2_v6 : Hid (Cel Y4 w2.heap.size (.slice ps2 ns2 cs2) (.slice pt2 nt2 ct2)) := X2_v5.out.up hY
  clear X0_v5 T0_v5 X1_v5 T1_v5 T2_v5 X2_v5
  clear hYn hY x00 x01 x0z
  clear k4
  have k5 := treshape_any (some ⟨wa.heap.size, 0, none⟩) (some ⟨wa.heap.size + 1, 0, none⟩) (some ⟨w4.heap.size + 1, 0, none⟩) 2 2 4 4 1 1 [2, 2] [1, 2, 3, 4] [3] R22.out.1 (RI_lit (by decide +kernel)) Y4 (tn_nums T0_v6.out).1 (tn_nums T0_v6.out).2 Lit4.out
  rw [kn5.1, kn5.2.1, kn5.2.2] at k5
  refine (k5).mono ?_
  rintro e w5 ⟨v5, rfl, ⟨s5, t5, rfl, hs5, ht5⟩, hB5⟩
  obtain ⟨ps5, ns5, cs5, rfl, _⟩ := hs5.nums.lst
  obtain ⟨pt5, nt5, ct5, rfl, _⟩ := ht5.nums.lst
  have HB_w5 : Hid (Below w.heap.size w w5) := bstep HB_Y4.out hB5
  have X0_v7 : Hid (Cel w5 (wa.heap.size + 1 + 1) (.slice (some ⟨wa.heap.size, 0, none⟩) 2 2) (.slice (some ⟨wa.heap.size + 1, 0, none⟩) 4 4)) := X0_v6.out.up hB5
  have T0_v7 : Hid (Tn [2, 2] [1, 2, 3, 4] (.agg #[.slice (some ⟨wa.heap.size, 0, none⟩) 2 2, .slice (some ⟨wa.heap.size + 1, 0, none⟩) 4 4]) w5) := T0_v6.out.up hB5
  have X1_v7 : Hid (Cel w5 b1 (.slice pa1 na1 ca1) (.slice pb1 nb1 cb1)) := X1_v6.out.up hB5
  have T1_v7 : Hid (Tn [2, 2] [11, 22, 13, 24] (.agg #[.slice pa1 na1 ca1, .slice pb1 nb1 cb1]) w5) := T1_v6.out.up hB5
  have T2_v7 : Hid (Tn [2, 2] [1, 3, 2, 4] (.agg #[.slice ps2 ns2 cs2, .slice pt2 nt2 ct2]) w5) := T2_v6.out.up hB5
  have X2_v7 : Hid (Cel w5 w2.heap.size (.slice ps2 ns2 cs2) (.slice pt2 nt2 ct2)) := X2_v6.out.up hB5
  clear X0_v6 T0_v6 X1_v6 T1_v6 T2_v6 X2_v6
  clear hB5 hs5 ht5
  obtain ⟨x00, x01, _, _⟩ := X0_v7.out
  have x0z := cell_lt x00
  go_wp2_with fail
  generalize hYn : World.alloc _ _ = Y5
  have hY : Below w5.heap.size w5 Y5 := by rw [← hYn]; exact blit (up_alloc _ _) _
  have Lit5 : Hid (Nums .i64 Y5 (.slice (some ⟨w5.heap.size + 1, 0, none⟩) 1 1) [4]) := by rw [← hYn]; exact nums_lit2 (k := .i64) w5 _ [4] 1 (0, 0) rfl
  have HB_Y5 : Hid (Below w.heap.size w Y5) := bstep HB_w5.out hY
  have X0_v8 : Hid (Cel Y5 (wa.heap.size + 1 + 1) (.slice (some ⟨wa.heap.size, 0, none⟩) 2 2) (.slice (some ⟨wa.heap.size + 1, 0, none⟩) 4 4)) := X0_v7.out.up hY
  have T0_v8 : Hid (Tn [2, 2] [1, 2, 3, 4] (.agg #[.slice (some ⟨wa.heap.size, 0, none⟩) 2 2, .slice (some ⟨wa.heap.size + 1, 0, none⟩) 4 4]) Y5) := T0_v7.out.up hY
  have X1_v8 : Hid (Cel Y5 b1 (.slice pa1 na1 ca1) (.slice pb1 nb1 cb1)) := X1_v7.out.up hY
  have T1_v8 : Hid (Tn [2, 2] [11, 22, 13, 24] (.agg #[.slice pa1 na1 ca1, .slice pb1 nb1 cb1]) Y5) := T1_v7.out.up hY
  have T2_v8 : Hid (Tn [2, 2] [1, 3, 2, 4] (.agg #[.slice ps2 ns2 cs2, .slice pt2 nt2 ct2]) Y5) := T2_v7.out.up hY
  have X2_v8 : Hid (Cel Y5 w2.heap.size (.slice ps2 ns2 cs2) (.slice pt2 nt2 ct2)) := X2_v7.out.up hY
  clear X0_v7 T0_v7 X1_v7 T1_v7 T2_v7 X2_v7
  clear hYn hY x00 x01 x0z
  clear k5
  have k6 := treshape_any (some ⟨wa.heap.size, 0, none⟩) (some ⟨wa.heap.size + 1, 0, none⟩) (some ⟨w5.heap.size + 1, 0, none⟩) 2 2 4 4 1 1 [2, 2] [1, 2, 3, 4] [4] R22.out.1 (RI_lit (by decide +kernel)) Y5 (tn_nums T0_v8.out).1 (tn_nums T0_v8.out).2 Lit5.out
  rw [kn6.1, kn6.2.1, kn6.2.2] at k6
  refine (k6).mono ?_
  rintro e w6 ⟨v6, rfl, ⟨s6, t6, rfl, hs6, ht6⟩, hB6⟩
  obtain ⟨ps6, ns6, cs6, rfl, _⟩ := hs6.nums.lst
  obtain ⟨pt6, nt6, ct6, rfl, _⟩ := ht6.nums.lst
  have HB_w6 : Hid (Below w.heap.size w w6) := bstep HB_Y5.out hB6
  have X0_v9 : Hid (Cel w6 (wa.heap.size + 1 + 1) (.slice (some ⟨wa.heap.size, 0, none⟩) 2 2) (.slice (some ⟨wa.heap.size + 1, 0, none⟩) 4 4)) := X0_v8.out.up hB6
  have T0_v9 : Hid (Tn [2, 2] [1, 2, 3, 4] (.agg #[.slice (some ⟨wa.heap.size, 0, none⟩) 2 2, .slice (some ⟨wa.heap.size + 1, 0, none⟩) 4 4]) w6) := T0_v8.out.up hB6
  have X1_v9 : Hid (Cel w6 b1 (.slice pa1 na1 ca1) (.slice pb1 nb1 cb1)) := X1_v8.out.up hB6
  have T1_v9 : Hid (Tn [2, 2] [11, 22, 13, 24] (.agg #[.slice pa1 na1 ca1, .slice pb1 nb1 cb1]) w6) := T1_v8.out.up hB6
  have T2_v9 : Hid (Tn [2, 2] [1, 3, 2, 4] (.agg #[.slice ps2 ns2 cs2, .slice pt2 nt2 ct2]) w6) := T2_v8.out.up hB6
  have X2_v9 : Hid (Cel w6 w2.heap.size (.slice ps2 ns2 cs2) (.slice pt2 nt2 ct2)) := X2_v8.out.up hB6
  clear X0_v8 T0_v8 X1_v8 T1_v8 T2_v8 X2_v8
  have T6_v9 : Hid (Tn [4] [1, 2, 3, 4] (.agg #[.slice ps6 ns6 cs6, .slice pt6 nt6 ct6]) w6) := ⟨_, _, _, _, _, _, rfl, hs6.nums, ht6.nums⟩
  clear hB6 hs6 ht6
  obtain ⟨x00, x01, _, _⟩ := X0_v9.out
  have x0z := cell_lt x00
  go_wp2_with fail
  generalize hYn : World.alloc _ _ = Y6
  have hY : Below w6.heap.size w6 Y6 := by rw [← hYn]; exact blit (up_alloc _ _) _
  have Lit6 : Hid (Nums .i64 Y6 (.slice (some ⟨w6.heap.size + 1, 0, none⟩) 2 2) [0, 0]) := by rw [← hYn]; exact nums_lit2 (k := .i64) w6 _ [0, 0] 2 (0, 0) rfl
  have HB_Y6 : Hid (Below w.heap.size w Y6) := bstep HB_w6.out hY
  have X0_v10 : Hid (Cel Y6 (wa.heap.size + 1 + 1) (.slice (some ⟨wa.heap.size, 0, none⟩) 2 2) (.slice (some ⟨wa.heap.size + 1, 0, none⟩) 4 4)) := X0_v9.out.up hY
  have T0_v10 : Hid (Tn [2, 2] [1, 2, 3, 4] (.agg #[.slice (some ⟨wa.heap.size, 0, none⟩) 2 2, .slice (some ⟨wa.heap.size + 1, 0, none⟩) 4 4]) Y6) := T0_v9.out.up hY
  have X1_v10 : Hid (Cel Y6 b1 (.slice pa1 na1 ca1) (.slice pb1 nb1 cb1)) := X1_v9.out.up hY
  have T1_v10 : Hid (Tn [2, 2] [11, 22, 13, 24] (.agg #[.slice pa1 na1 ca1, .slice pb1 nb1 cb1]) Y6) := T1_v9.out.up hY
  have T2_v10 : Hid (Tn [2, 2] [1, 3, 2, 4] (.agg #[.slice ps2 ns2 cs2, .slice pt2 nt2 ct2]) Y6) := T2_v9.out.up hY
  have X2_v10 : Hid (Cel Y6 w2.heap.size (.slice ps2 ns2 cs2) (.slice pt2 nt2 ct2)) := X2_v9.out.up hY
  have T6_v10 : Hid (Tn [4] [1, 2, 3, 4] (.agg #[.slice ps6 ns6 cs6, .slice pt6 nt6 ct6]) Y6) := T6_v9.out.up hY
  clear X0_v9 T0_v9 X1_v9 T1_v9 T2_v9 X2_v9 T6_v9
  have X6_v10 : Hid (Cel Y6 w6.heap.size (.slice ps6 ns6 cs6) (.slice pt6 nt6 ct6)) := by show Cel _ _ _ _; unfold Cel; rw [← hYn]; simp [go_sem]
  clear hYn hY x00 x01 x0z
  clear k6
  have k7 := tturn_any (some ⟨wa.heap.size, 0, none⟩) (some ⟨wa.heap.size + 1, 0, none⟩) (some ⟨w6.heap.size + 1, 0, none⟩) 2 2 4 4 2 2 [2, 2] [1, 2, 3, 4] [0, 0] R22.out.1 (RI_lit (by decide +kernel)) Y6 (tn_nums T0_v10.out).1 (tn_nums T0_v10.out).2 Lit6.out
  rw [kn7.1, kn7.2.1, kn7.2.2] at k7
  refine (k7).mono ?_
  rintro e w7 ⟨v7, rfl, ⟨s7, t7, rfl, hs7, ht7⟩, hB7⟩
  obtain ⟨ps7, ns7, cs7, rfl, _⟩ := hs7.nums.lst
  obtain ⟨pt7, nt7, ct7, rfl, _⟩ := ht7.nums.lst
  have HB_w7 : Hid (Below w.heap.size w w7) := bstep HB_Y6.out hB7
  have X0_v11 : Hid (Cel w7 (wa.heap.size + 1 + 1) (.slice (some ⟨wa.heap.size, 0, none⟩) 2 2) (.slice (some ⟨wa.heap.size + 1, 0, none⟩) 4 4)) := X0_v10.out.up hB7
  have T0_v11 : Hid (Tn [2, 2] [1, 2, 3, 4] (.agg #[.slice (some ⟨wa.heap.size, 0, none⟩) 2 2, .slice (some ⟨wa.heap.size + 1, 0, none⟩) 4 4]) w7) := T0_v10.out.up hB7
  have X1_v11 : Hid (Cel w7 b1 (.slice pa1 na1 ca1) (.slice pb1 nb1 cb1)) := X1_v10.out.up hB7
  have T1_v11 : Hid (Tn [2, 2] [11, 22, 13, 24] (.agg #[.slice pa1 na1 ca1, .slice pb1 nb1 cb1]) w7) := T1_v10.out.up hB7
  have T2_v11 : Hid (Tn [2, 2] [1, 3, 2, 4] (.agg #[.slice ps2 ns2 cs2, .slice pt2 nt2 ct2]) w7) := T2_v10.out.up hB7
  have X2_v11 : Hid (Cel w7 w2.heap.size (.slice ps2 ns2 cs2) (.slice pt2 nt2 ct2)) := X2_v10.out.up hB7
  have T6_v11 : Hid (Tn [4] [1, 2, 3, 4] (.agg #[.slice ps6 ns6 cs6, .slice pt6 nt6 ct6]) w7) := T6_v10.out.up hB7
  have X6_v11 : Hid (Cel w7 w6.heap.size (.slice ps6 ns6 cs6) (.slice pt6 nt6 ct6)) := X6_v10.out.up hB7
  clear X0_v10 T0_v10 X1_v10 T1_v10 T2_v10 X2_v10 T6_v10 X6_v10
  clear hB7 hs7 ht7
  obtain ⟨x00, x01, _, _⟩ := X0_v11.out
  have x0z := cell_lt x00
  go_wp2_with fail
  generalize hYn : World.alloc _ _ = Y7
  have hY : Below w7.heap.size w7 Y7 := by rw [← hYn]; exact blit (up_alloc _ _) _
  have Lit7 : Hid (Nums .i64 Y7 (.slice (some ⟨w7.heap.size + 1, 0, none⟩) 1 1) [3]) := by rw [← hYn]; exact nums_lit2 (k := .i64) w7 _ [3] 1 (0, 0) rfl
  have HB_Y7 : Hid (Below w.heap.size w Y7) := bstep HB_w7.out hY
  have X0_v12 : Hid (Cel Y7 (wa.heap.size + 1 + 1) (.slice (some ⟨wa.heap.size, 0, none⟩) 2 2) (.slice (some ⟨wa.heap.size + 1, 0, none⟩) 4 4)) := X0_v11.out.up hY
  have T0_v12 : Hid (Tn [2, 2] [1, 2, 3, 4] (.agg #[.slice (some ⟨wa.heap.size, 0, none⟩) 2 2, .slice (some ⟨wa.heap.size + 1, 0, none⟩) 4 4]) Y7) := T0_v11.out.up hY
  have X1_v12 : Hid (Cel Y7 b1 (.slice pa1 na1 ca1) (.slice pb1 nb1 cb1)) := X1_v11.out.up hY
  have T1_v12 : Hid (Tn [2, 2] [11, 22, 13, 24] (.agg #[.slice pa1 na1 ca1, .slice pb1 nb1 cb1]) Y7) := T1_v11.out.up hY
  have T2_v12 : Hid (Tn [2, 2] [1, 3, 2, 4] (.agg #[.slice ps2 ns2 cs2, .slice pt2 nt2 ct2]) Y7) := T2_v11.out.up hY
  have X2_v12 : Hid (Cel Y7 w2.heap.size (.slice ps2 ns2 cs2) (.slice pt2 nt2 ct2)) := X2_v11.out.up hY
  have T6_v12 : Hid (Tn [4] [1, 2, 3, 4] (.agg #[.slice ps6 ns6 cs6, .slice pt6 nt6 ct6]) Y7) := T6_v11.out.up hY
  have X6_v12 : Hid (Cel Y7 w6.heap.size (.slice ps6 ns6 cs6) (.slice pt6 nt6 ct6)) := X6_v11.out.up hY
  clear X0_v11 T0_v11 X1_v11 T1_v11 T2_v11 X2_v11 T6_v11 X6_v11
  clear hYn hY x00 x01 x0z
  clear k7
  have k8 := tfold_any (some ⟨wa.heap.size, 0, none⟩) (some ⟨wa.heap.size + 1, 0, none⟩) (some ⟨w7.heap.size + 1, 0, none⟩) 2 2 4 4 1 1 [2, 2] [1, 2, 3, 4] [3] R22.out.1 R22.out.2 (RI_lit (by decide +kernel)) Y7 (tn_nums T0_v12.out).1 (tn_nums T0_v12.out).2 Lit7.out
  rw [kn8.1, kn8.2.1, kn8.2.2] at k8
  refine (k8).mono ?_
  rintro e w8 ⟨v8, rfl, ⟨s8, t8, rfl, hs8, ht8⟩, hB8⟩
  obtain ⟨ps8, ns8, cs8, rfl, _⟩ := hs8.nums.lst
  obtain ⟨pt8, nt8, ct8, rfl, _⟩ := ht8.nums.lst
  have HB_w8 : Hid (Below w.heap.size w w8) := bstep HB_Y7.out hB8
  have X0_v13 : Hid (Cel w8 (wa.heap.size + 1 + 1) (.slice (some ⟨wa.heap.size, 0, none⟩) 2 2) (.slice (some ⟨wa.heap.size + 1, 0, none⟩) 4 4)) := X0_v12.out.up hB8
  have T0_v13 : Hid (Tn [2, 2] [1, 2, 3, 4] (.agg #[.slice (some ⟨wa.heap.size, 0, none⟩) 2 2, .slice (some ⟨wa.heap.size + 1, 0, none⟩) 4 4]) w8) := T0_v12.out.up hB8
  have X1_v13 : Hid (Cel w8 b1 (.slice pa1 na1 ca1) (.slice pb1 nb1 cb1)) := X1_v12.out.up hB8
  have T1_v13 : Hid (Tn [2, 2] [11, 22, 13, 24] (.agg #[.slice pa1 na1 ca1, .slice pb1 nb1 cb1]) w8) := T1_v12.out.up hB8
  have T2_v13 : Hid (Tn [2, 2] [1, 3, 2, 4] (.agg #[.slice ps2 ns2 cs2, .slice pt2 nt2 ct2]) w8) := T2_v12.out.up hB8
  have X2_v13 : Hid (Cel w8 w2.heap.size (.slice ps2 ns2 cs2) (.slice pt2 nt2 ct2)) := X2_v12.out.up hB8
  have T6_v13 : Hid (Tn [4] [1, 2, 3, 4] (.agg #[.slice ps6 ns6 cs6, .slice pt6 nt6 ct6]) w8) := T6_v12.out.up hB8
  have X6_v13 : Hid (Cel w8 w6.heap.size (.slice ps6 ns6 cs6) (.slice pt6 nt6 ct6)) := X6_v12.out.up hB8
  clear X0_v12 T0_v12 X1_v12 T1_v12 T2_v12 X2_v12 T6_v12 X6_v12
  clear hB8 hs8 ht8
  obtain ⟨x00, x01, _, _⟩ := X0_v13.out
  have x0z := cell_lt x00
  go_wp2_with fail
  generalize hYn : World.alloc _ _ = Y8
  have hY : Below w8.heap.size w8 Y8 := by rw [← hYn]; exact blit (up_alloc _ _) _
  have Lit8 : Hid (Nums .i64 Y8 (.slice (some ⟨w8.heap.size + 1, 0, none⟩) 1 1) [0]) := by rw [← hYn]; exact nums_lit2 (k := .i64) w8 _ [0] 1 (0, 0) rfl
  have HB_Y8 : Hid (Below w.heap.size w Y8) := bstep HB_w8.out hY
  have X0_v14 : Hid (Cel Y8 (wa.heap.size + 1 + 1) (.slice (some ⟨wa.heap.size, 0, none⟩) 2 2) (.slice (some ⟨wa.heap.size + 1, 0, none⟩) 4 4)) := X0_v13.out.up hY
  have T0_v14 : Hid (Tn [2, 2] [1, 2, 3, 4] (.agg #[.slice (some ⟨wa.heap.size, 0, none⟩) 2 2, .slice (some ⟨wa.heap.size + 1, 0, none⟩) 4 4]) Y8) := T0_v13.out.up hY
  have X1_v14 : Hid (Cel Y8 b1 (.slice pa1 na1 ca1) (.slice pb1 nb1 cb1)) := X1_v13.out.up hY
  have T1_v14 : Hid (Tn [2, 2] [11, 22, 13, 24] (.agg #[.slice pa1 na1 ca1, .slice pb1 nb1 cb1]) Y8) := T1_v13.out.up hY
  have T2_v14 : Hid (Tn [2, 2] [1, 3, 2, 4] (.agg #[.slice ps2 ns2 cs2, .slice pt2 nt2 ct2]) Y8) := T2_v13.out.up hY
  have X2_v14 : Hid (Cel Y8 w2.heap.size (.slice ps2 ns2 cs2) (.slice pt2 nt2 ct2)) := X2_v13.out.up hY
  have T6_v14 : Hid (Tn [4] [1, 2, 3, 4] (.agg #[.slice ps6 ns6 cs6, .slice pt6 nt6 ct6]) Y8) := T6_v13.out.up hY
  have X6_v14 : Hid (Cel Y8 w6.heap.size (.slice ps6 ns6 cs6) (.slice pt6 nt6 ct6)) := X6_v13.out.up hY
  clear X0_v13 T0_v13 X1_v13 T1_v13 T2_v13 X2_v13 T6_v13 X6_v13
  clear hYn hY x00 x01 x0z
  clear k8
  have k9 := tnew_any (.slice (some ⟨w8.heap.size + 1, 0, none⟩) 1 1) [0] (RI_lit (by decide +kernel)) 1 Y8 Lit8.out
  rw [kn9.1, kn9.2.1, kn9.2.2] at k9
  refine (k9).mono ?_
  rintro e w9 ⟨v9, rfl, ⟨s9, t9, rfl, hs9, ht9⟩, hB9⟩
  obtain ⟨ps9, ns9, cs9, rfl, _⟩ := hs9.nums.lst
  obtain ⟨pt9, nt9, ct9, rfl, _⟩ := ht9.nums.lst
  have HB_w9 : Hid (Below w.heap.size w w9) := bstep HB_Y8.out hB9
  have X0_v15 : Hid (Cel w9 (wa.heap.size + 1 + 1) (.slice (some ⟨wa.heap.size, 0, none⟩) 2 2) (.slice (some ⟨wa.heap.size + 1, 0, none⟩) 4 4)) := X0_v14.out.up hB9
  have T0_v15 : Hid (Tn [2, 2] [1, 2, 3, 4] (.agg #[.slice (some ⟨wa.heap.size, 0, none⟩) 2 2, .slice (some ⟨wa.heap.size + 1, 0, none⟩) 4 4]) w9) := T0_v14.out.up hB9
  have X1_v15 : Hid (Cel w9 b1 (.slice pa1 na1 ca1) (.slice pb1 nb1 cb1)) := X1_v14.out.up hB9
  have T1_v15 : Hid (Tn [2, 2] [11, 22, 13, 24] (.agg #[.slice pa1 na1 ca1, .slice pb1 nb1 cb1]) w9) := T1_v14.out.up hB9
  have T2_v15 : Hid (Tn [2, 2] [1, 3, 2, 4] (.agg #[.slice ps2 ns2 cs2, .slice pt2 nt2 ct2]) w9) := T2_v14.out.up hB9
  have X2_v15 : Hid (Cel w9 w2.heap.size (.slice ps2 ns2 cs2) (.slice pt2 nt2 ct2)) := X2_v14.out.up hB9
  have T6_v15 : Hid (Tn [4] [1, 2, 3, 4] (.agg #[.slice ps6 ns6 cs6, .slice pt6 nt6 ct6]) w9) := T6_v14.out.up hB9
  have X6_v15 : Hid (Cel w9 w6.heap.size (.slice ps6 ns6 cs6) (.slice pt6 nt6 ct6)) := X6_v14.out.up hB9
  clear X0_v14 T0_v14 X1_v14 T1_v14 T2_v14 X2_v14 T6_v14 X6_v14
  clear hB9 hs9 ht9
  obtain ⟨x00, x01, _, _⟩ := X0_v15.out
  have x0z := cell_lt x00
  go_wp2_with fail
  generalize hYn : World.alloc _ _ = Y9
  have hY : Below w9.heap.size w9 Y9 := by rw [← hYn]; exact up_alloc _ _
  have HB_Y9 : Hid (Below w.heap.size w Y9) := bstep HB_w9.out hY
  have X0_v16 : Hid (Cel Y9 (wa.heap.size + 1 + 1) (.slice (some ⟨wa.heap.size, 0, none⟩) 2 2) (.slice (some ⟨wa.heap.size + 1, 0, none⟩) 4 4)) := X0_v15.out.up hY
  have T0_v16 : Hid (Tn [2, 2] [1, 2, 3, 4] (.agg #[.slice (some ⟨wa.heap.size, 0, none⟩) 2 2, .slice (some ⟨wa.heap.size + 1, 0, none⟩) 4 4]) Y9) := T0_v15.out.up hY
  have X1_v16 : Hid (Cel Y9 b1 (.slice pa1 na1 ca1) (.slice pb1 nb1 cb1)) := X1_v15.out.up hY
  have T1_v16 : Hid (Tn [2, 2] [11, 22, 13, 24] (.agg #[.slice pa1 na1 ca1, .slice pb1 nb1 cb1]) Y9) := T1_v15.out.up hY
  have T2_v16 : Hid (Tn [2, 2] [1, 3, 2, 4] (.agg #[.slice ps2 ns2 cs2, .slice pt2 nt2 ct2]) Y9) := T2_v15.out.up hY
  have X2_v16 : Hid (Cel Y9 w2.heap.size (.slice ps2 ns2 cs2) (.slice pt2 nt2 ct2)) := X2_v15.out.up hY
  have T6_v16 : Hid (Tn [4] [1, 2, 3, 4] (.agg #[.slice ps6 ns6 cs6, .slice pt6 nt6 ct6]) Y9) := T6_v15.out.up hY
  have X6_v16 : Hid (Cel Y9 w6.heap.size (.slice ps6 ns6 cs6) (.slice pt6 nt6 ct6)) := X6_v15.out.up hY
  clear X0_v15 T0_v15 X1_v15 T1_v15 T2_v15 X2_v15 T6_v15 X6_v15
  clear hYn hY x00 x01 x0z
  clear k9
  have q1 : Hid (∀ W v, Below Y9.heap.size Y9 W → Tn [2, 2] [11, 22, 13, 24] v W → Calls Try.prog 16 #[.agg #[.slice pa1 na1 ca1, .slice pb1 nb1 cb1], v] W fun e w' => e = .returned (.bool true) ∧ Below W.heap.size W w') := fun W v hW hv => by
    have := same_tn (T1_v16.out.up hW) hv (by unfold Few; decide) (by unfold Few; decide)
    rw [decide_eq_true ⟨rfl, rfl⟩] at this
    exact this
  have q2 : Hid (∀ W v, Below Y9.heap.size Y9 W → Tn [2, 2] [1, 3, 2, 4] v W → Calls Try.prog 16 #[.agg #[.slice ps2 ns2 cs2, .slice pt2 nt2 ct2], v] W fun e w' => e = .returned (.bool true) ∧ Below W.heap.size W w') := fun W v hW hv => by
    have := same_tn (T2_v16.out.up hW) hv (by unfold Few; decide) (by unfold Few; decide)
    rw [decide_eq_true ⟨rfl, rfl⟩] at this
    exact this
  have q6 : Hid (∀ W v, Below Y9.heap.size Y9 W → Tn [4] [1, 2, 3, 4] v W → Calls Try.prog 16 #[.agg #[.slice ps6 ns6 cs6, .slice pt6 nt6 ct6], v] W fun e w' => e = .returned (.bool true) ∧ Below W.heap.size W w') := fun W v hW hv => by
    have := same_tn (T6_v16.out.up hW) hv (by unfold Few; decide) (by unfold Few; decide)
    rw [decide_eq_true ⟨rfl, rfl⟩] at this
    exact this
  obtain ⟨x00, x01, _, _⟩ := X0_v16.out
  have x0z := cell_lt x00
  obtain ⟨x10, x11, _, _⟩ := X1_v16.out
  have x1z := cell_lt x10
  obtain ⟨x20, x21, _, _⟩ := X2_v16.out
  have x2z := cell_lt x20
  obtain ⟨x60, x61, _, _⟩ := X6_v16.out
  have x6z := cell_lt x60
  refine rel [⟨4, 85, LitN [2, 2]⟩, ⟨5, 86, LitN [11, 22, 13, 24]⟩, ⟨6, 87, Tn [2, 2] [11, 22, 13, 24]⟩, ⟨15, 96, LitN [2, 2]⟩, ⟨16, 97, LitN [1, 3, 2, 4]⟩, ⟨17, 98, Tn [2, 2] [1, 3, 2, 4]⟩, ⟨38, 119, LitN [1, 2, 3, 4]⟩, ⟨39, 120, RowP [1, 2, 3, 4]⟩] 54 135 (by kernel_rfl) rfl rfl (by kernel_rfl) (by rfl) ?_ ?_
  · intro e he v W W' h hb
    simp only [List.mem_cons, List.not_mem_nil, or_false] at he
    rcases he with rfl | rfl | rfl | rfl | rfl | rfl | rfl | rfl
    · exact LitN.up h hb
    · exact LitN.up h hb
    · exact Tn.up h hb
    · exact LitN.up h hb
    · exact LitN.up h hb
    · exact Tn.up h hb
    · exact LitN.up h hb
    · exact Tn.up h hb
  apply Exists.intro
  refine ⟨fun x => ?_, ?_, ?_⟩
  · simp only [List.take_succ_cons, List.take_zero]
    refine relQuiet rfl rfl ?_
    apply Exists.intro
    refine ⟨fun F hF hf K hK => ?_, ?_⟩
    · have hFc := hF.cell
      have hFf := hF.frozen
      go_big_quiet_op
      first | exact hK | (apply Exists.intro; refine ⟨fun _ => ?_, ?_⟩; (· fail); exact hK)
    (try simp only [Act.put, List.setIfInBounds_toArray, List.set_cons_zero, List.set_cons_succ])
    refine relQuiet rfl rfl ?_
    apply Exists.intro
    refine ⟨fun F hF hf K hK => ?_, ?_⟩
    · have hFc := hF.cell
      have hFf := hF.frozen
      go_big_quiet_op
      first | exact hK | (apply Exists.intro; refine ⟨fun _ => ?_, ?_⟩; (· fail); exact hK)
    (try simp only [Act.put, List.setIfInBounds_toArray, List.set_cons_zero, List.set_cons_succ])
    refine relQuiet rfl rfl ?_
    apply Exists.intro
    refine ⟨fun F hF hf K hK => ?_, ?_⟩
    · have hFc := hF.cell
      have hFf := hF.frozen
      go_big_quiet_op
      first | exact hK | (apply Exists.intro; refine ⟨fun _ => ?_, ?_⟩; (· fail); exact hK)
    (try simp only [Act.put, List.setIfInBounds_toArray, List.set_cons_zero, List.set_cons_succ])
    refine relQuiet rfl rfl ?_
    apply Exists.intro
    refine ⟨fun F hF hf K hK => ?_, ?_⟩
    · have hFc := hF.cell
      have hFf := hF.frozen
      go_big_quiet_op
      first | exact hK | (apply Exists.intro; refine ⟨fun _ => ?_, ?_⟩; (· fail); exact hK)
    (try simp only [Act.put, List.setIfInBounds_toArray, List.set_cons_zero, List.set_cons_succ])
    refine relTold rfl rfl ?_ ?_
    · intro F hF hf d
      have hFc := hF.cell
      have hFf := hF.frozen
      simp [yieldsR, yieldsUpon, go_sem]
      exact ⟨⟨(F d).heap.size, rfl, nums_lit (k := .i64) (F d) [2, 2] 2 (0, 0) rfl⟩, up_alloc _ _⟩
    (try simp only [Act.put, List.setIfInBounds_toArray, List.set_cons_zero, List.set_cons_succ])
    refine relTold rfl rfl ?_ ?_
    · intro F hF hf d
      have hFc := hF.cell
      have hFf := hF.frozen
      simp [yieldsR, yieldsUpon, go_sem]
      exact ⟨⟨(F d).heap.size, rfl, nums_lit (k := .i64) (F d) [11, 22, 13, 24] 4 (0, 0) rfl⟩, up_alloc _ _⟩
    (try simp only [Act.put, List.setIfInBounds_toArray, List.set_cons_zero, List.set_cons_succ])
    refine relTold rfl rfl ?_ ?_
    · intro F hF hf d
      have hFc := hF.cell
      have hFf := hF.frozen
      have h1 := hf _ List.mem_cons_self (by rfl) d
      have h2 := hf _ (List.mem_cons_of_mem _ List.mem_cons_self) (by rfl) d
      obtain ⟨g1, e1, n1⟩ := h1
      obtain ⟨g2, e2, n2⟩ := h2
      simp only [] at e1 e2 n1 n2
      rw [e1] at n1
      rw [e2] at n2
      simp [yieldsR, yieldsUpon, go_sem, e1, e2]
      exact ⟨⟨_, _, _, _, _, _, rfl, n1, n2⟩, Below.refl _ _⟩
    (try simp only [Act.put, List.setIfInBounds_toArray, List.set_cons_zero, List.set_cons_succ])
    refine relQuiet rfl rfl ?_
    apply Exists.intro
    refine ⟨fun F hF hf K hK => ?_, ?_⟩
    · have hFc := hF.cell
      have hFf := hF.frozen
      go_big_quiet_op
      first | exact hK | (apply Exists.intro; refine ⟨fun _ => ?_, ?_⟩; (· exact hF.call (q1.out _ _ (hF.below _) (hf _ (List.mem_cons_of_mem _ (List.mem_cons_of_mem _ List.mem_cons_self)) (by rfl) _))); exact hK)
    (try simp only [Act.put, List.setIfInBounds_toArray, List.set_cons_zero, List.set_cons_succ])
    refine relQuiet rfl rfl ?_
    apply Exists.intro
    refine ⟨fun F hF hf K hK => ?_, ?_⟩
    · have hFc := hF.cell
      have hFf := hF.frozen
      go_big_quiet_op
      first | exact hK | (apply Exists.intro; refine ⟨fun _ => ?_, ?_⟩; (· fail); exact hK)
    (try simp only [Act.put, List.setIfInBounds_toArray, List.set_cons_zero, List.set_cons_succ])
    refine relQuiet rfl rfl ?_
    apply Exists.intro
    refine ⟨fun F hF hf K hK => ?_, ?_⟩
    · have hFc := hF.cell
      have hFf := hF.frozen
      go_big_quiet_op
      first | exact hK | (apply Exists.intro; refine ⟨fun _ => ?_, ?_⟩; (· fail); exact hK)
    (try simp only [Act.put, List.setIfInBounds_toArray, List.set_cons_zero, List.set_cons_succ])
    refine relQuiet rfl rfl ?_
    apply Exists.intro
    refine ⟨fun F hF hf K hK => ?_, ?_⟩
    · have hFc := hF.cell
      have hFf := hF.frozen
      go_big_quiet_op
      first | exact hK | (apply Exists.intro; refine ⟨fun _ => ?_, ?_⟩; (· fail); exact hK)
    (try simp only [Act.put, List.setIfInBounds_toArray, List.set_cons_zero, List.set_cons_succ])
    refine relQuiet rfl rfl ?_
    apply Exists.intro
    refine ⟨fun F hF hf K hK => ?_, ?_⟩
    · have hFc := hF.cell
      have hFf := hF.frozen
      go_big_quiet_op
      first | exact hK | (apply Exists.intro; refine ⟨fun _ => ?_, ?_⟩; (· fail); exact hK)
    (try simp only [Act.put, List.setIfInBounds_toArray, List.set_cons_zero, List.set_cons_succ])
    refine relQuiet rfl rfl ?_
    apply Exists.intro
    refine ⟨fun F hF hf K hK => ?_, ?_⟩
    · have hFc := hF.cell
      have hFf := hF.frozen
      go_big_quiet_op
      first | exact hK | (apply Exists.intro; refine ⟨fun _ => ?_, ?_⟩; (· fail); exact hK)
    (try simp only [Act.put, List.setIfInBounds_toArray, List.set_cons_zero, List.set_cons_succ])
    refine relQuiet rfl rfl ?_
    apply Exists.intro
    refine ⟨fun F hF hf K hK => ?_, ?_⟩
    · have hFc := hF.cell
      have hFf := hF.frozen
      go_big_quiet_op
      first | exact hK | (apply Exists.intro; refine ⟨fun _ => ?_, ?_⟩; (· fail); exact hK)
    (try simp only [Act.put, List.setIfInBounds_toArray, List.set_cons_zero, List.set_cons_succ])
    refine relQuiet rfl rfl ?_
    apply Exists.intro
    refine ⟨fun F hF hf K hK => ?_, ?_⟩
    · have hFc := hF.cell
      have hFf := hF.frozen
      go_big_quiet_op
      first | exact hK | (apply Exists.intro; refine ⟨fun _ => ?_, ?_⟩; (· fail); exact hK)
    (try simp only [Act.put, List.setIfInBounds_toArray, List.set_cons_zero, List.set_cons_succ])
    refine relTold rfl rfl ?_ ?_
    · intro F hF hf d
      have hFc := hF.cell
      have hFf := hF.frozen
      simp [yieldsR, yieldsUpon, go_sem]
      exact ⟨⟨(F d).heap.size, rfl, nums_lit (k := .i64) (F d) [2, 2] 2 (0, 0) rfl⟩, up_alloc _ _⟩
    (try simp only [Act.put, List.setIfInBounds_toArray, List.set_cons_zero, List.set_cons_succ])
    refine relTold rfl rfl ?_ ?_
    · intro F hF hf d
      have hFc := hF.cell
      have hFf := hF.frozen
      simp [yieldsR, yieldsUpon, go_sem]
      exact ⟨⟨(F d).heap.size, rfl, nums_lit (k := .i64) (F d) [1, 3, 2, 4] 4 (0, 0) rfl⟩, up_alloc _ _⟩
    (try simp only [Act.put, List.setIfInBounds_toArray, List.set_cons_zero, List.set_cons_succ])
    refine relTold rfl rfl ?_ ?_
    · intro F hF hf d
      have hFc := hF.cell
      have hFf := hF.frozen
      have h1 := hf _ (List.mem_cons_of_mem _ (List.mem_cons_of_mem _ (List.mem_cons_of_mem _ List.mem_cons_self))) (by rfl) d
      have h2 := hf _ (List.mem_cons_of_mem _ (List.mem_cons_of_mem _ (List.mem_cons_of_mem _ (List.mem_cons_of_mem _ List.mem_cons_self)))) (by rfl) d
      obtain ⟨g1, e1, n1⟩ := h1
      obtain ⟨g2, e2, n2⟩ := h2
      simp only [] at e1 e2 n1 n2
      rw [e1] at n1
      rw [e2] at n2
      simp [yieldsR, yieldsUpon, go_sem, e1, e2]
      exact ⟨⟨_, _, _, _, _, _, rfl, n1, n2⟩, Below.refl _ _⟩
    (try simp only [Act.put, List.setIfInBounds_toArray, List.set_cons_zero, List.set_cons_succ])
    refine relQuiet rfl rfl ?_
    apply Exists.intro
    refine ⟨fun F hF hf K hK => ?_, ?_⟩
    · have hFc := hF.cell
      have hFf := hF.frozen
      go_big_quiet_op
      first | exact hK | (apply Exists.intro; refine ⟨fun _ => ?_, ?_⟩; (· exact hF.call (q2.out _ _ (hF.below _) (hf _ (List.mem_cons_of_mem _ (List.mem_cons_of_mem _ (List.mem_cons_of_mem _ (List.mem_cons_of_mem _ (List.mem_cons_of_mem _ List.mem_cons_self))))) (by rfl) _))); exact hK)
    (try simp only [Act.put, List.setIfInBounds_toArray, List.set_cons_zero, List.set_cons_succ])
    refine relQuiet rfl rfl ?_
    apply Exists.intro
    refine ⟨fun F hF hf K hK => ?_, ?_⟩
    · have hFc := hF.cell
      have hFf := hF.frozen
      go_big_quiet_op
      first | exact hK | (apply Exists.intro; refine ⟨fun _ => ?_, ?_⟩; (· fail); exact hK)
    (try simp only [Act.put, List.setIfInBounds_toArray, List.set_cons_zero, List.set_cons_succ])
    refine relQuiet rfl rfl ?_
    apply Exists.intro
    refine ⟨fun F hF hf K hK => ?_, ?_⟩
    · have hFc := hF.cell
      have hFf := hF.frozen
      go_big_quiet_op
      first | exact hK | (apply Exists.intro; refine ⟨fun _ => ?_, ?_⟩; (· fail); exact hK)
    (try simp only [Act.put, List.setIfInBounds_toArray, List.set_cons_zero, List.set_cons_succ])
    refine relQuiet rfl rfl ?_
    apply Exists.intro
    refine ⟨fun F hF hf K hK => ?_, ?_⟩
    · have hFc := hF.cell
      have hFf := hF.frozen
      go_big_quiet_op
      first | exact hK | (apply Exists.intro; refine ⟨fun _ => ?_, ?_⟩; (· fail); exact hK)
    (try simp only [Act.put, List.setIfInBounds_toArray, List.set_cons_zero, List.set_cons_succ])
    refine relQuiet rfl rfl ?_
    apply Exists.intro
    refine ⟨fun F hF hf K hK => ?_, ?_⟩
    · have hFc := hF.cell
      have hFf := hF.frozen
      go_big_quiet_op
      first | exact hK | (apply Exists.intro; refine ⟨fun _ => ?_, ?_⟩; (· fail); exact hK)
    (try simp only [Act.put, List.setIfInBounds_toArray, List.set_cons_zero, List.set_cons_succ])
    refine relQuiet rfl rfl ?_
    apply Exists.intro
    refine ⟨fun F hF hf K hK => ?_, ?_⟩
    · have hFc := hF.cell
      have hFf := hF.frozen
      go_big_quiet_op
      first | exact hK | (apply Exists.intro; refine ⟨fun _ => ?_, ?_⟩; (· fail); exact hK)
    (try simp only [Act.put, List.setIfInBounds_toArray, List.set_cons_zero, List.set_cons_succ])
    refine relQuiet rfl rfl ?_
    apply Exists.intro
    refine ⟨fun F hF hf K hK => ?_, ?_⟩
    · have hFc := hF.cell
      have hFf := hF.frozen
      go_big_quiet_op
      first | exact hK | (apply Exists.intro; refine ⟨fun _ => ?_, ?_⟩; (· fail); exact hK)
    (try simp only [Act.put, List.setIfInBounds_toArray, List.set_cons_zero, List.set_cons_succ])
    refine relQuiet rfl rfl ?_
    apply Exists.intro
    refine ⟨fun F hF hf K hK => ?_, ?_⟩
    · have hFc := hF.cell
      have hFf := hF.frozen
      go_big_quiet_op
      first | exact hK | (apply Exists.intro; refine ⟨fun _ => ?_, ?_⟩; (· fail); exact hK)
    (try simp only [Act.put, List.setIfInBounds_toArray, List.set_cons_zero, List.set_cons_succ])
    refine relQuiet rfl rfl ?_
    apply Exists.intro
    refine ⟨fun F hF hf K hK => ?_, ?_⟩
    · have hFc := hF.cell
      have hFf := hF.frozen
      go_big_quiet_op
      first | exact hK | (apply Exists.intro; refine ⟨fun _ => ?_, ?_⟩; (· fail); exact hK)
    (try simp only [Act.put, List.setIfInBounds_toArray, List.set_cons_zero, List.set_cons_succ])
    refine relQuiet rfl rfl ?_
    apply Exists.intro
    refine ⟨fun F hF hf K hK => ?_, ?_⟩
    · have hFc := hF.cell
      have hFf := hF.frozen
      go_big_quiet_op
      first | exact hK | (apply Exists.intro; refine ⟨fun _ => ?_, ?_⟩; (· fail); exact hK)
    (try simp only [Act.put, List.setIfInBounds_toArray, List.set_cons_zero, List.set_cons_succ])
    refine relQuiet rfl rfl ?_
    apply Exists.intro
    refine ⟨fun F hF hf K hK => ?_, ?_⟩
    · have hFc := hF.cell
      have hFf := hF.frozen
      go_big_quiet_op
      first | exact hK | (apply Exists.intro; refine ⟨fun _ => ?_, ?_⟩; (· fail); exact hK)
    (try simp only [Act.put, List.setIfInBounds_toArray, List.set_cons_zero, List.set_cons_succ])
    refine relQuiet rfl rfl ?_
    apply Exists.intro
    refine ⟨fun F hF hf K hK => ?_, ?_⟩
    · have hFc := hF.cell
      have hFf := hF.frozen
      go_big_quiet_op
      first | exact hK | (apply Exists.intro; refine ⟨fun _ => ?_, ?_⟩; (· fail); exact hK)
    (try simp only [Act.put, List.setIfInBounds_toArray, List.set_cons_zero, List.set_cons_succ])
    refine relQuiet rfl rfl ?_
    apply Exists.intro
    refine ⟨fun F hF hf K hK => ?_, ?_⟩
    · have hFc := hF.cell
      have hFf := hF.frozen
      go_big_quiet_op
      first | exact hK | (apply Exists.intro; refine ⟨fun _ => ?_, ?_⟩; (· fail); exact hK)
    (try simp only [Act.put, List.setIfInBounds_toArray, List.set_cons_zero, List.set_cons_succ])
    refine relQuiet rfl rfl ?_
    apply Exists.intro
    refine ⟨fun F hF hf K hK => ?_, ?_⟩
    · have hFc := hF.cell
      have hFf := hF.frozen
      go_big_quiet_op
      first | exact hK | (apply Exists.intro; refine ⟨fun _ => ?_, ?_⟩; (· fail); exact hK)
    (try simp only [Act.put, List.setIfInBounds_toArray, List.set_cons_zero, List.set_cons_succ])
    refine relQuiet rfl rfl ?_
    apply Exists.intro
    refine ⟨fun F hF hf K hK => ?_, ?_⟩
    · have hFc := hF.cell
      have hFf := hF.frozen
      go_big_quiet_op
      first | exact hK | (apply Exists.intro; refine ⟨fun _ => ?_, ?_⟩; (· fail); exact hK)
    (try simp only [Act.put, List.setIfInBounds_toArray, List.set_cons_zero, List.set_cons_succ])
    refine relQuiet rfl rfl ?_
    apply Exists.intro
    refine ⟨fun F hF hf K hK => ?_, ?_⟩
    · have hFc := hF.cell
      have hFf := hF.frozen
      go_big_quiet_op
      first | exact hK | (apply Exists.intro; refine ⟨fun _ => ?_, ?_⟩; (· fail); exact hK)
    (try simp only [Act.put, List.setIfInBounds_toArray, List.set_cons_zero, List.set_cons_succ])
    refine relQuiet rfl rfl ?_
    apply Exists.intro
    refine ⟨fun F hF hf K hK => ?_, ?_⟩
    · have hFc := hF.cell
      have hFf := hF.frozen
      go_big_quiet_op
      first | exact hK | (apply Exists.intro; refine ⟨fun _ => ?_, ?_⟩; (· fail); exact hK)
    (try simp only [Act.put, List.setIfInBounds_toArray, List.set_cons_zero, List.set_cons_succ])
    refine relQuiet rfl rfl ?_
    apply Exists.intro
    refine ⟨fun F hF hf K hK => ?_, ?_⟩
    · have hFc := hF.cell
      have hFf := hF.frozen
      go_big_quiet_op
      first | exact hK | (apply Exists.intro; refine ⟨fun _ => ?_, ?_⟩; (· fail); exact hK)
    (try simp only [Act.put, List.setIfInBounds_toArray, List.set_cons_zero, List.set_cons_succ])
    refine relQuiet rfl rfl ?_
    apply Exists.intro
    refine ⟨fun F hF hf K hK => ?_, ?_⟩
    · have hFc := hF.cell
      have hFf := hF.frozen
      go_big_quiet_op
      first | exact hK | (apply Exists.intro; refine ⟨fun _ => ?_, ?_⟩; (· fail); exact hK)
    (try simp only [Act.put, List.setIfInBounds_toArray, List.set_cons_zero, List.set_cons_succ])
    refine relQuiet rfl rfl ?_
    apply Exists.intro
    refine ⟨fun F hF hf K hK => ?_, ?_⟩
    · have hFc := hF.cell
      have hFf := hF.frozen
      go_big_quiet_op
      first | exact hK | (apply Exists.intro; refine ⟨fun _ => ?_, ?_⟩; (· fail); exact hK)
    (try simp only [Act.put, List.setIfInBounds_toArray, List.set_cons_zero, List.set_cons_succ])
    refine relTold rfl rfl ?_ ?_
    · intro F hF hf d
      have hFc := hF.cell
      have hFf := hF.frozen
      simp [yieldsR, yieldsUpon, go_sem]
      exact ⟨⟨(F d).heap.size, rfl, nums_lit (k := .i64) (F d) [1, 2, 3, 4] 4 (0, 0) rfl⟩, up_alloc _ _⟩
    (try simp only [Act.put, List.setIfInBounds_toArray, List.set_cons_zero, List.set_cons_succ])
    refine relTold rfl rfl ?_ ?_
    · intro F hF hf d
      have hFc := hF.cell
      have hFf := hF.frozen
      have h9 := hf _ (List.mem_cons_of_mem _ (List.mem_cons_of_mem _ (List.mem_cons_of_mem _ (List.mem_cons_of_mem _ (List.mem_cons_of_mem _ (List.mem_cons_of_mem _ List.mem_cons_self)))))) (by rfl) d
      obtain ⟨g9, e9, n9⟩ := h9
      simp only [] at e9 n9
      rw [e9] at n9
      simp [yieldsR, yieldsUpon, go_sem, e9]
      refine (row_tn _ 4 4 [1, 2, 3, 4] rfl (F d) n9).mono ?_
      rintro e' w8 ⟨v8, rfl, h8, hb8⟩
      exact ⟨_, rfl, h8, hb8⟩
    (try simp only [Act.put, List.setIfInBounds_toArray, List.set_cons_zero, List.set_cons_succ])
    refine relQuiet rfl rfl ?_
    apply Exists.intro
    refine ⟨fun F hF hf K hK => ?_, ?_⟩
    · have hFc := hF.cell
      have hFf := hF.frozen
      go_big_quiet_op
      first | exact hK | (apply Exists.intro; refine ⟨fun _ => ?_, ?_⟩; (· exact hF.call (q6.out _ _ (hF.below _) (hf _ (List.mem_cons_of_mem _ (List.mem_cons_of_mem _ (List.mem_cons_of_mem _ (List.mem_cons_of_mem _ (List.mem_cons_of_mem _ (List.mem_cons_of_mem _ (List.mem_cons_of_mem _ List.mem_cons_self))))))) (by rfl) _))); exact hK)
    (try simp only [Act.put, List.setIfInBounds_toArray, List.set_cons_zero, List.set_cons_succ])
    refine relQuiet rfl rfl ?_
    apply Exists.intro
    refine ⟨fun F hF hf K hK => ?_, ?_⟩
    · have hFc := hF.cell
      have hFf := hF.frozen
      go_big_quiet_op
      first | exact hK | (apply Exists.intro; refine ⟨fun _ => ?_, ?_⟩; (· fail); exact hK)
    (try simp only [Act.put, List.setIfInBounds_toArray, List.set_cons_zero, List.set_cons_succ])
    refine relQuiet rfl rfl ?_
    apply Exists.intro
    refine ⟨fun F hF hf K hK => ?_, ?_⟩
    · have hFc := hF.cell
      have hFf := hF.frozen
      go_big_quiet_op
      first | exact hK | (apply Exists.intro; refine ⟨fun _ => ?_, ?_⟩; (· fail); exact hK)
    (try simp only [Act.put, List.setIfInBounds_toArray, List.set_cons_zero, List.set_cons_succ])
    refine relQuiet rfl rfl ?_
    apply Exists.intro
    refine ⟨fun F hF hf K hK => ?_, ?_⟩
    · have hFc := hF.cell
      have hFf := hF.frozen
      go_big_quiet_op
      first | exact hK | (apply Exists.intro; refine ⟨fun _ => ?_, ?_⟩; (· fail); exact hK)
    (try simp only [Act.put, List.setIfInBounds_toArray, List.set_cons_zero, List.set_cons_succ])
    refine relQuiet rfl rfl ?_
    apply Exists.intro
    refine ⟨fun F hF hf K hK => ?_, ?_⟩
    · have hFc := hF.cell
      have hFf := hF.frozen
      go_big_quiet_op
      first | exact hK | (apply Exists.intro; refine ⟨fun _ => ?_, ?_⟩; (· fail); exact hK)
    (try simp only [Act.put, List.setIfInBounds_toArray, List.set_cons_zero, List.set_cons_succ])
    refine relQuiet rfl rfl ?_
    apply Exists.intro
    refine ⟨fun F hF hf K hK => ?_, ?_⟩
    · have hFc := hF.cell
      have hFf := hF.frozen
      go_big_quiet_op
      first | exact hK | (apply Exists.intro; refine ⟨fun _ => ?_, ?_⟩; (· fail); exact hK)
    (try simp only [Act.put, List.setIfInBounds_toArray, List.set_cons_zero, List.set_cons_succ])
    refine relQuiet rfl rfl ?_
    apply Exists.intro
    refine ⟨fun F hF hf K hK => ?_, ?_⟩
    · have hFc := hF.cell
      have hFf := hF.frozen
      go_big_quiet_op
      first | exact hK | (apply Exists.intro; refine ⟨fun _ => ?_, ?_⟩; (· fail); exact hK)
    (try simp only [Act.put, List.setIfInBounds_toArray, List.set_cons_zero, List.set_cons_succ])
    refine relQuiet rfl rfl ?_
    apply Exists.intro
    refine ⟨fun F hF hf K hK => ?_, ?_⟩
    · have hFc := hF.cell
      have hFf := hF.frozen
      go_big_quiet_op
      first | exact hK | (apply Exists.intro; refine ⟨fun _ => ?_, ?_⟩; (· fail); exact hK)
    (try simp only [Act.put, List.setIfInBounds_toArray, List.set_cons_zero, List.set_cons_succ])
    refine relQuiet rfl rfl ?_
    apply Exists.intro
    refine ⟨fun F hF hf K hK => ?_, ?_⟩
    · have hFc := hF.cell
      have hFf := hF.frozen
      go_big_quiet_op
      first | exact hK | (apply Exists.intro; refine ⟨fun _ => ?_, ?_⟩; (· fail); exact hK)
    (try simp only [Act.put, List.setIfInBounds_toArray, List.set_cons_zero, List.set_cons_succ])
    refine relQuiet rfl rfl ?_
    apply Exists.intro
    refine ⟨fun F hF hf K hK => ?_, ?_⟩
    · have hFc := hF.cell
      have hFf := hF.frozen
      go_big_quiet_op
      first | exact hK | (apply Exists.intro; refine ⟨fun _ => ?_, ?_⟩; (· fail); exact hK)
    (try simp only [Act.put, List.setIfInBounds_toArray, List.set_cons_zero, List.set_cons_succ])
    refine relQuiet rfl rfl ?_
    apply Exists.intro
    refine ⟨fun F hF hf K hK => ?_, ?_⟩
    · have hFc := hF.cell
      have hFf := hF.frozen
      go_big_quiet_op
      first | exact hK | (apply Exists.intro; refine ⟨fun _ => ?_, ?_⟩; (· fail); exact hK)
    (try simp only [Act.put, List.setIfInBounds_toArray, List.set_cons_zero, List.set_cons_succ])
    refine relQuiet rfl rfl ?_
    apply Exists.intro
    refine ⟨fun F hF hf K hK => ?_, ?_⟩
    · have hFc := hF.cell
      have hFf := hF.frozen
      go_big_quiet_op
      first | exact hK | (apply Exists.intro; refine ⟨fun _ => ?_, ?_⟩; (· fail); exact hK)
    (try simp only [Act.put, List.setIfInBounds_toArray, List.set_cons_zero, List.set_cons_succ])
    refine relQuiet rfl rfl ?_
    apply Exists.intro
    refine ⟨fun F hF hf K hK => ?_, ?_⟩
    · have hFc := hF.cell
      have hFf := hF.frozen
      go_big_quiet_op
      first | exact hK | (apply Exists.intro; refine ⟨fun _ => ?_, ?_⟩; (· fail); exact hK)
    (try simp only [Act.put, List.setIfInBounds_toArray, List.set_cons_zero, List.set_cons_succ])
    refine relQuiet rfl rfl ?_
    apply Exists.intro
    refine ⟨fun F hF hf K hK => ?_, ?_⟩
    · have hFc := hF.cell
      have hFf := hF.frozen
      go_big_quiet_op
      first | exact hK | (apply Exists.intro; refine ⟨fun _ => ?_, ?_⟩; (· fail); exact hK)
    (try simp only [Act.put, List.setIfInBounds_toArray, List.set_cons_zero, List.set_cons_succ])
    refine relEnd ?_
    exact rfl
  · intro x
    simp only [putsK, List.foldl_cons, List.foldl_nil, Act.put, List.setIfInBounds_toArray, List.set_cons_zero, List.set_cons_succ]
  · intro wz xs hBz hf
    simp only [List.drop_succ_cons, List.drop_zero]
    have HBz : Hid (Below w.heap.size w wz) := bstep HB_Y9.out hBz
    clear hf hBz
    go_wp2
    go_ret
    exact ⟨rfl, HBz.out⟩
end Go.Proofs.Ytbndiadgnglkhaa.Wd
