/- Sums of products, exact however great they grow, that lie in four cells of a block: what exact.Sum's Add and Fix do. -/
import Derived.Test.YthcfeiddbffcfaaDoorLie
import Derived.Test.YthcfeiddbffcfaaDoorMtM
import Derived.Test.YthcfeiddbffcfaaDoorTenA
namespace Go.Proofs.YthcfeiddbffcfaaDoor.Wd
open Go.RowKit Fx
set_option linter.unusedVariables false
set_option linter.unusedSimpArgs false
attribute [local go_sem] fld_hi fld_lo
theorem Hid.up_tz {w w1 : World} (h : Hid (Tz w)) (hb : Below w.heap.size w w1) : Hid (Tz w1) := h.out.up hb
theorem hold_above (T : Int) : hold (rqI (hold (T / 18446744073709551616) * 18446744073709551616 + T % 18446744073709551616) 4294967296) = rnd T := by
  unfold rnd
  by_cases h : InR (T / 18446744073709551616)
  · rw [hold_in h.1 h.2]
    congr 2
    omega
  · unfold InR at h
    unfold rqI hold
    split <;> split <;> (try split) <;> (try split) <;> (try split) <;> (try split) <;> (try split) <;> (try split) <;> omega
/-- A number of 128 bits that lies in two cells of a block, from o on, which may be written. -/
def LieA (W : World) (b o : Nat) (x : Int) : Prop :=
  b < W.heap.size ∧ W.cell? ⟨b, o, none⟩ = some (.int .i64 (x / 18446744073709551616)) ∧ W.cell? ⟨b, o + 1, none⟩ = some (.int .u64 (x % 18446744073709551616)) ∧ W.frozen? ⟨b, o, none⟩ = false ∧ W.frozen? ⟨b, o + 1, none⟩ = false
theorem LieA.up {W W' : World} {b o : Nat} {x : Int} (h : LieA W b o x) (hb : Below W.heap.size W W') : LieA W' b o x :=
  ⟨Nat.lt_of_lt_of_le h.1 hb.size, keep hb h.2.1, keep hb h.2.2.1, keepf hb h.2.1 h.2.2.2.1, keepf hb h.2.2.1 h.2.2.2.2⟩
theorem LieA.words {W : World} {b o : Nat} {x h l : Int} (H : LieA W b o x) (e : x = h * 18446744073709551616 + l) (l1 : 0 ≤ l) (l2 : l ≤ 18446744073709551615) : W.cell? ⟨b, o, none⟩ = some (.int .i64 h) ∧ W.cell? ⟨b, o + 1, none⟩ = some (.int .u64 l) := by
  refine ⟨?_, ?_⟩
  · rw [H.2.1, show x / 18446744073709551616 = h by omega]
  · rw [H.2.2.1, show x % 18446744073709551616 = l by omega]
theorem two_at (W : World) (b o : Nat) (x0 x1 : Value) {y0 y1 : Value} (h0 : W.cell? ⟨b, o, none⟩ = some y0) (h1 : W.cell? ⟨b, o + 1, none⟩ = some y1) :
    ((W.setCell ⟨b, o, none⟩ x0).setCell ⟨b, o + 1, none⟩ x1).cell? ⟨b, o, none⟩ = some x0 ∧ ((W.setCell ⟨b, o, none⟩ x0).setCell ⟨b, o + 1, none⟩ x1).cell? ⟨b, o + 1, none⟩ = some x1 := by
  refine ⟨?_, ?_⟩
  · rw [wset_off (by omega)]; exact wset_same h0
  · exact wset_same (by rw [wset_off (by omega)]; exact h1)
theorem LieA.set {W : World} {b o : Nat} {x y yh yl : Int} (h : LieA W b o x) (eh : yh = y / 18446744073709551616) (el : yl = y % 18446744073709551616) : LieA ((W.setCell ⟨b, o, none⟩ (.int .i64 yh)).setCell ⟨b, o + 1, none⟩ (.int .u64 yl)) b o y := by
  obtain ⟨f0, f1⟩ := two_at W b o (.int .i64 yh) (.int .u64 yl) h.2.1 h.2.2.1
  refine ⟨by simpa using h.1, ?_, ?_, ?_, ?_⟩
  · rw [f0, eh]
  · rw [f1, el]
  · rw [frozen_set, frozen_set]; exact h.2.2.2.1
  · rw [frozen_set, frozen_set]; exact h.2.2.2.2
theorem LieA.off {W : World} {b o p : Nat} {x : Int} {y0 y1 : Value} (h : LieA W b o x) (hne : o + 1 < p ∨ p + 1 < o) : LieA ((W.setCell ⟨b, p, none⟩ y0).setCell ⟨b, p + 1, none⟩ y1) b o x := by
  refine ⟨by simpa using h.1, ?_, ?_, ?_, ?_⟩
  · rw [wset_off (by omega), wset_off (by omega)]; exact h.2.1
  · rw [wset_off (by omega), wset_off (by omega)]; exact h.2.2.1
  · rw [frozen_set, frozen_set]; exact h.2.2.2.1
  · rw [frozen_set, frozen_set]; exact h.2.2.2.2
/-- All stands but the four cells of the block b from o on. -/
structure Near (b o : Nat) (W W' : World) : Prop where
  below : Below b W W'
  stay : Stay b W W'
  cell : ∀ i, (i < o ∨ o + 4 ≤ i) → W'.cell? ⟨b, i, none⟩ = W.cell? ⟨b, i, none⟩
  frozen : ∀ i, W'.frozen? ⟨b, i, none⟩ = W.frozen? ⟨b, i, none⟩
theorem Near.of {b o : Nat} {W W' : World} (h : Below W.heap.size W W') (hb : b < W.heap.size) : Near b o W W' :=
  ⟨h.mono (Nat.le_of_lt hb), Stay.of h, fun i _ => (bcell h).1 _ _ hb, fun i => (bcell h).2 _ _ hb⟩
theorem Near.trans {b o : Nat} {A B C : World} (h : Near b o A B) (k : Near b o B C) : Near b o A C :=
  ⟨h.below.trans k.below, h.stay.trans k.stay, fun i hi => (k.cell i hi).trans (h.cell i hi), fun i => (k.frozen i).trans (h.frozen i)⟩
theorem Near.set {b o : Nat} (W : World) (j : Nat) (x : Value) (h1 : o ≤ j) (h2 : j < o + 4) : Near b o W (W.setCell ⟨b, j, none⟩ x) :=
  ⟨(Below.refl b W).setCell (p := ⟨b, j, none⟩) (Nat.le_refl _) x, (Stay.refl b W).set j x, fun i hi => wset_off (by omega), fun i => frozen_set _ _ _ _⟩
theorem LieA.near {W W' : World} {b o p : Nat} {x : Int} (h : LieA W b p x) (hn : Near b o W W') (hp : p + 1 < o ∨ o + 4 ≤ p) : LieA W' b p x :=
  ⟨Nat.lt_of_lt_of_le h.1 hn.below.size, by rw [hn.cell _ (by omega)]; exact h.2.1, by rw [hn.cell _ (by omega)]; exact h.2.2.1, by rw [hn.frozen]; exact h.2.2.2.1, by rw [hn.frozen]; exact h.2.2.2.2⟩
/-- A sum of products, at most m of them, in four cells. -/
def SumAt (W : World) (b o m : Nat) (T : Int) : Prop :=
  ∃ A B : Int, A * 18446744073709551616 + B = T ∧ -(4611686018427387904 * (m : Int)) ≤ A ∧ A ≤ 4611686018427387904 * (m : Int) ∧ 0 ≤ B ∧ B ≤ 18446744073709551616 * (m : Int) ∧ LieA W b o A ∧ LieA W b (o + 2) B
theorem SumAt.up {W W' : World} {b o m : Nat} {T : Int} (h : SumAt W b o m T) (hb : Below W.heap.size W W') : SumAt W' b o m T := by
  obtain ⟨A, B, e, h1, h2, h3, h4, h5, h6⟩ := h
  exact ⟨A, B, e, h1, h2, h3, h4, h5.up hb, h6.up hb⟩
theorem SumAt.near {W W' : World} {b o p m : Nat} {T : Int} (h : SumAt W b p m T) (hn : Near b o W W') (hp : p + 4 ≤ o ∨ o + 4 ≤ p) : SumAt W' b p m T := by
  obtain ⟨A, B, e, h1, h2, h3, h4, h5, h6⟩ := h
  exact ⟨A, B, e, h1, h2, h3, h4, h5.near hn (by omega), h6.near hn (by omega)⟩
theorem SumAt.more {W : World} {b o m k : Nat} {T : Int} (h : SumAt W b o m T) (hk : m ≤ k) : SumAt W b o k T := by
  obtain ⟨A, B, e, h1, h2, h3, h4, h5, h6⟩ := h
  exact ⟨A, B, e, by omega, by omega, h3, by omega, h5, h6⟩
theorem SumAt.lt {W : World} {b o m : Nat} {T : Int} (h : SumAt W b o m T) : b < W.heap.size := by
  obtain ⟨A, B, e, h1, h2, h3, h4, h5, h6⟩ := h
  exact h5.1
set_option maxRecDepth 8000 in
set_option maxHeartbeats 8000000 in
theorem sadd_any (b o m : Nat) (T X Y : Int) (hm : m ≤ 1073741824) (hX : InR X) (hY : InR Y) (w : World) (hS : Hid (SumAt w b o m T)) :
    Calls Tryd.prog 36 #[.pointer (some ⟨b, o, none⟩), .int .i64 X, .int .i64 Y] w fun e w' => e = .returned (.tuple #[]) ∧ SumAt w' b o (m + 1) (T + X * Y) ∧ Near b o w w' := by
  obtain ⟨A, B, eT, rA1, rA2, rB1, rB2, LA, LB⟩ := hS.out
  have hP := prod_rng hX hY
  have cPr0 := fun W => prod_any X Y hX hY W
  obtain ⟨Pr, eP⟩ : ∃ P, X * Y = P := ⟨_, rfl⟩
  rw [eP] at hP cPr0 ⊢
  obtain ⟨ph, pl, ep, p1, p2_, p3, p4, Hp⟩ := words (v := Pr) (by unfold InW; omega)
  have hm' : (m : Int) ≤ 1073741824 := by omega
  have wph : InR ph := ⟨by omega, by omega⟩
  have hph : -4611686018427387904 ≤ ph ∧ ph ≤ 4611686018427387904 := by have := Hp.out; omega
  obtain ⟨oh, ol, eo, o1, o2_, o3, o4, Ho⟩ := words (InR.w wph)
  obtain ⟨ah, al, ea, a1, a2, a3, a4, Ha⟩ := words (v := A) (by unfold InW; omega)
  obtain ⟨ah', al', ea', a1', a2', a3', a4', Ha'⟩ := words (v := A + ph) (by unfold InW; omega)
  obtain ⟨bh, bl, eb, b1, b2, b3, b4, Hb⟩ := words (v := B) (by unfold InW; omega)
  obtain ⟨bh', bl', eb', b1', b2', b3', b4', Hb'⟩ := words (v := B + pl) (by unfold InW; omega)
  have el : wd pl = .agg #[.int .i64 0, .int .u64 pl] := (wd_eq (by omega) (by omega)).symm
  have cPr : ∀ W : World, Calls Tryd.prog 65 #[.int .i64 X, .int .i64 Y] W fun e w' => e = .returned (.agg #[.int .i64 ph, .int .u64 pl]) ∧ Below W.heap.size W w' := by
    intro W; have := cPr0 W; rw [ep] at this; exact this
  have cOf : ∀ W : World, Calls Tryd.prog 57 #[.int .i64 ph] W fun e w' => e = .returned (.agg #[.int .i64 oh, .int .u64 ol]) ∧ Below W.heap.size W w' := by
    intro W; have := of_any ph wph W; rw [eo] at this; exact this
  have cA : ∀ W : World, Calls Tryd.prog 59 #[.agg #[.int .i64 ah, .int .u64 al], .agg #[.int .i64 oh, .int .u64 ol]] W fun e w' => e = .returned (.agg #[.int .i64 ah', .int .u64 al']) ∧ Below W.heap.size W w' := by
    intro W; have := add_in A ph (by unfold InW; omega) (InR.w wph) (by unfold InW; omega) W; rw [ea, eo, ea'] at this; exact this
  have cB : ∀ W : World, Calls Tryd.prog 59 #[.agg #[.int .i64 bh, .int .u64 bl], .agg #[.int .i64 0, .int .u64 pl]] W fun e w' => e = .returned (.agg #[.int .i64 bh', .int .u64 bl']) ∧ Below W.heap.size W w' := by
    intro W; have := add_in B pl (by unfold InW; omega) (by unfold InW; omega) (by unfold InW; omega) W; rw [eb, el, eb'] at this; exact this
  have HL : Hid (LieA w b o A ∧ LieA w b (o + 2) B) := ⟨LA, LB⟩
  have HF : Hid (∀ w', LieA w' b o (A + ph) → LieA w' b (o + 2) (B + pl) → SumAt w' b o (m + 1) (T + Pr)) := fun w' h1 h2 => ⟨A + ph, B + pl, by have := Hp.out; omega, by push_cast; omega, by push_cast; omega, by omega, by push_cast; omega, h1, h2⟩
  clear eP hP cPr0 ep eo ea ea' eb eb' el wph rA1 rA2 rB1 rB2 LA LB eT hS hm hm' hX hY hph
  haveI : Nonempty World := ⟨w⟩
  go_enter Tryd.func36, Tryd.ntmps36
  go_wp2_with fail
  refine (cPr _).mono ?_
  rintro e w1 ⟨rfl, hB1⟩
  clear cPr
  go_wp2_with fail
  generalize hW1 : World.alloc _ _ = W1
  have hC1 : Below w1.heap.size w1 W1 := by rw [← hW1]; exact up_alloc w1 _
  have e0 : W1.cell? ⟨w1.heap.size, 0, none⟩ = some (.int .i64 ph) := by rw [← hW1]; simp [go_sem]
  have e1 : W1.cell? ⟨w1.heap.size, 1, none⟩ = some (.int .u64 pl) := by rw [← hW1]; simp [go_sem]
  have hB : Below w.heap.size w W1 := hB1.trans (hC1.mono hB1.size)
  have HN : Hid (LieA W1 b o A ∧ LieA W1 b (o + 2) B ∧ Near b o w W1) := ⟨HL.out.1.up hB, HL.out.2.up hB, Near.of hB HL.out.1.1⟩
  obtain ⟨G, eG⟩ : ∃ G, w1.heap.size = G := ⟨_, rfl⟩
  have hbG : b < G := by rw [← eG]; exact Nat.lt_of_lt_of_le HL.out.1.1 hB1.size
  rw [eG] at e0 e1 ⊢
  have HG : Hid (b < G ∧ W1.cell? ⟨G, 0, none⟩ = some (.int .i64 ph) ∧ W1.cell? ⟨G, 1, none⟩ = some (.int .u64 pl)) := ⟨hbG, e0, e1⟩
  clear hW1 hC1 hB hB1 eG HL
  obtain ⟨c0, c1⟩ := HN.out.1.words Ha.out a3 a4
  have u0 := wcell_lt c0
  have u1 := wcell_lt e0
  refine flow 11 32 (by kernel_rfl) rfl rfl (by kernel_rfl) ?_
  apply Exists.intro
  refine ⟨?_, ?_⟩
  · intro F hF
    have hFc := hF.cell
    have hFf := hF.frozen
    simp only [List.take_succ_cons, List.take_zero, List.eraseIdx_cons_succ, List.eraseIdx_cons_zero]
    repeat (go_big_quiet_step (first | (go_at_call 57; with_reducible exact hF.call (cOf _)) | (go_at_call 59; with_reducible exact hF.call (cA _))))
    refine wpQuiet_nil ?_
    exact rfl
  intro W2 hW2
  simp only [List.drop_succ_cons, List.drop_zero]
  have M := HN.out.1.up hW2
  have N1 := M.set (y := A + ph) (yh := ah') (yl := al') (by have := Ha'.out; omega) (by have := Ha'.out; omega)
  have N2 := (HN.out.2.1.up hW2).off (p := o) (y0 := .int .i64 ah') (y1 := .int .u64 al') (by omega)
  have N3 := ((HN.out.2.2.trans (Near.of hW2 HN.out.1.1)).trans (Near.set W2 o (.int .i64 ah') (by omega) (by omega))).trans (Near.set _ (o + 1) (.int .u64 al') (by omega) (by omega))
  have N4 : ((W2.setCell ⟨b, o, none⟩ (.int .i64 ah')).setCell ⟨b, o + 1, none⟩ (.int .u64 al')).cell? ⟨G, 0, none⟩ = some (.int .i64 ph) ∧ ((W2.setCell ⟨b, o, none⟩ (.int .i64 ah')).setCell ⟨b, o + 1, none⟩ (.int .u64 al')).cell? ⟨G, 1, none⟩ = some (.int .u64 pl) := by
    have := HG.out.1
    refine ⟨?_, ?_⟩
    · rw [cell_off (by omega), cell_off (by omega)]; exact keep hW2 HG.out.2.1
    · rw [cell_off (by omega), cell_off (by omega)]; exact keep hW2 HG.out.2.2
  obtain ⟨g0, g1, g2, g3, g4⟩ := M
  clear hW2 c0 c1 u0 u1 cOf cA hbG e0 e1 HN
  go_wp2_with fail
  refine name_world (fun W3 hW3 => ?_)
  rw [← hW3] at N1 N2 N3 N4
  clear hW3 g0 g1 g2 g3 g4
  have HN : Hid (LieA W3 b o (A + ph) ∧ LieA W3 b (o + 2) B ∧ Near b o w W3) := ⟨N1, N2, N3⟩
  obtain ⟨c0, c1⟩ := N2.words Hb.out b3 b4
  obtain ⟨d0, d1⟩ := N4
  have u0 := wcell_lt c0
  have u1 := wcell_lt d0
  clear N1 N2 N3
  refine flow 11 32 (by kernel_rfl) rfl rfl (by kernel_rfl) ?_
  apply Exists.intro
  refine ⟨?_, ?_⟩
  · intro F hF
    have hFc := hF.cell
    have hFf := hF.frozen
    simp only [List.take_succ_cons, List.take_zero, List.eraseIdx_cons_succ, List.eraseIdx_cons_zero]
    repeat (go_big_quiet_step (first | (go_at_call 59; with_reducible exact hF.call (cB _))))
    refine wpQuiet_nil ?_
    exact rfl
  intro W4 hW4
  simp only [List.drop_succ_cons, List.drop_zero]
  have M := HN.out.2.1.up hW4
  have N1 := M.set (y := B + pl) (yh := bh') (yl := bl') (by have := Hb'.out; omega) (by have := Hb'.out; omega)
  have N2 := (HN.out.1.up hW4).off (p := o + 2) (y0 := .int .i64 bh') (y1 := .int .u64 bl') (by omega)
  have N3 := ((HN.out.2.2.trans (Near.of hW4 HN.out.1.1)).trans (Near.set W4 (o + 2) (.int .i64 bh') (by omega) (by omega))).trans (Near.set _ (o + 2 + 1) (.int .u64 bl') (by omega) (by omega))
  have HE : Hid (SumAt ((W4.setCell ⟨b, o + 2, none⟩ (.int .i64 bh')).setCell ⟨b, o + 2 + 1, none⟩ (.int .u64 bl')) b o (m + 1) (T + Pr) ∧ Near b o w ((W4.setCell ⟨b, o + 2, none⟩ (.int .i64 bh')).setCell ⟨b, o + 2 + 1, none⟩ (.int .u64 bl'))) := ⟨HF.out _ N2 N1, N3⟩
  obtain ⟨g0, g1, g2, g3, g4⟩ := M
  clear hW4 c0 c1 d0 d1 u0 u1 cB HN N1 N2 N3 HF HG
  go_wp2
  go_end0
  exact ⟨rfl, HE.out⟩
set_option maxRecDepth 8000 in
set_option maxHeartbeats 8000000 in
theorem sfix_any (b o m : Nat) (T : Int) (hm : m ≤ 1073741824) (w : World) (hT : Hid (Tz w)) (hS : Hid (SumAt w b o m T)) :
    Calls Tryd.prog 37 #[.pointer (some ⟨b, o, none⟩)] w fun e w' => e = .returned (.int .i64 (rnd T)) ∧ Below w.heap.size w w' := by
  obtain ⟨A, B, eT, rA1, rA2, rB1, rB2, LA, LB⟩ := hS.out
  have hm' : (m : Int) ≤ 1073741824 := by omega
  have HD : Hid (hold (rqI (hold (T / 18446744073709551616) * 18446744073709551616 + T % 18446744073709551616) 4294967296) = rnd T) := hold_above T
  obtain ⟨D, eD⟩ : ∃ D, rnd T = D := ⟨_, rfl⟩
  rw [eD] at HD ⊢
  obtain ⟨ah, al, ea, a1, a2, a3, a4, Ha⟩ := words (v := A) (by unfold InW; omega)
  obtain ⟨bh, bl, eb, b1, b2, b3, b4, Hb⟩ := words (v := B) (by unfold InW; omega)
  have wbh : InR bh := ⟨b1, b2⟩
  obtain ⟨oh, ol, eo, o1, o2_, o3, o4, Ho⟩ := words (InR.w wbh)
  have hbh : B = bh * 18446744073709551616 + bl := Hb.out
  obtain ⟨ah', al', ea', a1', a2', a3', a4', Ha'⟩ := words (v := A + bh) (by unfold InW; omega)
  have eH : A + bh = T / 18446744073709551616 := by omega
  have eL : bl = T % 18446744073709551616 := by omega
  obtain ⟨H, eH2⟩ : ∃ H, hold (A + bh) = H := ⟨_, rfl⟩
  have rH : InR H := by rw [← eH2]; exact hold_rng _
  rw [← eH, ← eL, eH2] at HD
  have wS : InW (H * 18446744073709551616 + bl) := by unfold InR at rH; unfold InW; omega
  obtain ⟨Q, eQ⟩ : ∃ Q, rqI (H * 18446744073709551616 + bl) 4294967296 = Q := ⟨_, rfl⟩
  have wQ : InW Q := by rw [← eQ]; unfold rqI; unfold InW at wS ⊢; split <;> omega
  obtain ⟨qh, ql, eq, q1, q2, q3, q4, Hq⟩ := words wQ
  have cOf : ∀ W : World, Calls Tryd.prog 57 #[.int .i64 bh] W fun e w' => e = .returned (.agg #[.int .i64 oh, .int .u64 ol]) ∧ Below W.heap.size W w' := by
    intro W; have := of_any bh wbh W; rw [eo] at this; exact this
  have cA : ∀ W : World, Calls Tryd.prog 59 #[.agg #[.int .i64 ah, .int .u64 al], .agg #[.int .i64 oh, .int .u64 ol]] W fun e w' => e = .returned (.agg #[.int .i64 ah', .int .u64 al']) ∧ Below W.heap.size W w' := by
    intro W; have := add_in A bh (by unfold InW; omega) (InR.w wbh) (by unfold InW; omega) W; rw [ea, eo, ea'] at this; exact this
  have cF : ∀ W : World, Calls Tryd.prog 32 #[.agg #[.int .i64 ah', .int .u64 al']] W fun e w' => e = .returned (.int .i64 H) ∧ Below W.heap.size W w' := by
    intro W; have := fix_any (A + bh) (by unfold InW; omega) W; rw [ea', eH2] at this; exact this
  have cS : Hid (∀ W : World, Below w.heap.size w W → Calls Tryd.prog 66 #[.agg #[.int .i64 H, .int .u64 bl], .int .i64 32] W fun e w' => e = .returned (.agg #[.int .i64 qh, .int .u64 ql]) ∧ Below W.heap.size W w') := fun W hW => by
    have := shift_any (H * 18446744073709551616 + bl) 32 wS (by unfold InR; omega) W (hT.out.up hW)
    rw [← wd_mk H bl ⟨b3, by omega⟩, if_neg (by omega), show (2 : Int) ^ (32 : Int).toNat = 4294967296 from rfl, eQ, eq] at this
    exact this
  have cG : ∀ W : World, Calls Tryd.prog 32 #[.agg #[.int .i64 qh, .int .u64 ql]] W fun e w' => e = .returned (.int .i64 D) ∧ Below W.heap.size W w' := by
    intro W; have := fix_any Q wQ W; rw [eq, ← eQ, HD.out] at this; exact this
  have HL : Hid (LieA w b (o + 2) B) := LB
  obtain ⟨c0, c1⟩ := LA.words Ha.out a3 a4
  obtain ⟨d0, d1⟩ := LB.words Hb.out b3 b4
  have u0 := LA.1
  clear HD rA1 rA2 rB1 rB2 eT eH eL eH2 rH wS eQ wQ ea eb eo ea' eq wbh hbh LA LB hS hm hm' eD
  haveI : Nonempty World := ⟨w⟩
  go_enter Tryd.func37, Tryd.ntmps37
  go_wp2_with fail
  refine flow_new (.cells #[.int .i64 0, .int .u64 0] 50) 11 12 27 3 (by kernel_rfl) rfl rfl (by kernel_rfl) rfl rfl rfl ?_
  apply Exists.intro
  refine ⟨?_, ?_, ?_⟩
  · intro F hF
    have hFc := hF.cell
    have hFf := hF.frozen
    simp only [List.take_succ_cons, List.take_zero, List.eraseIdx_cons_succ, List.eraseIdx_cons_zero]
    repeat (go_big_quiet_step (first | (go_at_call 57; with_reducible exact hF.call (cOf _)) | (go_at_call 59; with_reducible exact hF.call (cA _))))
    refine wpQuiet_nil ?_
    exact rfl
  · intro W
    kernel_rfl
  intro W6 g8 hW hM
  have Y0 := hM.cell (i := 0) rfl
  have Y1 := hM.cell (i := 1) rfl
  have Z0 := hM.frozen 0
  have Z1 := hM.frozen 1
  have lt6 : g8 < W6.heap.size := hM.1
  have ge6 : w.heap.size ≤ g8 := hM.2.1
  have N8 := two W6 g8 (.int .i64 ah') (.int .u64 al') Y0 Y1
  have M := HL.out.up hW
  have N2 : ((W6.setCell ⟨g8, 0, none⟩ (.int .i64 ah')).setCell ⟨g8, 1, none⟩ (.int .u64 al')).cell? ⟨b, o + 2, none⟩ = some (.int .i64 bh) ∧ ((W6.setCell ⟨g8, 0, none⟩ (.int .i64 ah')).setCell ⟨g8, 1, none⟩ (.int .u64 al')).cell? ⟨b, o + 2 + 1, none⟩ = some (.int .u64 bl) := by
    have := M.words Hb.out b3 b4
    refine ⟨?_, ?_⟩
    · rw [cell_off (by omega), cell_off (by omega)]; exact this.1
    · rw [cell_off (by omega), cell_off (by omega)]; exact this.2
  have B6 := below_set2 hW g8 ge6 (.int .i64 ah') (.int .u64 al')
  simp only [List.drop_succ_cons, List.drop_zero]
  unfold ptrTo
  clear hM hW cOf cA c0 c1 d0 d1 u0 M
  go_wp2_with fail
  refine name_world (fun W9 hW9 => ?_)
  rw [← hW9] at N8 N2 B6
  clear hW9 Y0 Y1 Z0 Z1 lt6
  obtain ⟨c0, c1⟩ := N8
  obtain ⟨d0, d1⟩ := N2
  have u0 := wcell_lt c0
  have u1 := wcell_lt d0
  have HB9 : Hid (Below w.heap.size w W9) := B6
  clear B6 ge6
  refine flow_new (.cells #[.int .i64 0, .int .u64 0] 50) 8 9 27 4 (by kernel_rfl) rfl rfl (by kernel_rfl) rfl rfl rfl ?_
  apply Exists.intro
  refine ⟨?_, ?_, ?_⟩
  · intro F hF
    have hFc := hF.cell
    have hFf := hF.frozen
    simp only [List.take_succ_cons, List.take_zero, List.eraseIdx_cons_succ, List.eraseIdx_cons_zero]
    repeat (go_big_quiet_step (first | (go_at_call 32; with_reducible exact hF.call (cF _))))
    refine wpQuiet_nil ?_
    exact rfl
  · intro W
    kernel_rfl
  intro W7 g9 hW hM
  have Y0 := hM.cell (i := 0) rfl
  have Y1 := hM.cell (i := 1) rfl
  have Z0 := hM.frozen 0
  have Z1 := hM.frozen 1
  have lt6 : g9 < W7.heap.size := hM.1
  have ge6 : w.heap.size ≤ g9 := Nat.le_trans HB9.out.size hM.2.1
  have N8 := two W7 g9 (.int .i64 H) (.int .u64 bl) Y0 Y1
  have B6 : Hid (Below w.heap.size w ((W7.setCell ⟨g9, 0, none⟩ (.int .i64 H)).setCell ⟨g9, 1, none⟩ (.int .u64 bl))) := below_set2 (HB9.out.trans (hW.mono HB9.out.size)) g9 ge6 _ _
  have B6' := B6.out
  simp only [List.drop_succ_cons, List.drop_zero]
  unfold ptrTo
  clear hM hW cF c0 c1 d0 d1 u0 u1
  go_wp2_with fail
  clear Y0 Y1 Z0 Z1 lt6 B6' N8
  refine (cS.out _ B6.out).mono ?_
  rintro e W11 ⟨rfl, hW11⟩
  have B11 : Hid (Below w.heap.size w W11) := B6.out.trans (hW11.mono B6.out.size)
  clear hW11 cS
  go_wp2_with fail
  refine (cG W11).mono ?_
  rintro e W12 ⟨rfl, hW12⟩
  have B12 : Hid (Below w.heap.size w W12) := B11.out.trans (hW12.mono B11.out.size)
  clear hW12 cG
  go_wp2
  go_ret
  exact ⟨rfl, B12.out⟩
end Go.Proofs.YthcfeiddbffcfaaDoor.Wd
