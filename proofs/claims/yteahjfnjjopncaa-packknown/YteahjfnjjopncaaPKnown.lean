/- The law PackKnown. -/
import Derived.Test.YteahjfnjjopncaaPkC
namespace Go.Proofs.Yteahjfnjjopncaa.Wd
open Go.RowKit
set_option linter.unusedVariables false
set_option linter.unusedSimpArgs false
theorem But.frozen {g b o : Nat} {w w' : World} (h : But g w w') (hb : b ≠ g) (hl : b < w.heap.size) : w'.frozen? ⟨b, o, none⟩ = w.frozen? ⟨b, o, none⟩ := by
  have := h.block b hl hb
  unfold World.frozen?
  simp only [this]
theorem Rd.aside {W W' : World} {g g2 : Nat} {sp : Bool} (h : Rd W g [] sp) (hb : But g2 W W') (hg : g ≠ g2) : Rd W' g [] sp := by
  obtain ⟨v, h1, h2⟩ := h.rest
  refine ⟨⟨v, hb.cell hg h1, ?_⟩, hb.cell hg h.mark, by rw [hb.frozen hg h.lt]; exact h.fr0, by rw [hb.frozen hg h.lt]; exact h.fr1, h.rng⟩
  rcases h2 with h | ⟨q, o, c, h1, h2, h3, h4, h5⟩
  · exact .inl h
  · exact .inr ⟨q, o, c, h1, h2, h3, h4, fun j x hj => by simp at hj⟩
theorem three8 (W : World) (x y z : Int) : Bytes (W.alloc (.cells #[.int .u8 x, .int .u8 y, .int .u8 z] 5)) (.slice (some ⟨W.heap.size, 0, none⟩) 3 3) [x, y, z] := .inr ⟨_, _, rfl, by
  intro j u hj
  match j, hj with
  | 0, hj => simp at hj; subst hj; simp [Addr.add, go_sem]
  | 1, hj => simp at hj; subst hj; simp [Addr.add, go_sem]
  | 2, hj => simp at hj; subst hj; simp [Addr.add, go_sem]⟩
theorem one8' (W : World) (x : Int) : Bytes (W.alloc (.cells #[.int .u8 x] 5)) (.slice (some ⟨W.heap.size, 0, none⟩) 1 1) [x] := .inr ⟨_, _, rfl, by
  intro j u hj
  match j, hj with
  | 0, hj => simp at hj; subst hj; simp [Addr.add, go_sem]⟩
set_option maxHeartbeats 4000000 in
set_option maxRecDepth 10000 in
theorem known_walk (w : World) :
    Calls Try.prog 3 #[] w fun e w' => e = .returned (.bool true) ∧ Below w.heap.size w w' := by
  go_enter Try.func3, Try.ntmps3
  go_wp2_with fail
  refine (awake_any w).mono ?_
  rintro e w1 ⟨rfl, B1⟩
  go_wp2_with fail
  refine (read_any _ [1, 2, 3] (by decide) (by decide) _ (three8 w1 1 2 3)).mono ?_
  rintro e w2 ⟨g, rfl, hg, hR, hb⟩
  have H2 : Hid (w.heap.size ≤ g ∧ Rd w2 g [1, 2, 3] false ∧ Below w.heap.size w w2) := ⟨by have := B1.size; simp at hg; omega, hR, (B1.alloc B1.size _).trans (hb.mono (by have := B1.size; simp; omega))⟩
  clear hg hR hb B1
  go_wp2_with fail
  refine (ru8_any g _ false w2 H2.out.2.1).mono ?_
  rintro e w3 ⟨rfl, hR, hb⟩
  rw [show num (got [1, 2, 3] 1) = 1 by decide, show left [1, 2, 3] 1 = [2, 3] by decide, show mars [1, 2, 3] false 1 = false by decide] at *
  have H3 : Hid (w.heap.size ≤ g ∧ Rd w3 g [2, 3] false ∧ Below w.heap.size w w3) := ⟨H2.out.1, hR, hb.below H2.out.2.2 H2.out.1 H2.out.2.2.size⟩
  clear hR hb H2
  go_wp2_with fail
  refine (ru32_any g _ false w3 H3.out.2.1).mono ?_
  rintro e w4 ⟨rfl, hR, hb⟩
  rw [show num (got [2, 3] 4) = 0 by decide, show left [2, 3] 4 = [] by decide, show mars [2, 3] false 4 = true by decide] at *
  have H4 : Hid (w.heap.size ≤ g ∧ Rd w4 g [] true ∧ Below w.heap.size w w4) := ⟨H3.out.1, hR, hb.below H3.out.2.2 H3.out.1 H3.out.2.2.size⟩
  clear hR hb H3
  go_wp2_with fail
  refine (ru8_any g _ true w4 H4.out.2.1).mono ?_
  rintro e w5 ⟨rfl, hR, hb⟩
  rw [show num (got [] 1) = 0 by decide, show left [] 1 = [] by decide, show mars [] true 1 = true by decide] at *
  have H5 : Hid (w.heap.size ≤ g ∧ Rd w5 g [] true ∧ Below w.heap.size w w5) := ⟨H4.out.1, hR, hb.below H4.out.2.2 H4.out.1 H4.out.2.2.size⟩
  clear hR hb H4
  go_wp2_with fail
  refine (read_any _ [9] (by decide) (by decide) _ (one8' w5 9)).mono ?_
  rintro e w6 ⟨s, rfl, hg, hR, hb⟩
  have H6 : Hid (w.heap.size ≤ g ∧ w.heap.size ≤ s ∧ g ≠ s ∧ Rd w6 g [] true ∧ Rd w6 s [9] false ∧ Below w.heap.size w w6) := by
    have h5 := H5.out
    have hs := h5.2.2.size
    have hl := h5.2.1.lt
    simp at hg
    exact ⟨h5.1, by omega, by omega, (h5.2.1.up ((Below.refl _ _).alloc (Nat.le_refl _) _)).up hb, hR, (h5.2.2.alloc hs _).trans (hb.mono (by simp; omega))⟩
  clear hg hR hb H5
  go_wp2_with fail
  refine (rbytes_any s _ (by decide) false (-1) (by omega) w6 H6.out.2.2.2.2.1).mono ?_
  rintro e w7 ⟨x, rfl, ho, hR, hb⟩
  rw [show got [9] (-1) = [] by decide] at ho
  rw [show left [9] (-1) = [] by decide, show mars [9] false (-1) = true by decide] at hR
  have H7 : Hid (w.heap.size ≤ g ∧ w.heap.size ≤ s ∧ g ≠ s ∧ Rd w7 g [] true ∧ Rd w7 s [] true ∧ Below w.heap.size w w7) := by
    have h5 := H6.out
    exact ⟨h5.1, h5.2.1, h5.2.2.1, h5.2.2.2.1.aside hb h5.2.2.1, hR, hb.below h5.2.2.2.2.2 h5.2.1 h5.2.2.2.2.2.size⟩
  obtain ⟨p, c, rfl⟩ : ∃ p c, x = .slice p 0 c := by
    rcases ho.2 with ⟨h, _⟩ | ⟨q, cap, cur, h, _⟩
    · exact ⟨_, _, h⟩
    · exact ⟨_, _, h⟩
  clear ho hR hb H6
  go_wp2_with fail
  refine (end_any g [] (by decide) true w7 H7.out.2.2.2.1).mono ?_
  rintro e w7' ⟨rfl, rfl⟩
  go_wp2_with fail
  refine (ru8_any s _ true w7' H7.out.2.2.2.2.1).mono ?_
  rintro e w8 ⟨rfl, hR, hb⟩
  rw [show num (got [] 1) = 0 by decide, show left [] 1 = [] by decide, show mars [] true 1 = true by decide] at *
  have H8 : Hid (Rd w8 s [] true ∧ Below w.heap.size w w8) := ⟨hR, hb.below H7.out.2.2.2.2.2 H7.out.2.1 H7.out.2.2.2.2.2.size⟩
  clear hR hb H7
  go_wp2_with fail
  refine (end_any s [] (by decide) true w8 H8.out.1).mono ?_
  rintro e w8' ⟨rfl, rfl⟩
  go_wp2_with fail
  refine (read_any (.slice none 0 0) [] (by decide) (by decide) _ (.inl ⟨rfl, rfl⟩)).mono ?_
  rintro e w9 ⟨r, rfl, hg, hR, hb⟩
  have H9 : Hid (Rd w9 r [] false ∧ Below w.heap.size w w9) := ⟨hR, H8.out.2.trans (hb.mono H8.out.2.size)⟩
  clear hg hR hb H8
  go_wp2_with fail
  refine (end_any r [] (by decide) false w9 H9.out.1).mono ?_
  rintro e w9' ⟨rfl, rfl⟩
  go_wp2_with fail
  refine (pu16_any (.slice none 0 0) [] (by decide) 65537 (by omega) _ (.inl ⟨rfl, rfl⟩)).mono ?_
  rintro e w10 ⟨v, rfl, ho, hb⟩
  rw [show ([] : List Int) ++ be 2 65537 = [0, 1] by decide] at ho
  have B10 := H9.out.2.trans (hb.mono H9.out.2.size)
  have hbt := ho.bytes
  obtain ⟨ad, c', rfl, hx⟩ : ∃ ad c', v = .slice (some ad) 2 c' ∧ ∀ j u, ([0, 1].map (Value.int .u8))[j]? = some u → w10.cell? (ad.add j) = some u := by
    rcases hbt with ⟨_, h⟩ | ⟨ad, c', h, hx⟩
    · cases h
    · exact ⟨ad, c', h, hx⟩
  have cv := conv_run (W := w10) (n := 2) (c := c') (l := [0, 1]) rfl (by decide) hx
  have es : str [0, 1] = ⟨#[0, 1]⟩ := rfl
  rw [es] at cv
  clear ho hb H9 hbt hx es
  go_wp2
  go_ret
  exact ⟨rfl, B10⟩
end Go.Proofs.Yteahjfnjjopncaa.Wd
