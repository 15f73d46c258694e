/- Tensors: what matm.Flip and matm.sideLast hand back. -/
import Derived.Test.YthcfeiddbffcfaaDoorMtC
import Derived.Test.YthcfeiddbffcfaaDoorTenT
import Derived.Test.YthcfeiddbffcfaaDoorTold
namespace Go.Proofs.YthcfeiddbffcfaaDoor.Wd
open Go.RowKit Fx
set_option linter.unusedVariables false
set_option linter.unusedSimpArgs false
/-- A tensor of two sides. -/
theorem is_two {D0 D1 : Nat} {x : List Int} (hx : x.length = D0 * D1) (h0 : 1 ≤ D0) (h1 : 1 ≤ D1) (hl : D0 * D1 ≤ 4096) : isP [(D0 : Int), (D1 : Int)] x := by
  have e : prodN [D0, D1] = D0 * D1 := by simp [prodN]
  have en : ntl [(D0 : Int), (D1 : Int)] = [D0, D1] := ntl_itl [D0, D1]
  unfold isP
  rw [en]
  refine ⟨⟨by simp, fun y hy => ?_, by rw [e]; exact hl⟩, by rw [e]; exact hx⟩
  simp at hy
  omega
theorem turn_two {D0 D1 : Nat} {x : List Int} (hx : x.length = D0 * D1) (h0 : 1 ≤ D0) (h1 : 1 ≤ D1) (hl : D0 * D1 ≤ 4096) :
    turnE [(D0 : Int), (D1 : Int)] x [1, 0] = 0 ∧ turnD [(D0 : Int), (D1 : Int)] x [1, 0] = [(D1 : Int), (D0 : Int)] ∧ turnV [(D0 : Int), (D1 : Int)] x [1, 0] = flipV D0 D1 x := by
  have hp : turnP [(D0 : Int), (D1 : Int)] x [1, 0] := ⟨is_two hx h0 h1 hl, by
    show ordP [1, 0] 2
    decide⟩
  have en : ntl [(D0 : Int), (D1 : Int)] = [D0, D1] := ntl_itl [D0, D1]
  have eo : ntl [1, 0] = [1, 0] := rfl
  have e : prodN [D0, D1] = D0 * D1 := by simp [prodN]
  unfold turnE turnD turnV
  rw [if_pos hp, if_pos hp, if_pos hp, en, eo, e]
  refine ⟨rfl, rfl, ?_⟩
  unfold flipV
  refine List.map_congr_left fun i hi => ?_
  rw [flip_turn (List.mem_range.1 hi)]
def flE (d x : List Int) : Int := if isP d x then if d.length = 2 then 0 else 4 else 1
def flD (d x : List Int) : List Int := if isP d x ∧ d.length = 2 then [d.getD 1 0, d.getD 0 0] else []
def flV (d x : List Int) : List Int := if isP d x ∧ d.length = 2 then flipV (d.getD 0 0).toNat (d.getD 1 0).toNat x else []
theorem fl_two {d x : List Int} (h : isP d x) (h2 : d.length = 2) : flE d x = turnE d x [1, 0] ∧ flD d x = turnD d x [1, 0] ∧ flV d x = turnV d x [1, 0] := by
  obtain ⟨D0, D1, rfl, hx, h0, h1, hl⟩ := two_sides h h2
  obtain ⟨e1, e2, e3⟩ := turn_two hx h0 h1 hl
  rw [e1, e2, e3]
  unfold flE flD flV
  rw [if_pos h, if_pos h2, if_pos ⟨h, h2⟩, if_pos ⟨h, h2⟩]
  exact ⟨rfl, rfl, rfl⟩
set_option maxHeartbeats 4000000 in
theorem flip_any (p p2 : Option Addr) (n c n2 c2 : Nat) (d x : List Int) (hd : RI d) (w : World) (h1 : Nums .i64 w (.slice p n c) d) (h2 : Nums .i64 w (.slice p2 n2 c2) x) :
    Calls Tryd.prog 12 #[.agg #[.slice p n c, .slice p2 n2 c2]] w fun e w' => ∃ v', e = .returned (.tuple #[v', .int .i64 (flE d x)]) ∧ TRes w' w.heap.size v' (flD d x) (flV d x) ∧ Below w.heap.size w w' := by
  have cA : ∀ W, Below w.heap.size w W → Calls Tryd.prog 27 #[.agg #[.slice p n c, .slice p2 n2 c2]] W fun e w' => e = .returned (.bool (decide (isP d x))) ∧ Below W.heap.size W w' := fun W hW => tgood_any _ _ d x hd W (h1.up hW) (h2.up hW)
  have cT : Hid (∀ W v, Below w.heap.size w W → LitN [1, 0] v W → Calls Tryd.prog 30 #[.agg #[.slice p n c, .slice p2 n2 c2], v] W fun e w' => ∃ v', e = .returned (.tuple #[v', .int .i64 (turnE d x [1, 0])]) ∧ TRes w' W.heap.size v' (turnD d x [1, 0]) (turnV d x [1, 0]) ∧ Below W.heap.size W w') := fun W v hW hv => by
    obtain ⟨g, rfl, hn⟩ := hv
    exact tturn_any p p2 _ n c n2 c2 _ _ d x [1, 0] hd (fun y hy => by simp at hy; omega) W (h1.up hW) (h2.up hW) hn
  obtain ⟨_, _, _, e4, HD⟩ := h1.lst
  cases e4
  have hlen : d.length = n := HD.out.1
  by_cases hp : isP d x
  · rw [decide_eq_true hp] at cA
    have hn4 : n ≤ 4 := by have := hp.1.1; rw [ntl_len] at this; omega
    have hn4' : (n : Int) ≤ 4 := by omega
    by_cases hq : n = 2
    · subst hq
      obtain ⟨e1, e2, e3⟩ := fl_two hp hlen
      rw [e1, e2, e3]
      obtain ⟨E, eE⟩ : ∃ E, turnE d x [1, 0] = E := ⟨_, rfl⟩
      obtain ⟨D, eD⟩ : ∃ D, turnD d x [1, 0] = D := ⟨_, rfl⟩
      obtain ⟨V, eV⟩ : ∃ V, turnV d x [1, 0] = V := ⟨_, rfl⟩
      rw [eE, eD, eV] at cT ⊢
      clear e1 e2 e3 eE eD eV hp h1 h2 hd HD hlen
      go_enter Tryd.func12, Tryd.ntmps12
      go_wp2_with fail
      generalize hW0 : World.alloc _ _ = W0
      have B0 : Below w.heap.size w W0 := by rw [← hW0]; go_grown
      have XA : Hid (Cel W0 w.heap.size (.slice p 2 c) (.slice p2 n2 c2)) := by show Cel _ _ _ _; unfold Cel; rw [← hW0]; simp [go_sem]
      have XR : Hid (Cel W0 (w.heap.size + 1) (.slice none 0 0) (.slice none 0 0)) := by show Cel _ _ _ _; unfold Cel; rw [← hW0]; simp [go_sem]
      have HB0 : Hid (Below w.heap.size w W0) := B0
      clear hW0 B0
      refine (cA W0 HB0.out).mono ?_
      rintro e w1 ⟨rfl, hB1⟩
      have HB1 : Hid (Below w.heap.size w w1 ∧ Below W0.heap.size W0 w1) := ⟨bstep HB0.out hB1, hB1⟩
      clear hB1
      obtain ⟨a0, a1, _, _⟩ := XA.out.up HB1.out.2
      go_wp2_with fail
      generalize hW2 : World.alloc _ _ = W2
      have hB2 : Below w1.heap.size w1 W2 := by rw [← hW2]; exact up_alloc w1 _
      have HL : Hid (LitN [1, 0] (.slice (some ⟨w1.heap.size, 0, none⟩) 2 2) W2) := ⟨_, rfl, by rw [← hW2]; exact nums_lit (k := .i64) w1 [1, 0] 2 (0, 0) rfl⟩
      have HB2 : Hid (Below w.heap.size w W2 ∧ Below W0.heap.size W0 W2) := ⟨bstep HB1.out.1 hB2, bstep HB1.out.2 hB2⟩
      clear hW2 hB2 a0 a1
      refine (cT.out W2 _ HB2.out.1 HL.out).mono ?_
      rintro e w6 ⟨v6, rfl, ⟨s6, t6, rfl, hs6, ht6⟩, hB6⟩
      obtain ⟨p6, n6, c6, rfl, _⟩ := hs6.nums.lst
      obtain ⟨p7, n7, c7, rfl, _⟩ := ht6.nums.lst
      have hz := cell_lt XR.out.1
      have hs2 := HB2.out.2.size
      have HF : Hid (TRes (set2 w6 (w.heap.size + 1) (.slice p6 n6 c6) (.slice p7 n7 c7)) w.heap.size (.agg #[.slice p6 n6 c6, .slice p7 n7 c7]) D V ∧ Below w.heap.size w (set2 w6 (w.heap.size + 1) (.slice p6 n6 c6) (.slice p7 n7 c7))) := by
        exact ⟨(TRes.set hs6 ht6 (by omega)).low HB2.out.1.size, below_cell (bstep HB2.out.1 hB6) _ (by omega) _ _⟩
      have xr := (XR.out.up (bstep HB2.out.2 hB6))
      have cf := xr.set (.slice p6 n6 c6) (.slice p7 n7 c7)
      obtain ⟨r0, r1, r2, r3⟩ := xr
      obtain ⟨y0, y1, _, _⟩ := cf
      clear hs6 ht6 hB6
      go_wp2
      exact bodyPost_ret (v := .tuple #[.agg #[.slice p6 n6 c6, .slice p7 n7 c7], .int .i64 E]) (by simp [results, Tryd.results12, go_sem, y0, y1]) rfl ⟨_, rfl, HF.out⟩
    · have hne : ((n : Int) != 2) = true := by simp; omega
      have hne' : ¬ ((n : Int) = 2) := by omega
      unfold flE flD flV
      rw [if_pos hp, if_neg (by omega), if_neg (by omega), if_neg (by omega)]
      clear h1 h2 hd hp HD hlen cT
      go_enter Tryd.func12, Tryd.ntmps12
      go_wp2_with fail
      generalize hW0 : World.alloc _ _ = W0
      have B0 : Below w.heap.size w W0 := by rw [← hW0]; go_grown
      have XA : Hid (Cel W0 w.heap.size (.slice p n c) (.slice p2 n2 c2)) := by show Cel _ _ _ _; unfold Cel; rw [← hW0]; simp [go_sem]
      have XR : Hid (Cel W0 (w.heap.size + 1) (.slice none 0 0) (.slice none 0 0)) := by show Cel _ _ _ _; unfold Cel; rw [← hW0]; simp [go_sem]
      have HB0 : Hid (Below w.heap.size w W0) := B0
      clear hW0 B0
      refine (cA W0 HB0.out).mono ?_
      rintro e w1 ⟨rfl, hB1⟩
      have HB1 : Hid (Below w.heap.size w w1 ∧ Below W0.heap.size W0 w1) := ⟨bstep HB0.out hB1, hB1⟩
      clear hB1
      obtain ⟨a0, a1, _, _⟩ := XA.out.up HB1.out.2
      have xr := (XR.out.up HB1.out.2)
      have BF := below_cell (HB1.out.1) (w.heap.size + 1) (by omega) (.slice none 0 0) (.slice none 0 0)
      have cf := xr.set (.slice none 0 0) (.slice none 0 0)
      obtain ⟨r0, r1, r2, r3⟩ := xr
      obtain ⟨y0, y1, _, _⟩ := cf
      go_wp2
      exact bodyPost_ret (v := .tuple #[.agg #[.slice none 0 0, .slice none 0 0], .int .i64 4]) (by simp [results, Tryd.results12, go_sem, y0, y1]) rfl ⟨_, rfl, TRes.none _ _, BF⟩
  · rw [decide_eq_false hp] at cA
    unfold flE flD flV
    rw [if_neg hp, if_neg (fun h => hp h.1), if_neg (fun h => hp h.1)]
    clear h1 h2 hd hp HD hlen cT
    go_enter Tryd.func12, Tryd.ntmps12
    go_wp2_with fail
    generalize hW0 : World.alloc _ _ = W0
    have B0 : Below w.heap.size w W0 := by rw [← hW0]; go_grown
    have XR : Hid (Cel W0 (w.heap.size + 1) (.slice none 0 0) (.slice none 0 0)) := by show Cel _ _ _ _; unfold Cel; rw [← hW0]; simp [go_sem]
    have HB0 : Hid (Below w.heap.size w W0) := B0
    clear hW0 B0
    refine (cA W0 HB0.out).mono ?_
    rintro e w1 ⟨rfl, hB1⟩
    have HB1 : Hid (Below w.heap.size w w1 ∧ Below W0.heap.size W0 w1) := ⟨bstep HB0.out hB1, hB1⟩
    clear hB1
    have xr := (XR.out.up HB1.out.2)
    have BF := below_cell (HB1.out.1) (w.heap.size + 1) (by omega) (.slice none 0 0) (.slice none 0 0)
    have cf := xr.set (.slice none 0 0) (.slice none 0 0)
    obtain ⟨r0, r1, r2, r3⟩ := xr
    obtain ⟨y0, y1, _, _⟩ := cf
    go_wp2
    exact bodyPost_ret (v := .tuple #[.agg #[.slice none 0 0, .slice none 0 0], .int .i64 1]) (by simp [results, Tryd.results12, go_sem, y0, y1]) rfl ⟨_, rfl, TRes.none _ _, BF⟩
/-- The sides but one. -/
def butO (s : Nat) (side : Int) : List Int := (itl (List.range s)).filter fun i => decide (i ≠ side)
def lastO (s : Nat) (side : Int) : List Int := butO s side ++ [side]
theorem butO_succ (s : Nat) (side : Int) : butO (s + 1) side = butO s side ++ if (s : Int) = side then [] else [(s : Int)] := by
  unfold butO itl
  rw [List.range_succ, List.map_append, List.filter_append]
  congr 1
  by_cases h : (s : Int) = side <;> simp [h]
theorem butO_len (s : Nat) (side : Int) : (butO s side).length ≤ s := by
  have := List.length_filter_le (fun i => decide (i ≠ side)) (itl (List.range s))
  rw [itl_len, List.length_range] at this
  exact this
set_option maxHeartbeats 4000000 in
theorem sideLast_any (s : Nat) (hs : s ≤ 1000) (side : Int) (hr : InR side) (w : World) :
    Calls Tryd.prog 31 #[.int .i64 (s : Int), .int .i64 side] w fun e w' => ∃ v', e = .returned v' ∧ OwnK .i64 3 w' w.heap.size v' (lastO s side) ∧ Below w.heap.size w w' := by
  have hs' : (s : Int) ≤ 1000 := by omega
  obtain ⟨L, eL⟩ : ∃ L, lastO s side = L := ⟨_, rfl⟩
  have HL : Hid (lastO s side = L) := eL
  rw [eL]
  unfold InR at hr
  clear eL
  go_enter Tryd.func31, Tryd.ntmps31
  go_wp2_with (at_make; refine wpList_make0K numT (by decide) _ rfl (.const (.int .i64 0)) (.tmp 7) rfl .i64 .i64 _ s rfl rfl rfl (by omega) ?_; intro w1 HO1 B1)
  have HB1 : Hid (Below w.heap.size w w1) := B1
  clear B1
  go_loopg [5, 10] s (fun gg r i wr => ∃ (k : Nat), k ≤ s ∧ gg = s - k ∧ i = .int .i64 (k : Int) ∧ Hid (OwnK .i64 3 wr w.heap.size r (butO k side)) ∧ Hid (Below w.heap.size w wr))
  case atStart => exact ⟨0, by omega, by omega, by first | rfl | simp, HO1, HB1⟩
  case round =>
    obtain ⟨k, hk, hg, rfl, HO, hB⟩ := hrel
    obtain ⟨R0, hR0⟩ : ∃ R0 : World, R0 = wr := ⟨_, rfl⟩
    subst hR0
    by_cases hkn : k < s
    · have hk' : (k : Int) < (s : Int) := by omega
      by_cases he : (k : Int) = side
      · subst he
        have hne : ((k : Int) != (k : Int)) = false := by simp
        have H7 : Hid (OwnK .i64 3 R0 w.heap.size u5 (butO (k + 1) (k : Int))) := by
          show OwnK _ _ _ _ _ _
          rw [butO_succ, if_pos rfl, List.append_nil]
          exact HO.out
        go_wp2
        go_roundg (s - (k + 1))
        case measure => omega
        case rel => exact ⟨k + 1, by omega, rfl, by first | rfl | simp, H7, hB⟩
      · have hne : ((k : Int) != side) = true := by simp [he]
        have H6 : Hid (OwnK .i64 3 (R0.alloc (.cells #[.int .i64 (k : Int)] 3)) w.heap.size u5 (butO k side)) := HO.out.up (up_alloc R0 _)
        have H6n : Hid (Nums .i64 (R0.alloc (.cells #[.int .i64 (k : Int)] 3)) (.slice (some ⟨R0.heap.size, 0, none⟩) 1 1) [(k : Int)]) := nums_lit (k := .i64) R0 [(k : Int)] 1 (0, 0) rfl
        have H6b : Hid (Below w.heap.size w (R0.alloc (.cells #[.int .i64 (k : Int)] 3))) := blit hB.out _
        have H6l : Hid ((butO k side).length + [(k : Int)].length ≤ 1073741824) := by
          show _ ≤ _
          have := butO_len k side
          rw [List.length_singleton]
          omega
        go_wp2_with (at_builtin; refine wpList_appendK numT (by decide) rfl (.tmp 16) (.tmp 18) rfl w.heap.size _ _ rfl H6.out _ [(k : Int)] rfl H6n.out H6l.out H6b.out.size w H6b.out ?_; intro v0 w0 H0 B0)
        have H7 : Hid (OwnK .i64 3 w0 w.heap.size v0 (butO (k + 1) side)) := by
          show OwnK _ _ _ _ _ _
          rw [butO_succ, if_neg he]
          exact H0.out
        go_roundg (s - (k + 1))
        case measure => omega
        case rel => exact ⟨k + 1, by omega, rfl, by first | rfl | simp, H7, B0⟩
    · obtain rfl : k = s := by omega
      have H6 : Hid (OwnK .i64 3 (R0.alloc (.cells #[.int .i64 side] 3)) w.heap.size u5 (butO k side)) := HO.out.up (up_alloc R0 _)
      have H6n : Hid (Nums .i64 (R0.alloc (.cells #[.int .i64 side] 3)) (.slice (some ⟨R0.heap.size, 0, none⟩) 1 1) [side]) := nums_lit (k := .i64) R0 [side] 1 (0, 0) rfl
      have H6b : Hid (Below w.heap.size w (R0.alloc (.cells #[.int .i64 side] 3))) := blit hB.out _
      have H6l : Hid ((butO k side).length + [side].length ≤ 1073741824) := by
        show _ ≤ _
        have := butO_len k side
        rw [List.length_singleton]
        omega
      go_wp2_with (at_builtin; refine wpList_appendK numT (by decide) rfl (.tmp 21) (.tmp 23) rfl w.heap.size _ _ rfl H6.out _ [side] rfl H6n.out H6l.out H6b.out.size w H6b.out ?_; intro v0 w0 H0 B0)
      go_ret
      exact ⟨_, rfl, by rw [← HL.out]; exact H0.out, B0⟩
end Go.Proofs.YthcfeiddbffcfaaDoor.Wd
