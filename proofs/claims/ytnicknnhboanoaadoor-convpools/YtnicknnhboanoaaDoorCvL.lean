/- The laws' own helpers: great, rows, windows, awake; and conv's functions over tensors that can be read. -/
import Derived.Test.YtnicknnhboanoaaDoorCnv
import Derived.Test.YtnicknnhboanoaaDoorCni
import Derived.Test.YtnicknnhboanoaaDoorCnk
import Derived.Test.YtnicknnhboanoaaDoorPoo
namespace Go.Proofs.YtnicknnhboanoaaDoor.Wd
open Go.RowKit Fx
set_option linter.unusedVariables false
set_option linter.unusedSimpArgs false
theorem row_tn {D X D' X' : List Int} {v v' : Value} {W : World} (st : Int) (h : Tn D X v W) (h' : Tn D' X' v' W) (hD : RI D) (hX : RI X) (hD' : RI D') (hX' : RI X') (hT : Hid (Tz W)) :
    Calls Tryd.prog 12 #[v, v', .int .i64 st] W fun e w' => ∃ u, e = .returned (.tuple #[u, .int .i64 (rwE D X D' X' st)]) ∧ TRes w' W.heap.size u (rwD D X D' X' st) (rwV D X D' X' st) ∧ Below W.heap.size W w' := by
  obtain ⟨p, n, c, p2, n2, c2, rfl, h1, h2⟩ := h
  obtain ⟨p', n', c', p2', n2', c2', rfl, h1', h2'⟩ := h'
  exact crow_any _ _ _ _ _ _ _ _ _ _ _ _ D X D' X' st hD hX hD' hX' W hT h1 h2 h1' h2'
theorem in_tn {D X D' X' : List Int} {v v' : Value} {W : World} (st lg : Int) (h : Tn D X v W) (h' : Tn D' X' v' W) (hD : RI D) (hX : RI X) (hD' : RI D') (hX' : RI X') (hT : Hid (Tz W)) :
    Calls Tryd.prog 13 #[v, v', .int .i64 st, .int .i64 lg] W fun e w' => ∃ u, e = .returned (.tuple #[u, .int .i64 (biE D X D' X' st lg)]) ∧ TRes w' W.heap.size u (biD D X D' X' st lg) (biV D X D' X' st lg) ∧ Below W.heap.size W w' := by
  obtain ⟨p, n, c, p2, n2, c2, rfl, h1, h2⟩ := h
  obtain ⟨p', n', c', p2', n2', c2', rfl, h1', h2'⟩ := h'
  exact cin_any _ _ _ _ _ _ _ _ _ _ _ _ D X D' X' st lg hD hX hD' hX' W hT h1 h2 h1' h2'
theorem ker_tn {D X D' X' : List Int} {v v' : Value} {W : World} (st lg : Int) (h : Tn D X v W) (h' : Tn D' X' v' W) (hD : RI D) (hX : RI X) (hD' : RI D') (hX' : RI X') (hT : Hid (Tz W)) :
    Calls Tryd.prog 14 #[v, v', .int .i64 st, .int .i64 lg] W fun e w' => ∃ u, e = .returned (.tuple #[u, .int .i64 (bkE D X D' X' st lg)]) ∧ TRes w' W.heap.size u (bkD D X D' X' st lg) (bkV D X D' X' st lg) ∧ Below W.heap.size W w' := by
  obtain ⟨p, n, c, p2, n2, c2, rfl, h1, h2⟩ := h
  obtain ⟨p', n', c', p2', n2', c2', rfl, h1', h2'⟩ := h'
  exact cker_any _ _ _ _ _ _ _ _ _ _ _ _ D X D' X' st lg hD hX hD' hX' W hT h1 h2 h1' h2'
theorem pool_tn {D X : List Int} {v : Value} {W : World} (wd : Int) (h : TnC D X v W) (hD : RI D) (hX : RI X) :
    Calls Tryd.prog 15 #[v, .int .i64 wd] W fun e w' => ∃ v' u', e = .returned (.tuple #[v', u', .int .i64 (plE D X wd)]) ∧ TRes w' W.heap.size v' (plD D X wd) (plV D X wd) ∧ OwnK .i64 3 w' W.heap.size u' (plP D X wd) ∧ Below W.heap.size W w' := by
  obtain ⟨p, n, c, p2, n2, c2, rfl, h1, h2, h3⟩ := h
  exact pool_any _ _ _ _ _ _ D X wd hD hX h3 W h1 h2
set_option maxHeartbeats 1000000 in
theorem great8_any (p p2 : Option Addr) (n c n2 c2 : Nat) (most : Nat) (hm : most ≤ 1000) (w : World) :
    Calls Tryd.prog 17 #[.agg #[.slice p n c, .slice p2 n2 c2], .int .i64 (most : Int)] w fun e w' => e = .returned (.bool (decide (10 < n ∨ most < n2))) ∧ Below w.heap.size w w' := by
  have hm' : (most : Int) ≤ 1000 := by omega
  by_cases h1 : 10 < n
  · rw [decide_eq_true (.inl h1)]
    have h1' : (10 : Int) < (n : Int) := by omega
    go_enter Tryd.func17, Tryd.ntmps17
    go_wp2
    go_ret
    exact ⟨rfl, by go_grown⟩
  · have h1' : (n : Int) ≤ 10 := by omega
    by_cases h2 : most < n2
    · rw [decide_eq_true (.inr h2)]
      have h2' : (most : Int) < (n2 : Int) := by omega
      go_enter Tryd.func17, Tryd.ntmps17
      go_wp2
      go_ret
      exact ⟨by simp [h2], by go_grown⟩
    · rw [decide_eq_false (fun h => h.elim h1 h2)]
      have h2' : (n2 : Int) ≤ (most : Int) := by omega
      go_enter Tryd.func17, Tryd.ntmps17
      go_wp2
      go_ret
      exact ⟨by simp [h2]; exact h1', by go_grown⟩
set_option maxHeartbeats 1000000 in
theorem rows_any (N q : Nat) (l : List Int) (p : Option Addr) (n c : Nat) (hN : 1 ≤ N) (hl : l.length ≤ 1000) (hc : n ≤ c) (hq : l.length / N = q) (w : World) (h : Nums .i64 w (.slice p n c) l) :
    Calls Tryd.prog 10 #[.int .i64 (N : Int), .slice p n c] w fun e w' => ∃ v, e = .returned v ∧ TnC [(N : Int), (q : Int)] l v w' ∧ Below w.heap.size w w' := by
  have H : Hid (Nums .i64 w (.slice p n c) l ∧ n ≤ c) := ⟨h, hc⟩
  obtain ⟨_, _, _, e4, HX⟩ := h.lst
  cases e4
  have em := HX.out.1
  rw [em] at hl hq
  have hN' : 1 ≤ (N : Int) := by omega
  have hm' : (n : Int) ≤ 1000 := by omega
  have hq' : (n : Int) / (N : Int) = (q : Int) := by rw [← hq]; rfl
  have hq2 : (q : Int) ≤ 1000 := by have := Nat.div_le_self n N; omega
  clear h em hq HX hc
  go_enter Tryd.func10, Tryd.ntmps10
  go_wp2
  refine bodyPost_ret (v := .agg #[.slice (some ⟨w.heap.size + 1, 0, none⟩) 2 2, .slice p n c]) (by simp [results, Tryd.results10, go_sem]) rfl ⟨_, rfl, ⟨_, _, _, _, _, _, rfl, ?_, ?_, H.out.2⟩, by go_grown⟩
  · refine .inr ⟨_, 2, rfl, fun j u hj => ?_⟩
    match j, hj with
    | 0, hj =>
      simp [vals] at hj
      subst hj
      rw [addr_plus]
      simp [go_sem]
    | 1, hj =>
      simp [vals] at hj
      subst hj
      rw [addr_plus]
      simp [go_sem]
    | j + 2, hj => simp [vals] at hj
  · exact H.out.1.up (by go_grown)
set_option maxHeartbeats 1000000 in
theorem windows_any (O C q : Nat) (l : List Int) (p : Option Addr) (n c : Nat) (hO : 1 ≤ O) (hC : 1 ≤ C) (hl : l.length ≤ 1000) (hc : n ≤ c) (hq : l.length / O / C = q) (w : World) (h : Nums .i64 w (.slice p n c) l) :
    Calls Tryd.prog 11 #[.int .i64 (O : Int), .int .i64 (C : Int), .slice p n c] w fun e w' => ∃ v, e = .returned v ∧ TnC [(O : Int), (C : Int), (q : Int)] l v w' ∧ Below w.heap.size w w' := by
  have H : Hid (Nums .i64 w (.slice p n c) l ∧ n ≤ c) := ⟨h, hc⟩
  obtain ⟨_, _, _, e4, HX⟩ := h.lst
  cases e4
  have em := HX.out.1
  rw [em] at hl hq
  obtain ⟨r, er⟩ : ∃ r, n / O = r := ⟨_, rfl⟩
  rw [er] at hq
  have hO' : 1 ≤ (O : Int) := by omega
  have hC' : 1 ≤ (C : Int) := by omega
  have hm' : (n : Int) ≤ 1000 := by omega
  have er' : (n : Int) / (O : Int) = (r : Int) := by rw [← er]; rfl
  have hq' : (r : Int) / (C : Int) = (q : Int) := by rw [← hq]; rfl
  have hr2 : (r : Int) ≤ 1000 := by have := Nat.div_le_self n O; omega
  have hq2 : (q : Int) ≤ 1000 := by have := Nat.div_le_self r C; omega
  clear h em hq er HX hc
  go_enter Tryd.func11, Tryd.ntmps11
  go_wp2
  refine bodyPost_ret (v := .agg #[.slice (some ⟨w.heap.size + 1, 0, none⟩) 3 3, .slice p n c]) (by simp [results, Tryd.results11, go_sem]) rfl ⟨_, rfl, ⟨_, _, _, _, _, _, rfl, ?_, ?_, H.out.2⟩, by go_grown⟩
  · refine .inr ⟨_, 3, rfl, fun j u hj => ?_⟩
    match j, hj with
    | 0, hj =>
      simp [vals] at hj
      subst hj
      rw [addr_plus]
      simp [go_sem]
    | 1, hj =>
      simp [vals] at hj
      subst hj
      rw [addr_plus]
      simp [go_sem]
    | 2, hj =>
      simp [vals] at hj
      subst hj
      rw [addr_plus]
      simp [go_sem]
    | j + 3, hj => simp [vals] at hj
  · exact H.out.1.up (by go_grown)
theorem rows_lit (N q : Nat) (l : List Int) (u : Value) (hN : 1 ≤ N) (hl : l.length ≤ 1000) (hq : l.length / N = q) (w : World) (h : LitN l u w) :
    Calls Tryd.prog 10 #[.int .i64 (N : Int), u] w fun e w' => ∃ v, e = .returned v ∧ TnC [(N : Int), (q : Int)] l v w' ∧ Below w.heap.size w w' := by
  obtain ⟨g, rfl, h1⟩ := h
  exact rows_any N q l _ _ _ hN hl (Nat.le_refl _) hq w h1
theorem windows_lit (O C q : Nat) (l : List Int) (u : Value) (hO : 1 ≤ O) (hC : 1 ≤ C) (hl : l.length ≤ 1000) (hq : l.length / O / C = q) (w : World) (h : LitN l u w) :
    Calls Tryd.prog 11 #[.int .i64 (O : Int), .int .i64 (C : Int), u] w fun e w' => ∃ v, e = .returned v ∧ TnC [(O : Int), (C : Int), (q : Int)] l v w' ∧ Below w.heap.size w w' := by
  obtain ⟨g, rfl, h1⟩ := h
  exact windows_any O C q l _ _ _ hO hC hl (Nat.le_refl _) hq w h1
theorem aw8R : rwE [1, 3] [1, 2, 3] [1, 1, 2] [4294967296, 4294967296] 1 = 0 ∧ rwD [1, 3] [1, 2, 3] [1, 1, 2] [4294967296, 4294967296] 1 = [1, 2] ∧ rwV [1, 3] [1, 2, 3] [1, 1, 2] [4294967296, 4294967296] 1 = [3, 5] := by decide +kernel
set_option maxRecDepth 8000 in
set_option maxHeartbeats 4000000 in
theorem awake8_any (w : World) (hT : Hid (Tz w)) :
    Calls Tryd.prog 9 #[] w fun e w' => e = .returned (.bool true) ∧ Below w.heap.size w w' := by
  haveI : Nonempty World := ⟨w⟩
  go_enter Tryd.func9, Tryd.ntmps9
  go_wp2_with fail
  generalize hW1 : World.alloc _ _ = W1
  have hB1 : Below w.heap.size w W1 := by rw [← hW1]; exact up_alloc w _
  have L1 : LitN [1, 2, 3] (.slice (some ⟨w.heap.size, 0, none⟩) 3 3) W1 := ⟨_, rfl, by rw [← hW1]; exact nums_lit (k := .i64) w [1, 2, 3] 3 (0, 0) rfl⟩
  have HB1 : Hid (Below w.heap.size w W1) := hB1
  clear hW1 hB1
  refine (rows_lit 1 3 _ _ (by omega) (by simp) rfl W1 L1).mono ?_
  rintro e w2 ⟨v2, rfl, h2, hB2⟩
  have HB2 : Hid (Below w.heap.size w w2) := bstep HB1.out hB2
  have T2 : Hid (TnC [1, 3] [1, 2, 3] v2 w2) := h2
  clear h2 hB2 L1 HB1
  go_wp2_with fail
  generalize hW3 : World.alloc _ _ = W3
  have hB3 : Below w2.heap.size w2 W3 := by rw [← hW3]; exact up_alloc w2 _
  have L3 : LitN [4294967296, 4294967296] (.slice (some ⟨w2.heap.size, 0, none⟩) 2 2) W3 := ⟨_, rfl, by rw [← hW3]; exact nums_lit (k := .i64) w2 [4294967296, 4294967296] 2 (0, 0) rfl⟩
  have HB3 : Hid (Below w.heap.size w W3) := bstep HB2.out hB3
  have T3 : Hid (TnC [1, 3] [1, 2, 3] v2 W3) := T2.out.up hB3
  clear hW3 hB3 HB2 T2
  refine (windows_lit 1 1 2 _ _ (by omega) (by omega) (by simp) rfl W3 L3).mono ?_
  rintro e w4 ⟨v4, rfl, h4, hB4⟩
  have HB4 : Hid (Below w.heap.size w w4) := bstep HB3.out hB4
  have T4 : Hid (TnC [1, 3] [1, 2, 3] v2 w4 ∧ TnC [1, 1, 2] [4294967296, 4294967296] v4 w4) := ⟨T3.out.up hB4, h4⟩
  clear h4 hB4 L3 HB3 T3
  have cM := row_tn 1 T4.out.1.tn T4.out.2.tn (RI_kern (by decide +kernel)) (RI_kern (by decide +kernel)) (RI_kern (by decide +kernel)) (RI_kern (by decide +kernel)) (Hid.up_tz hT HB4.out)
  rw [aw8R.1, aw8R.2.1, aw8R.2.2] at cM
  go_wp2_with fail
  refine cM.mono ?_
  rintro e w5 ⟨v5, rfl, ⟨s5, t5, rfl, hs5, ht5⟩, hB5⟩
  obtain ⟨p5, n5, c5, rfl, _⟩ := hs5.nums.lst
  obtain ⟨p6, n6, c6, rfl, _⟩ := ht5.nums.lst
  have HB5 : Hid (Below w.heap.size w w5) := bstep HB4.out hB5
  have T5 : Hid (Tn [1, 2] [3, 5] (.agg #[.slice p5 n5 c5, .slice p6 n6 c6]) w5) := ⟨_, _, _, _, _, _, rfl, hs5.nums, ht5.nums⟩
  clear cM hs5 ht5 hB5 HB4 T4
  go_wp2_with fail
  generalize hW7 : World.alloc _ _ = W7
  have hB7 : Below w5.heap.size w5 W7 := by rw [← hW7]; exact up_alloc w5 _
  have X7 : Hid (Cel W7 w5.heap.size (.slice p5 n5 c5) (.slice p6 n6 c6)) := by show Cel _ _ _ _; unfold Cel; rw [← hW7]; simp [go_sem]
  have HB7 : Hid (Below w.heap.size w W7) := bstep HB5.out hB7
  have T7 : Hid (Tn [1, 2] [3, 5] (.agg #[.slice p5 n5 c5, .slice p6 n6 c6]) W7) := T5.out.up hB7
  clear hW7 hB7 HB5 T5
  obtain ⟨a0, a1, _, _⟩ := X7.out
  have z0 := cell_lt a0
  have HS : Hid (∀ W v, Below W7.heap.size W7 W → TnC [1, 2] [3, 5] v W → Calls Tryd.prog 16 #[.agg #[.slice p5 n5 c5, .slice p6 n6 c6], v] W fun e w' => e = .returned (.bool true) ∧ Below W.heap.size W w') := fun W v hW hv => by
    have := alike_tn (T7.out.up hW) hv.tn (by unfold Few; simp) (by unfold Few; simp)
    rw [decide_eq_true ⟨rfl, rfl⟩] at this
    exact this
  clear T7
  refine rel [⟨4, 15, LitN [3, 5]⟩, ⟨5, 16, TnC [1, 2] [3, 5]⟩] 8 19 (by kernel_rfl) rfl rfl (by kernel_rfl) (by rfl) ?_ ?_
  · intro e he v W W' h hb
    simp only [List.mem_cons, List.not_mem_nil, or_false] at he
    rcases he with rfl | rfl
    · exact LitN.up h hb
    · exact TnC.up h hb
  apply Exists.intro
  refine ⟨fun x => ?_, ?_, ?_⟩
  · simp only [List.take_succ_cons, List.take_zero]
    refine relQuiet rfl rfl ?_
    apply Exists.intro
    refine ⟨fun F hF hf K hK => ?_, ?_⟩
    · have hFc := hF.cell
      have hFf := hF.frozen
      go_big_quiet_op
      first | exact hK | (apply Exists.intro; refine ⟨fun _ => ?_, ?_⟩; (· fail); exact hK)
    (try simp only [Act.put, List.setIfInBounds_toArray, List.set_cons_zero, List.set_cons_succ])
    refine relQuiet rfl rfl ?_
    apply Exists.intro
    refine ⟨fun F hF hf K hK => ?_, ?_⟩
    · have hFc := hF.cell
      have hFf := hF.frozen
      go_big_quiet_op
      first | exact hK | (apply Exists.intro; refine ⟨fun _ => ?_, ?_⟩; (· fail); exact hK)
    (try simp only [Act.put, List.setIfInBounds_toArray, List.set_cons_zero, List.set_cons_succ])
    refine relQuiet rfl rfl ?_
    apply Exists.intro
    refine ⟨fun F hF hf K hK => ?_, ?_⟩
    · have hFc := hF.cell
      have hFf := hF.frozen
      go_big_quiet_op
      first | exact hK | (apply Exists.intro; refine ⟨fun _ => ?_, ?_⟩; (· fail); exact hK)
    (try simp only [Act.put, List.setIfInBounds_toArray, List.set_cons_zero, List.set_cons_succ])
    refine relQuiet rfl rfl ?_
    apply Exists.intro
    refine ⟨fun F hF hf K hK => ?_, ?_⟩
    · have hFc := hF.cell
      have hFf := hF.frozen
      go_big_quiet_op
      first | exact hK | (apply Exists.intro; refine ⟨fun _ => ?_, ?_⟩; (· fail); exact hK)
    (try simp only [Act.put, List.setIfInBounds_toArray, List.set_cons_zero, List.set_cons_succ])
    refine relTold rfl rfl ?_ ?_
    · intro F hF hf d
      have hFc := hF.cell
      have hFf := hF.frozen
      simp [yieldsR, yieldsUpon, go_sem]
      exact ⟨⟨(F d).heap.size, rfl, nums_lit (k := .i64) (F d) [3, 5] 2 (0, 0) rfl⟩, up_alloc _ _⟩
    (try simp only [Act.put, List.setIfInBounds_toArray, List.set_cons_zero, List.set_cons_succ])
    refine relTold rfl rfl ?_ ?_
    · intro F hF hf d
      have hFc := hF.cell
      have hFf := hF.frozen
      have h9 := hf _ List.mem_cons_self (by rfl) d
      simp [yieldsR, yieldsUpon, go_sem]
      refine (rows_lit 1 2 _ _ (by omega) (by simp) rfl (F d) h9).mono ?_
      rintro e' w8 ⟨v8, rfl, h8, hb8⟩
      exact ⟨_, rfl, h8, hb8⟩
    (try simp only [Act.put, List.setIfInBounds_toArray, List.set_cons_zero, List.set_cons_succ])
    refine relQuiet rfl rfl ?_
    apply Exists.intro
    refine ⟨fun F hF hf K hK => ?_, ?_⟩
    · have hFc := hF.cell
      have hFf := hF.frozen
      go_big_quiet_op
      first | exact hK | (apply Exists.intro; refine ⟨fun _ => ?_, ?_⟩; (· exact hF.call (HS.out _ _ (hF.below _) (hf _ (List.mem_cons_of_mem _ List.mem_cons_self) (by rfl) _))); exact hK)
    (try simp only [Act.put, List.setIfInBounds_toArray, List.set_cons_zero, List.set_cons_succ])
    refine relQuiet rfl rfl ?_
    apply Exists.intro
    refine ⟨fun F hF hf K hK => ?_, ?_⟩
    · have hFc := hF.cell
      have hFf := hF.frozen
      go_big_quiet_op
      first | exact hK | (apply Exists.intro; refine ⟨fun _ => ?_, ?_⟩; (· fail); exact hK)
    (try simp only [Act.put, List.setIfInBounds_toArray, List.set_cons_zero, List.set_cons_succ])
    refine relEnd ?_
    exact rfl
  · exact fun x => rfl
  · intro w9 xs hB9 hf
    simp only [List.drop_succ_cons, List.drop_zero]
    have HB9 : Hid (Below w.heap.size w w9) := bstep HB7.out hB9
    clear hf hB9
    go_wp2
    go_ret
    exact ⟨rfl, HB9.out⟩
end Go.Proofs.YtnicknnhboanoaaDoor.Wd
