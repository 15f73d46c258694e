/- What the reference's sums, differences, orders, shifts and quotients of 128 bits are. -/
import Derived.Test.YtdbndpcbejofkaaDoorWRefA
import Derived.Deep.RegionHeld3
namespace Go.Proofs.YtdbndpcbejofkaaDoor.Wd
open Go.RowKit Fx Rf
set_option linter.unusedVariables false
set_option linter.unusedSimpArgs false
attribute [local go_sem] fld_hi fld_lo setCell_drewN alloc_drewN
theorem below_up2 {w W W1 : World} (h : Below w.heap.size w W) (hb : Below W.heap.size W W1) : Below w.heap.size w W1 := h.trans (hb.mono h.size)
theorem off_two {W : World} {b c i : Nat} {x0 x1 v : Value} (hne : c ≠ b) (h : W.cell? ⟨c, i, none⟩ = some v) : ((W.setCell ⟨b, 0, none⟩ x0).setCell ⟨b, 1, none⟩ x1).cell? ⟨c, i, none⟩ = some v := by
  rw [World.cell?_setCell_other _ _ _ _ (by simp; try omega), World.cell?_setCell_other _ _ _ _ (by simp; try omega)]
  exact h
theorem up4 {W W1 : World} {b c : Nat} {x0 x1 x2 x3 : Value} (hb : Below W.heap.size W W1) (h : W.cell? ⟨b, 0, none⟩ = some x0 ∧ W.cell? ⟨b, 1, none⟩ = some x1 ∧ W.cell? ⟨c, 0, none⟩ = some x2 ∧ W.cell? ⟨c, 1, none⟩ = some x3) :
    W1.cell? ⟨b, 0, none⟩ = some x0 ∧ W1.cell? ⟨b, 1, none⟩ = some x1 ∧ W1.cell? ⟨c, 0, none⟩ = some x2 ∧ W1.cell? ⟨c, 1, none⟩ = some x3 :=
  ⟨keep hb h.1, keep hb h.2.1, keep hb h.2.2.1, keep hb h.2.2.2⟩
theorem upR {W W1 : World} {b : Nat} {x0 x1 : Value} (hb : Below W.heap.size W W1) (h : W.cell? ⟨b, 0, none⟩ = some x0 ∧ W.cell? ⟨b, 1, none⟩ = some x1 ∧ W.frozen? ⟨b, 0, none⟩ = false ∧ W.frozen? ⟨b, 1, none⟩ = false) :
    W1.cell? ⟨b, 0, none⟩ = some x0 ∧ W1.cell? ⟨b, 1, none⟩ = some x1 ∧ W1.frozen? ⟨b, 0, none⟩ = false ∧ W1.frozen? ⟨b, 1, none⟩ = false :=
  ⟨keep hb h.1, keep hb h.2.1, keepf hb h.1 h.2.2.1, keepf hb h.2.1 h.2.2.2⟩
set_option maxHeartbeats 4000000 in
set_option maxRecDepth 20000 in
theorem wadd_ref (a b : Int) (ha : InW a) (hb : InW b) (w : World) :
    Calls Tryd.prog 18 #[wd a, wd b] w fun e w' => e = .returned (wd (wr (a + b))) ∧ Below w.heap.size w w' := by
  obtain ⟨ah, al, ea, a1, a2, a3, a4, Ha⟩ := words ha
  obtain ⟨bh, bl, eb, b1, b2, b3, b4, Hb⟩ := words hb
  obtain ⟨oh, ol, eo, o1, o2, o3, o4, Ho⟩ := words (wr_rng (a + b))
  have na : ∀ W : World, Calls Tryd.prog 25 #[.agg #[.int .i64 ah, .int .u64 al]] W fun e w' => ∃ v, e = .returned v ∧ IsN v (decide (a < 0)) (a.natAbs : Int) ∧ Below W.heap.size W w' := by
    intro W
    have := num_ref a ha W
    rw [ea] at this
    exact this
  have nb : ∀ W : World, Calls Tryd.prog 25 #[.agg #[.int .i64 bh, .int .u64 bl]] W fun e w' => ∃ v, e = .returned v ∧ IsN v (decide (b < 0)) (b.natAbs : Int) ∧ Below W.heap.size W w' := by
    intro W
    have := num_ref b hb W
    rw [eb] at this
    exact this
  have nw : ∀ (v : Value) (s : Bool) (x : Int), IsN v s x → wr (sv s x) = wr (a + b) → ∀ W : World, Calls Tryd.prog 29 #[v] W fun e w' => e = .returned (.agg #[.int .i64 oh, .int .u64 ol]) ∧ Below W.heap.size W w' := by
    intro v s x hv hx W
    have := wide_ref v s x hv W
    rw [hx, eo] at this
    exact this
  have hsm : (a.natAbs : Int) + (b.natAbs : Int) < 115792089237316195423570985008687907853269984665640564039457584007913129639936 := by unfold InW at ha hb; omega
  rw [ea, eb, eo]
  clear ea eb eo Ha Hb Ho
  go_enter Tryd.func18, Tryd.ntmps18
  go_wp2_with fail
  go_region_held3 (fun W => W.cell? ⟨w.heap.size, 0, none⟩ = some (.int .i64 ah) ∧ W.cell? ⟨w.heap.size, 1, none⟩ = some (.int .u64 al) ∧ W.cell? ⟨w.heap.size + 1, 0, none⟩ = some (.int .i64 bh) ∧ W.cell? ⟨w.heap.size + 1, 1, none⟩ = some (.int .u64 bl)) (first | assumption | ((refine ⟨off_two (by omega) ?_, off_two (by omega) ?_, off_two (by omega) ?_, off_two (by omega) ?_⟩ <;> first | assumption | simp [*]); done) | (go_keep; done))
    (first
      | (go_at_call 25; (first | (with_reducible refine (na _).mono ?_) | (with_reducible refine (nb _).mono ?_)); rintro e' w' ⟨v, rfl, hv, hbb⟩; have hS := up4 (b := w.heap.size) (c := w.heap.size + 1) (x0 := .int .i64 ah) (x1 := .int .u64 al) (x2 := .int .i64 bh) (x3 := .int .u64 bl) hbb (by first | assumption | go_keep); have hR := upR (b := w.heap.size + 1 + 1) (x0 := .int .i64 0) (x1 := .int .u64 0) hbb (by first | assumption | simp [go_sem, *]); have hBB := below_up2 (w := w) (by first | assumption | go_grown) hbb)
      | (go_at_call 33; with_reducible refine (plus_any _ _ _ _ _ _ (by assumption) (by assumption) hsm _).mono ?_; rintro e' w' ⟨z, r, m, rfl, hz, hs, hbb⟩; have hS := up4 (b := w.heap.size) (c := w.heap.size + 1) (x0 := .int .i64 ah) (x1 := .int .u64 al) (x2 := .int .i64 bh) (x3 := .int .u64 bl) hbb (by first | assumption | go_keep); have hR := upR (b := w.heap.size + 1 + 1) (x0 := .int .i64 0) (x1 := .int .u64 0) hbb (by first | assumption | simp [go_sem, *]); have hBB := below_up2 (w := w) (by first | assumption | go_grown) hbb)
      | (go_at_call 29; with_reducible refine (nw _ _ _ (by assumption) (by rw [hs, sv_from, sv_from]) _).mono ?_; rintro e' w' ⟨rfl, hbb⟩; have hS := up4 (b := w.heap.size) (c := w.heap.size + 1) (x0 := .int .i64 ah) (x1 := .int .u64 al) (x2 := .int .i64 bh) (x3 := .int .u64 bl) hbb (by first | assumption | go_keep); have hR := upR (b := w.heap.size + 1 + 1) (x0 := .int .i64 0) (x1 := .int .u64 0) hbb (by first | assumption | simp [go_sem, *]); have hBB := below_up2 (w := w) (by first | assumption | go_grown) hbb))
  all_goals
    go_wp2
    obtain ⟨f0, f1⟩ := two _ (w.heap.size + 1 + 1) (.int .i64 oh) (.int .u64 ol) hR.1 hR.2.1
    exact bodyPost_ret (v := .agg #[.int .i64 oh, .int .u64 ol]) (by simp [results, Tryd.results18, go_sem, f0, f1]) rfl ⟨rfl, by go_grown⟩
set_option maxHeartbeats 1000000 in
set_option maxRecDepth 20000 in
theorem wneg_ref (a : Int) (ha : InW a) (w : World) :
    Calls Tryd.prog 21 #[wd a] w fun e w' => e = .returned (wd (wr (-a))) ∧ Below w.heap.size w w' := by
  obtain ⟨ah, al, ea, a1, a2, a3, a4, Ha⟩ := words ha
  obtain ⟨oh, ol, eo, o1, o2, o3, o4, Ho⟩ := words (wr_rng (-a))
  have na : ∀ W : World, Calls Tryd.prog 25 #[.agg #[.int .i64 ah, .int .u64 al]] W fun e w' => ∃ v, e = .returned v ∧ IsN v (decide (a < 0)) (a.natAbs : Int) ∧ Below W.heap.size W w' := by
    intro W
    have := num_ref a ha W
    rw [ea] at this
    exact this
  have nw : ∀ (v : Value) (s : Bool) (x : Int), IsN v s x → wr (sv s x) = wr (-a) → ∀ W : World, Calls Tryd.prog 29 #[v] W fun e w' => e = .returned (.agg #[.int .i64 oh, .int .u64 ol]) ∧ Below W.heap.size W w' := by
    intro v s x hv hx W
    have := wide_ref v s x hv W
    rw [hx, eo] at this
    exact this
  rw [ea, eo]
  clear eo
  go_enter Tryd.func21, Tryd.ntmps21
  go_wp2_with fail
  refine (na _).mono ?_
  rintro e' w1 ⟨v, rfl, hv, hb1⟩
  have B1 : Below w.heap.size w w1 := Below.trans (by go_grown) (hb1.mono (by first | omega | (simp; try omega)))
  have qa01 : w1.cell? ⟨w.heap.size, 0, none⟩ = some (.int .i64 ah) := keep hb1 (by first | assumption | simp [go_sem, *])
  have za01 : w1.frozen? ⟨w.heap.size, 0, none⟩ = false := keepf hb1 (v := .int .i64 ah) (by first | assumption | simp [go_sem, *]) (by first | assumption | simp [go_sem, *])
  have qa11 : w1.cell? ⟨w.heap.size, 1, none⟩ = some (.int .u64 al) := keep hb1 (by first | assumption | simp [go_sem, *])
  have za11 : w1.frozen? ⟨w.heap.size, 1, none⟩ = false := keepf hb1 (v := .int .u64 al) (by first | assumption | simp [go_sem, *]) (by first | assumption | simp [go_sem, *])
  have qb01 : w1.cell? ⟨w.heap.size + 1, 0, none⟩ = some (.int .i64 0) := keep hb1 (by first | assumption | simp [go_sem, *])
  have zb01 : w1.frozen? ⟨w.heap.size + 1, 0, none⟩ = false := keepf hb1 (v := .int .i64 0) (by first | assumption | simp [go_sem, *]) (by first | assumption | simp [go_sem, *])
  have qb11 : w1.cell? ⟨w.heap.size + 1, 1, none⟩ = some (.int .u64 0) := keep hb1 (by first | assumption | simp [go_sem, *])
  have zb11 : w1.frozen? ⟨w.heap.size + 1, 1, none⟩ = false := keepf hb1 (v := .int .u64 0) (by first | assumption | simp [go_sem, *]) (by first | assumption | simp [go_sem, *])
  have sz1 := hb1.size
  (try simp at sz1)
  clear hb1
  go_wp2_with fail
  refine (turned_any v _ _ hv _).mono ?_
  rintro e' w2 ⟨t, rfl, ht, hb2⟩
  have B2 := below_up2 B1 hb2
  have qa02 : w2.cell? ⟨w.heap.size, 0, none⟩ = some (.int .i64 ah) := keep hb2 (by first | assumption | simp [go_sem, *])
  have za02 : w2.frozen? ⟨w.heap.size, 0, none⟩ = false := keepf hb2 (v := .int .i64 ah) (by first | assumption | simp [go_sem, *]) (by first | assumption | simp [go_sem, *])
  have qa12 : w2.cell? ⟨w.heap.size, 1, none⟩ = some (.int .u64 al) := keep hb2 (by first | assumption | simp [go_sem, *])
  have za12 : w2.frozen? ⟨w.heap.size, 1, none⟩ = false := keepf hb2 (v := .int .u64 al) (by first | assumption | simp [go_sem, *]) (by first | assumption | simp [go_sem, *])
  have qb02 : w2.cell? ⟨w.heap.size + 1, 0, none⟩ = some (.int .i64 0) := keep hb2 (by first | assumption | simp [go_sem, *])
  have zb02 : w2.frozen? ⟨w.heap.size + 1, 0, none⟩ = false := keepf hb2 (v := .int .i64 0) (by first | assumption | simp [go_sem, *]) (by first | assumption | simp [go_sem, *])
  have qb12 : w2.cell? ⟨w.heap.size + 1, 1, none⟩ = some (.int .u64 0) := keep hb2 (by first | assumption | simp [go_sem, *])
  have zb12 : w2.frozen? ⟨w.heap.size + 1, 1, none⟩ = false := keepf hb2 (v := .int .u64 0) (by first | assumption | simp [go_sem, *]) (by first | assumption | simp [go_sem, *])
  have sz2 := hb2.size
  (try simp at sz2)
  clear hb2
  go_wp2_with fail
  refine (nw t _ _ ht (by rw [sv_turn, sv_from]) _).mono ?_
  rintro e' w3 ⟨rfl, hb3⟩
  have B3 := below_up2 B2 hb3
  have qa03 : w3.cell? ⟨w.heap.size, 0, none⟩ = some (.int .i64 ah) := keep hb3 (by first | assumption | simp [go_sem, *])
  have za03 : w3.frozen? ⟨w.heap.size, 0, none⟩ = false := keepf hb3 (v := .int .i64 ah) (by first | assumption | simp [go_sem, *]) (by first | assumption | simp [go_sem, *])
  have qa13 : w3.cell? ⟨w.heap.size, 1, none⟩ = some (.int .u64 al) := keep hb3 (by first | assumption | simp [go_sem, *])
  have za13 : w3.frozen? ⟨w.heap.size, 1, none⟩ = false := keepf hb3 (v := .int .u64 al) (by first | assumption | simp [go_sem, *]) (by first | assumption | simp [go_sem, *])
  have qb03 : w3.cell? ⟨w.heap.size + 1, 0, none⟩ = some (.int .i64 0) := keep hb3 (by first | assumption | simp [go_sem, *])
  have zb03 : w3.frozen? ⟨w.heap.size + 1, 0, none⟩ = false := keepf hb3 (v := .int .i64 0) (by first | assumption | simp [go_sem, *]) (by first | assumption | simp [go_sem, *])
  have qb13 : w3.cell? ⟨w.heap.size + 1, 1, none⟩ = some (.int .u64 0) := keep hb3 (by first | assumption | simp [go_sem, *])
  have zb13 : w3.frozen? ⟨w.heap.size + 1, 1, none⟩ = false := keepf hb3 (v := .int .u64 0) (by first | assumption | simp [go_sem, *]) (by first | assumption | simp [go_sem, *])
  have sz3 := hb3.size
  (try simp at sz3)
  clear hb3
  go_wp2
  obtain ⟨f0, f1⟩ := two w3 (w.heap.size + 1) (.int .i64 oh) (.int .u64 ol) qb03 qb13
  exact bodyPost_ret (v := .agg #[.int .i64 oh, .int .u64 ol]) (by simp [results, Tryd.results21, go_sem, f0, f1]) rfl ⟨rfl, by go_grown⟩
set_option maxHeartbeats 4000000 in
set_option maxRecDepth 20000 in
theorem wsub_ref (a b : Int) (ha : InW a) (hb : InW b) (w : World) :
    Calls Tryd.prog 20 #[wd a, wd b] w fun e w' => e = .returned (wd (wr (a - b))) ∧ Below w.heap.size w w' := by
  obtain ⟨ah, al, ea, a1, a2, a3, a4, Ha⟩ := words ha
  obtain ⟨bh, bl, eb, b1, b2, b3, b4, Hb⟩ := words hb
  obtain ⟨oh, ol, eo, o1, o2, o3, o4, Ho⟩ := words (wr_rng (a - b))
  have na : ∀ W : World, Calls Tryd.prog 25 #[.agg #[.int .i64 ah, .int .u64 al]] W fun e w' => ∃ v, e = .returned v ∧ IsN v (decide (a < 0)) (a.natAbs : Int) ∧ Below W.heap.size W w' := by
    intro W
    have := num_ref a ha W
    rw [ea] at this
    exact this
  have nb : ∀ W : World, Calls Tryd.prog 25 #[.agg #[.int .i64 bh, .int .u64 bl]] W fun e w' => ∃ v, e = .returned v ∧ IsN v (decide (b < 0)) (b.natAbs : Int) ∧ Below W.heap.size W w' := by
    intro W
    have := num_ref b hb W
    rw [eb] at this
    exact this
  have nw : ∀ (v : Value) (s : Bool) (x : Int), IsN v s x → wr (sv s x) = wr (a - b) → ∀ W : World, Calls Tryd.prog 29 #[v] W fun e w' => e = .returned (.agg #[.int .i64 oh, .int .u64 ol]) ∧ Below W.heap.size W w' := by
    intro v s x hv hx W
    have := wide_ref v s x hv W
    rw [hx, eo] at this
    exact this
  have hsm : (a.natAbs : Int) + (b.natAbs : Int) < 115792089237316195423570985008687907853269984665640564039457584007913129639936 := by unfold InW at ha hb; omega
  rw [ea, eb, eo]
  clear ea eb eo Ha Hb Ho
  go_enter Tryd.func20, Tryd.ntmps20
  go_wp2_with fail
  go_region_held3 (fun W => W.cell? ⟨w.heap.size, 0, none⟩ = some (.int .i64 ah) ∧ W.cell? ⟨w.heap.size, 1, none⟩ = some (.int .u64 al) ∧ W.cell? ⟨w.heap.size + 1, 0, none⟩ = some (.int .i64 bh) ∧ W.cell? ⟨w.heap.size + 1, 1, none⟩ = some (.int .u64 bl)) (first | assumption | ((refine ⟨off_two (by omega) ?_, off_two (by omega) ?_, off_two (by omega) ?_, off_two (by omega) ?_⟩ <;> first | assumption | simp [*]); done) | (go_keep; done))
    (first
      | (go_at_call 25; (first | (with_reducible refine (na _).mono ?_) | (with_reducible refine (nb _).mono ?_)); rintro e' w' ⟨v, rfl, hv, hbb⟩; have hS := up4 (b := w.heap.size) (c := w.heap.size + 1) (x0 := .int .i64 ah) (x1 := .int .u64 al) (x2 := .int .i64 bh) (x3 := .int .u64 bl) hbb (by first | assumption | go_keep); have hR := upR (b := w.heap.size + 1 + 1) (x0 := .int .i64 0) (x1 := .int .u64 0) hbb (by first | assumption | simp [go_sem, *]); have hBB := below_up2 (w := w) (by first | assumption | go_grown) hbb)
      | (go_at_call 48; with_reducible refine (turned_any _ _ _ (by assumption) _).mono ?_; rintro e' w' ⟨t, rfl, ht, hbb⟩; have hS := up4 (b := w.heap.size) (c := w.heap.size + 1) (x0 := .int .i64 ah) (x1 := .int .u64 al) (x2 := .int .i64 bh) (x3 := .int .u64 bl) hbb (by first | assumption | go_keep); have hR := upR (b := w.heap.size + 1 + 1) (x0 := .int .i64 0) (x1 := .int .u64 0) hbb (by first | assumption | simp [go_sem, *]); have hBB := below_up2 (w := w) (by first | assumption | go_grown) hbb)
      | (go_at_call 33; with_reducible refine (plus_any _ _ _ _ _ _ (by assumption) (by assumption) hsm _).mono ?_; rintro e' w' ⟨z, r, m, rfl, hz, hs, hbb⟩; have hS := up4 (b := w.heap.size) (c := w.heap.size + 1) (x0 := .int .i64 ah) (x1 := .int .u64 al) (x2 := .int .i64 bh) (x3 := .int .u64 bl) hbb (by first | assumption | go_keep); have hR := upR (b := w.heap.size + 1 + 1) (x0 := .int .i64 0) (x1 := .int .u64 0) hbb (by first | assumption | simp [go_sem, *]); have hBB := below_up2 (w := w) (by first | assumption | go_grown) hbb)
      | (go_at_call 29; with_reducible refine (nw _ _ _ (by assumption) (by rw [hs, sv_turn, sv_from, sv_from, ← Int.sub_eq_add_neg]) _).mono ?_; rintro e' w' ⟨rfl, hbb⟩; have hS := up4 (b := w.heap.size) (c := w.heap.size + 1) (x0 := .int .i64 ah) (x1 := .int .u64 al) (x2 := .int .i64 bh) (x3 := .int .u64 bl) hbb (by first | assumption | go_keep); have hR := upR (b := w.heap.size + 1 + 1) (x0 := .int .i64 0) (x1 := .int .u64 0) hbb (by first | assumption | simp [go_sem, *]); have hBB := below_up2 (w := w) (by first | assumption | go_grown) hbb))
  all_goals
    go_wp2
    obtain ⟨f0, f1⟩ := two _ (w.heap.size + 1 + 1) (.int .i64 oh) (.int .u64 ol) hR.1 hR.2.1
    exact bodyPost_ret (v := .agg #[.int .i64 oh, .int .u64 ol]) (by simp [results, Tryd.results20, go_sem, f0, f1]) rfl ⟨rfl, by go_grown⟩
theorem cmp_ref (a b : Int) (w : World) :
    Calls Tryd.prog 49 #[.int .i64 a, .int .i64 b] w fun e w' => e = .returned (.int .i64 (cmpI a b)) ∧ w' = w := by
  go_enter Tryd.func49, Tryd.ntmps49
  go_wp2
  all_goals
    go_ret
    refine ⟨ret_int ?_, rfl⟩
    unfold cmpI
    split <;> (try split) <;> omega
set_option maxHeartbeats 1000000 in
theorem wcmp_ref (a b : Int) (ha : InW a) (hb : InW b) (w : World) :
    Calls Tryd.prog 22 #[wd a, wd b] w fun e w' => e = .returned (.int .i64 (cmpI a b)) ∧ Below w.heap.size w w' := by
  obtain ⟨ah, al, ea, a1, a2, a3, a4, Ha⟩ := words ha
  obtain ⟨bh, bl, eb, b1, b2, b3, b4, Hb⟩ := words hb
  have E : Hid ((if cmpI ah bh = 0 then cmpI al bl else cmpI ah bh) = cmpI a b) := by
    have h1 := Ha.out
    have h2 := Hb.out
    show _ = _
    rw [h1, h2]
    exact cmp_words ah al bh bl a3 a4 b3 b4
  have z1 : ah = bh → cmpI ah bh = 0 := by intro h; unfold cmpI; split <;> (try split) <;> omega
  have z2 : ah ≠ bh → cmpI ah bh ≠ 0 := by intro h; unfold cmpI; split <;> (try split) <;> omega
  have Z1 : Hid (ah = bh → cmpI ah bh = 0) := z1
  have Z2 : Hid (ah ≠ bh → cmpI ah bh ≠ 0) := z2
  rw [ea, eb]
  clear ea eb Ha Hb z1 z2
  by_cases h : ah = bh
  · have h' : (ah == bh) = true := by simpa using h
    have C : Hid (ah = bh) := h
    clear h
    go_enter Tryd.func22, Tryd.ntmps22
    go_wp2
    all_goals
      go_ret
      refine ⟨ret_int ?_, by go_grown⟩
      rw [← E.out, if_pos (Z1.out C.out)]
      unfold cmpI
      split <;> (try split) <;> omega
  · have h' : (ah == bh) = false := by simpa using h
    have C : Hid (ah ≠ bh) := h
    have s1 := cmp_ref ah bh
    obtain ⟨y, ey⟩ : ∃ y, cmpI ah bh = y := ⟨_, rfl⟩
    have E2 : Hid (y = cmpI a b) := by
      have := E.out
      rw [if_neg (Z2.out h), ey] at this
      exact this
    rw [ey] at s1
    clear h
    go_enter Tryd.func22, Tryd.ntmps22
    go_wp2_with (go_at_call 49; refine (s1 _).mono ?_; rintro e' w1 ⟨rfl, rfl⟩)
    go_ret
    exact ⟨ret_int E2.out, by go_grown⟩
theorem halved_n (v : Value) (s : Bool) (x : Int) (n : Nat) (nn : Int) (en : nn = (n : Int)) (h1 : 1 ≤ n) (h2 : n ≤ 255) (hv : IsN v s x) (w : World) :
    Calls Tryd.prog 50 #[v, .int .i64 nn] w fun e w' => ∃ u, e = .returned u ∧ IsN u s (rqI x (2 ^ n)) ∧ Below w.heap.size w w' := by
  have hr := hv.rng
  obtain ⟨a0, a1, a2, a3, rfl, p0, p1, p2, p3, hX⟩ := hv
  exact Halved_low s a0 a1 a2 a3 p0 p1 p2 p3 n nn ⟨en, h1⟩ (by omega) x ⟨hX, hr.1, hr.2⟩ w
theorem sv_rq (a : Int) (d : Int) (hd : 0 < d) : sv (decide (a < 0)) (rqI (a.natAbs : Int) d) = rqI a d := by
  unfold sv
  by_cases h : a < 0
  · simp only [h, decide_true, if_true]
    rw [← rqI_neg _ _ hd, show -(a.natAbs : Int) = a by omega]
  · simp only [h, decide_false, Bool.false_eq_true, if_false]
    rw [show (a.natAbs : Int) = a by omega]
theorem rq_in (a : Int) (n : Nat) (h1 : 1 ≤ n) (ha : InW a) : InW (rqI a (2 ^ n)) := by
  obtain ⟨k, rfl⟩ : ∃ k, n = k + 1 := ⟨n - 1, by omega⟩
  have e1 := pow_le a (k + 1) ha
  have e2 := half_in a k ha
  unfold rqI
  split
  · exact e2
  · exact e1
set_option maxHeartbeats 1000000 in
set_option maxRecDepth 20000 in
theorem shift_far (a nn : Int) (n : Nat) (ha : InW a) (en : nn = (n : Int)) (h1 : 1 ≤ n) (h2 : n ≤ 126) (w : World) :
    Calls Tryd.prog 23 #[wd a, .int .i64 nn] w fun e w' => e = .returned (wd (rqI a (2 ^ n))) ∧ Below w.heap.size w w' := by
  obtain ⟨ah, al, ea, a1, a2, a3, a4, Ha⟩ := words ha
  obtain ⟨oh, ol, eo, o1, o2, o3, o4, Ho⟩ := words (rq_in a n h1 ha)
  have na : ∀ W : World, Calls Tryd.prog 25 #[.agg #[.int .i64 ah, .int .u64 al]] W fun e w' => ∃ v, e = .returned v ∧ IsN v (decide (a < 0)) (a.natAbs : Int) ∧ Below W.heap.size W w' := by
    intro W
    have := num_ref a ha W
    rw [ea] at this
    exact this
  have nw : ∀ (v : Value) (s : Bool) (x : Int), IsN v s x → wr (sv s x) = rqI a (2 ^ n) → ∀ W : World, Calls Tryd.prog 29 #[v] W fun e w' => e = .returned (.agg #[.int .i64 oh, .int .u64 ol]) ∧ Below W.heap.size W w' := by
    intro v s x hv hx W
    have := wide_ref v s x hv W
    rw [hx, eo] at this
    exact this
  have hn : 1 ≤ nn ∧ nn ≤ 126 := by omega
  have nv : ∀ (v : Value), IsN v (decide (a < 0)) (a.natAbs : Int) → ∀ W : World, Calls Tryd.prog 50 #[v, .int .i64 nn] W fun e w' => ∃ u, e = .returned u ∧ IsN u (decide (a < 0)) (rqI (a.natAbs : Int) (2 ^ n)) ∧ Below W.heap.size W w' := fun v hv W => halved_n v _ _ n nn en h1 (by omega) hv W
  have hfin : wr (sv (decide (a < 0)) (rqI (a.natAbs : Int) (2 ^ n))) = rqI a (2 ^ n) := by
    rw [sv_rq a _ (Int.pow_pos (by decide)), wr_in (rq_in a n h1 ha)]
  have Hfin : Hid (wr (sv (decide (a < 0)) (rqI (a.natAbs : Int) (2 ^ n))) = rqI a (2 ^ n)) := hfin
  rw [ea, eo]
  clear en h1 h2 hfin
  clear eo
  go_enter Tryd.func23, Tryd.ntmps23
  go_wp2_with fail
  refine (na _).mono ?_
  rintro e' w1 ⟨v, rfl, hv, hb1⟩
  have B1 : Below w.heap.size w w1 := Below.trans (by go_grown) (hb1.mono (by first | omega | (simp; try omega)))
  have qa01 : w1.cell? ⟨w.heap.size, 0, none⟩ = some (.int .i64 ah) := keep hb1 (by first | assumption | simp [go_sem, *])
  have za01 : w1.frozen? ⟨w.heap.size, 0, none⟩ = false := keepf hb1 (v := .int .i64 ah) (by first | assumption | simp [go_sem, *]) (by first | assumption | simp [go_sem, *])
  have qa11 : w1.cell? ⟨w.heap.size, 1, none⟩ = some (.int .u64 al) := keep hb1 (by first | assumption | simp [go_sem, *])
  have za11 : w1.frozen? ⟨w.heap.size, 1, none⟩ = false := keepf hb1 (v := .int .u64 al) (by first | assumption | simp [go_sem, *]) (by first | assumption | simp [go_sem, *])
  have qb01 : w1.cell? ⟨w.heap.size + 1, 0, none⟩ = some (.int .i64 0) := keep hb1 (by first | assumption | simp [go_sem, *])
  have zb01 : w1.frozen? ⟨w.heap.size + 1, 0, none⟩ = false := keepf hb1 (v := .int .i64 0) (by first | assumption | simp [go_sem, *]) (by first | assumption | simp [go_sem, *])
  have qb11 : w1.cell? ⟨w.heap.size + 1, 1, none⟩ = some (.int .u64 0) := keep hb1 (by first | assumption | simp [go_sem, *])
  have zb11 : w1.frozen? ⟨w.heap.size + 1, 1, none⟩ = false := keepf hb1 (v := .int .u64 0) (by first | assumption | simp [go_sem, *]) (by first | assumption | simp [go_sem, *])
  have sz1 := hb1.size
  (try simp at sz1)
  clear hb1
  go_wp2_with fail
  refine (nv v hv _).mono ?_
  rintro e' w2 ⟨u, rfl, hu, hb2⟩
  have B2 := below_up2 B1 hb2
  have qa02 : w2.cell? ⟨w.heap.size, 0, none⟩ = some (.int .i64 ah) := keep hb2 (by first | assumption | simp [go_sem, *])
  have za02 : w2.frozen? ⟨w.heap.size, 0, none⟩ = false := keepf hb2 (v := .int .i64 ah) (by first | assumption | simp [go_sem, *]) (by first | assumption | simp [go_sem, *])
  have qa12 : w2.cell? ⟨w.heap.size, 1, none⟩ = some (.int .u64 al) := keep hb2 (by first | assumption | simp [go_sem, *])
  have za12 : w2.frozen? ⟨w.heap.size, 1, none⟩ = false := keepf hb2 (v := .int .u64 al) (by first | assumption | simp [go_sem, *]) (by first | assumption | simp [go_sem, *])
  have qb02 : w2.cell? ⟨w.heap.size + 1, 0, none⟩ = some (.int .i64 0) := keep hb2 (by first | assumption | simp [go_sem, *])
  have zb02 : w2.frozen? ⟨w.heap.size + 1, 0, none⟩ = false := keepf hb2 (v := .int .i64 0) (by first | assumption | simp [go_sem, *]) (by first | assumption | simp [go_sem, *])
  have qb12 : w2.cell? ⟨w.heap.size + 1, 1, none⟩ = some (.int .u64 0) := keep hb2 (by first | assumption | simp [go_sem, *])
  have zb12 : w2.frozen? ⟨w.heap.size + 1, 1, none⟩ = false := keepf hb2 (v := .int .u64 0) (by first | assumption | simp [go_sem, *]) (by first | assumption | simp [go_sem, *])
  have sz2 := hb2.size
  (try simp at sz2)
  clear hb2
  go_wp2_with fail
  refine (nw u _ _ hu Hfin.out _).mono ?_
  rintro e' w3 ⟨rfl, hb3⟩
  have B3 := below_up2 B2 hb3
  have qa03 : w3.cell? ⟨w.heap.size, 0, none⟩ = some (.int .i64 ah) := keep hb3 (by first | assumption | simp [go_sem, *])
  have za03 : w3.frozen? ⟨w.heap.size, 0, none⟩ = false := keepf hb3 (v := .int .i64 ah) (by first | assumption | simp [go_sem, *]) (by first | assumption | simp [go_sem, *])
  have qa13 : w3.cell? ⟨w.heap.size, 1, none⟩ = some (.int .u64 al) := keep hb3 (by first | assumption | simp [go_sem, *])
  have za13 : w3.frozen? ⟨w.heap.size, 1, none⟩ = false := keepf hb3 (v := .int .u64 al) (by first | assumption | simp [go_sem, *]) (by first | assumption | simp [go_sem, *])
  have qb03 : w3.cell? ⟨w.heap.size + 1, 0, none⟩ = some (.int .i64 0) := keep hb3 (by first | assumption | simp [go_sem, *])
  have zb03 : w3.frozen? ⟨w.heap.size + 1, 0, none⟩ = false := keepf hb3 (v := .int .i64 0) (by first | assumption | simp [go_sem, *]) (by first | assumption | simp [go_sem, *])
  have qb13 : w3.cell? ⟨w.heap.size + 1, 1, none⟩ = some (.int .u64 0) := keep hb3 (by first | assumption | simp [go_sem, *])
  have zb13 : w3.frozen? ⟨w.heap.size + 1, 1, none⟩ = false := keepf hb3 (v := .int .u64 0) (by first | assumption | simp [go_sem, *]) (by first | assumption | simp [go_sem, *])
  have sz3 := hb3.size
  (try simp at sz3)
  clear hb3
  go_wp2
  obtain ⟨f0, f1⟩ := two w3 (w.heap.size + 1) (.int .i64 oh) (.int .u64 ol) qb03 qb13
  exact bodyPost_ret (v := .agg #[.int .i64 oh, .int .u64 ol]) (by simp [results, Tryd.results23, go_sem, f0, f1]) rfl ⟨rfl, by go_grown⟩
theorem shift_ref (a nn : Int) (ha : InW a) (hr : InR nn) (w : World) :
    Calls Tryd.prog 23 #[wd a, .int .i64 nn] w fun e w' => e = .returned (wd (if nn < 1 ∨ 126 < nn then a else rqI a (2 ^ nn.toNat))) ∧ Below w.heap.size w w' := by
  by_cases h : nn < 1 ∨ 126 < nn
  · rw [if_pos h]
    obtain ⟨ah, al, ea, a1, a2, a3, a4, Ha⟩ := words ha
    rw [ea]
    clear ea
    unfold InR at hr
    rcases h with h | h
    all_goals
      go_enter Tryd.func23, Tryd.ntmps23
      go_wp2
      exact bodyPost_ret (v := .agg #[.int .i64 ah, .int .u64 al]) (by simp [results, Tryd.results23, go_sem]) rfl ⟨rfl, by go_grown⟩
  · rw [if_neg h]
    exact shift_far a nn nn.toNat ha (by omega) (by omega) (by omega) w
end Go.Proofs.YtdbndpcbejofkaaDoor.Wd
