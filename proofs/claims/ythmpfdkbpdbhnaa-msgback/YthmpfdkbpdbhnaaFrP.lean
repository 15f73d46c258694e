/- The program's Decode. -/
import Derived.Test.YthmpfdkbpdbhnaaFrA
namespace Go.Proofs.Ythmpfdkbpdbhnaa.Wd
open Go.RowKit
set_option linter.unusedVariables false
set_option linter.unusedSimpArgs false
set_option maxRecDepth 8000
set_option maxHeartbeats 4000000
/-- A Reader at block g with l left, above a box that stands. -/
structure RdF (w : World) (g : Nat) (l : List Int) (W : World) : Prop where
  up : Below w.heap.size w W
  lt : w.heap.size < g
  rd : ∃ sp, Rd W g l sp
  box : W.heap[w.heap.size]? = some (.cells #[.int .i64 0, .int .i64 0, .int .i64 0, .int .u32 0, .int .u32 0, .slice none 0 0] 49 (0, 0))
theorem RdF.step {w W W' : World} {g : Nat} {l l' : List Int} {sp : Bool} (h : RdF w g l W) (hR : Rd W' g l' sp) (hb : But g W W') : RdF w g l' W' :=
  ⟨hb.below h.up (by have := h.lt; omega) h.up.size, h.lt, ⟨sp, hR⟩, (hb.block _ (heap_in8 h.box) (by have := h.lt; omega)).trans h.box⟩
theorem pfields_any (p : Option Addr) (n c : Nat) (l : List Int) (hl : By8 l) (hn2 : l.length ≤ 1073741000) (w : World) (hB : Bytes w (.slice p n c) l) :
    Calls Try.prog 38 #[.slice p n c] w fun e w' => ∃ vb, e = .returned (FrV (gK l) (gF l) (gT l) (gV l) (gS l) vb) ∧ Own8 w' w.heap.size vb (gB l) ∧ Below w.heap.size w w' := by
  haveI : Nonempty World := ⟨w⟩
  obtain ⟨rK, rF, rT, rV, rS, rN, rB⟩ := g_rng hl
  obtain ⟨K, eK⟩ : ∃ x, gK l = x := ⟨_, rfl⟩
  obtain ⟨F, eF⟩ : ∃ x, gF l = x := ⟨_, rfl⟩
  obtain ⟨T, eT⟩ : ∃ x, gT l = x := ⟨_, rfl⟩
  obtain ⟨V, eV⟩ : ∃ x, gV l = x := ⟨_, rfl⟩
  obtain ⟨S, eS⟩ : ∃ x, gS l = x := ⟨_, rfl⟩
  obtain ⟨N, eN⟩ : ∃ x, gN l = x := ⟨_, rfl⟩
  have HU : Hid (gK l = K ∧ gF l = F ∧ gT l = T ∧ gV l = V ∧ gS l = S ∧ gN l = N ∧ (0 ≤ N ∧ N < 65536) ∧ l.length ≤ 1073741000 ∧ By8 l ∧ Bytes w (.slice p n c) l) := ⟨eK, eF, eT, eV, eS, eN, by rw [← eN]; exact rN, hn2, hl, hB⟩
  rw [eK, eF, eT, eV, eS]
  clear rK rF rT rV rS rN rB eK eF eT eV eS eN hl hn2 hB
  go_enter Try.func38, Try.ntmps38
  go_wp2_with fail
  generalize hW0 : World.alloc _ _ = W0
  have H0 : Hid (Below w.heap.size w W0 ∧ W0.heap[w.heap.size]? = some (.cells #[.int .i64 0, .int .i64 0, .int .i64 0, .int .u32 0, .int .u32 0, .slice none 0 0] 49 (0, 0))) := by
    rw [← hW0]
    exact ⟨up_alloc _ _, by show (w.heap.push _)[w.heap.size]? = _; simp⟩
  clear hW0
  refine (read_any _ l (by have := HU.out.2.2.2.2.2.2.2.1; omega) HU.out.2.2.2.2.2.2.2.2.1 W0 (HU.out.2.2.2.2.2.2.2.2.2.up H0.out.1)).mono ?_
  rintro e W1 ⟨g, rfl, hg, hR, hb⟩
  have H1 : Hid (RdF w g l W1) := ⟨bstep H0.out.1 hb, by have := heap_in8 H0.out.2; omega, ⟨_, hR⟩, (hb.block _ (heap_in8 H0.out.2)).trans H0.out.2⟩
  clear hg hR hb H0
  go_wp2_with fail
  obtain ⟨sp, hr⟩ := H1.out.rd
  refine (ru8_any g l sp W1 hr).mono ?_
  rintro e W2 ⟨rfl, hR, hb⟩
  have H2 : Hid (RdF w g (left l 1) W2) := H1.out.step hR hb
  clear hr hR hb H1
  go_wp2_with fail
  obtain ⟨sp, hr⟩ := H2.out.rd
  refine (ru8_any g _ sp W2 hr).mono ?_
  rintro e W3 ⟨rfl, hR, hb⟩
  have H3 : Hid (RdF w g (lA l) W3) := H2.out.step hR hb
  clear hr hR hb H2
  go_wp2_with fail
  obtain ⟨sp, hr⟩ := H3.out.rd
  have cr := ru8_any g (lA l) sp W3 hr
  rw [show num (got (lA l) 1) = K from HU.out.1] at cr
  refine cr.mono ?_
  rintro e W4 ⟨rfl, hR, hb⟩
  have H4 : Hid (RdF w g (lK l) W4) := H3.out.step hR hb
  clear hr hR hb H3 cr
  go_wp2_with fail
  obtain ⟨sp, hr⟩ := H4.out.rd
  have cr := ru8_any g (lK l) sp W4 hr
  rw [show num (got (lK l) 1) = F from HU.out.2.1] at cr
  refine cr.mono ?_
  rintro e W5 ⟨rfl, hR, hb⟩
  have H5 : Hid (RdF w g (lF l) W5) := H4.out.step hR hb
  clear hr hR hb H4 cr
  go_wp2_with fail
  obtain ⟨sp, hr⟩ := H5.out.rd
  have cr := ru8_any g (lF l) sp W5 hr
  rw [show num (got (lF l) 1) = T from HU.out.2.2.1] at cr
  refine cr.mono ?_
  rintro e W6 ⟨rfl, hR, hb⟩
  have H6 : Hid (RdF w g (lT l) W6) := H5.out.step hR hb
  clear hr hR hb H5 cr
  go_wp2_with fail
  obtain ⟨sp, hr⟩ := H6.out.rd
  have cr := ru32_any g (lT l) sp W6 hr
  rw [show num (got (lT l) 4) = V from HU.out.2.2.2.1] at cr
  refine cr.mono ?_
  rintro e W7 ⟨rfl, hR, hb⟩
  have H7 : Hid (RdF w g (lV l) W7) := H6.out.step hR hb
  clear hr hR hb H6 cr
  go_wp2_with fail
  obtain ⟨sp, hr⟩ := H7.out.rd
  have cr := ru32_any g (lV l) sp W7 hr
  rw [show num (got (lV l) 4) = S from HU.out.2.2.2.2.1] at cr
  refine cr.mono ?_
  rintro e W8 ⟨rfl, hR, hb⟩
  have H8 : Hid (RdF w g (lS l) W8) := H7.out.step hR hb
  clear hr hR hb H7 cr
  go_wp2_with fail
  have kg : g < W8.heap.size := by
    obtain ⟨_, hr⟩ := H8.out.rd
    exact hr.lt
  generalize hW9 : World.alloc _ _ = W9
  have hA : Below W8.heap.size W8 W9 ∧ W9.heap[W8.heap.size]? = some (.cells #[.int .i64 K, .int .i64 F, .int .i64 T, .int .u32 V, .int .u32 S, .slice none 0 0] 49 (0, 0)) := by
    rw [← hW9]
    exact ⟨up_alloc _ _, by show (W8.heap.push _)[W8.heap.size]? = _; simp⟩
  have H9 : Hid (RdF w g (lS l) W9) := by
    obtain ⟨_, hr⟩ := H8.out.rd
    exact H8.out.step (hr.up hA.1) (But.of hA.1)
  obtain ⟨q, eq⟩ : ∃ q, W8.heap.size = q := ⟨_, rfl⟩
  rw [eq] at hA kg ⊢
  have HQ : Hid (g < q ∧ W9.heap[q]? = some (.cells #[.int .i64 K, .int .i64 F, .int .i64 T, .int .u32 V, .int .u32 S, .slice none 0 0] 49 (0, 0))) := ⟨kg, hA.2⟩
  clear kg hA H8 eq hW9
  obtain ⟨sp, hr⟩ := H9.out.rd
  have cr := ru16_any g (lS l) sp W9 hr
  rw [show num (got (lS l) 2) = N from HU.out.2.2.2.2.2.1] at cr
  refine cr.mono ?_
  rintro e W10 ⟨rfl, hR, hb⟩
  have H10 : Hid (RdF w g (lN l) W10 ∧ W10.heap[q]? = some (.cells #[.int .i64 K, .int .i64 F, .int .i64 T, .int .u32 V, .int .u32 S, .slice none 0 0] 49 (0, 0))) := ⟨H9.out.step hR hb, (hb.block _ (heap_in8 HQ.out.2) (by have := HQ.out.1; omega)).trans HQ.out.2⟩
  have kg : g < q := HQ.out.1
  clear hr hR hb H9 cr HQ
  go_wp2_with fail
  obtain ⟨sp, hr⟩ := H10.out.1.rd
  have cr := rbytes_any g (lN l) (by have := lN_le l; have := HU.out.2.2.2.2.2.2.2.1; omega) sp N (by have := HU.out.2.2.2.2.2.2.1; omega) W10 hr
  rw [show got (lN l) N = gB l by unfold gB; rw [HU.out.2.2.2.2.2.1]] at cr
  refine cr.mono ?_
  rintro e W11 ⟨vb, rfl, ho, hR, hb⟩
  have kw : w.heap.size < g := H10.out.1.lt
  have H11 : Hid (RdF w g (left (lN l) N) W11 ∧ W11.heap[q]? = some (.cells #[.int .i64 K, .int .i64 F, .int .i64 T, .int .u32 V, .int .u32 S, .slice none 0 0] 49 (0, 0)) ∧ Own8 W11 w.heap.size vb (gB l)) := ⟨H10.out.1.step hR hb, (hb.block _ (heap_in8 H10.out.2) (by omega)).trans H10.out.2, ho.low H10.out.1.up.size⟩
  have hw : w.heap.size < q := by omega
  clear hr hR hb cr ho H10 kg kw HU
  obtain ⟨pb, nb, cb, rfl⟩ := own8_sl H11.out.2.2
  obtain ⟨⟨y0, y1, y2, y3, y4, y5⟩, f0, f1, f2, f3, f4, f5⟩ := fr_cells H11.out.2.1
  have ky := cell_lt y0
  obtain ⟨⟨z0, z1, z2, z3, z4, z5⟩, e0, e1, e2, e3, e4, e5⟩ := fr_cells H11.out.1.box
  have kz := cell_lt z0
  have hb2 : (W11.setCell ⟨q, 5, none⟩ (.slice pb nb cb)).heap[w.heap.size]? = some (.cells #[.int .i64 0, .int .i64 0, .int .i64 0, .int .u32 0, .int .u32 0, .slice none 0 0] 49 (0, 0)) :=
    ((But.set (g := q) (o := 5) (w := W11) (.slice pb nb cb)).block _ kz (by omega)).trans H11.out.1.box
  have hU : Below w.heap.size w (W11.setCell ⟨q, 5, none⟩ (.slice pb nb cb)) := H11.out.1.up.setCell (p := ⟨q, 5, none⟩) (Nat.le_of_lt hw) _
  have hO : Own8 (W11.setCell ⟨q, 5, none⟩ (.slice pb nb cb)) w.heap.size (.slice pb nb cb) (gB l) := own8_stay H11.out.2.2 H11.out.2.1 ((Stay.refl _ _).set _ _)
  obtain ⟨W12, eW⟩ : ∃ W, W11.setCell ⟨q, 5, none⟩ (.slice pb nb cb) = W := ⟨_, rfl⟩
  rw [eW] at hb2 hU hO
  have HT := (fr_put (.int .i64 K) (.int .i64 F) (.int .i64 T) (.int .u32 V) (.int .u32 S) (.slice pb nb cb) hb2).2
  have HT := hid2 HT HT
  have HB : Hid (Own8 ((((((W12.setCell ⟨w.heap.size, 0, none⟩ (.int .i64 K)).setCell ⟨w.heap.size, 1, none⟩ (.int .i64 F)).setCell ⟨w.heap.size, 2, none⟩ (.int .i64 T)).setCell ⟨w.heap.size, 3, none⟩ (.int .u32 V)).setCell ⟨w.heap.size, 4, none⟩ (.int .u32 S)).setCell ⟨w.heap.size, 5, none⟩ (.slice pb nb cb)) w.heap.size (.slice pb nb cb) (gB l) ∧ Below w.heap.size w ((((((W12.setCell ⟨w.heap.size, 0, none⟩ (.int .i64 K)).setCell ⟨w.heap.size, 1, none⟩ (.int .i64 F)).setCell ⟨w.heap.size, 2, none⟩ (.int .i64 T)).setCell ⟨w.heap.size, 3, none⟩ (.int .u32 V)).setCell ⟨w.heap.size, 4, none⟩ (.int .u32 S)).setCell ⟨w.heap.size, 5, none⟩ (.slice pb nb cb))) := ⟨own8_stay hO hb2 (((((((Stay.refl _ _).set _ _).set _ _).set _ _).set _ _).set _ _).set _ _), ((((((hU.setCell (p := ⟨w.heap.size, 0, none⟩) (Nat.le_refl _) _).setCell (p := ⟨w.heap.size, 1, none⟩) (Nat.le_refl _) _).setCell (p := ⟨w.heap.size, 2, none⟩) (Nat.le_refl _) _).setCell (p := ⟨w.heap.size, 3, none⟩) (Nat.le_refl _) _).setCell (p := ⟨w.heap.size, 4, none⟩) (Nat.le_refl _) _).setCell (p := ⟨w.heap.size, 5, none⟩) (Nat.le_refl _) _)⟩
  have EW : Hid (W11.setCell ⟨q, 5, none⟩ (.slice pb nb cb) = W12) := eW
  clear hb2 hU hO H11 eW
  go_wp2_with fail
  rw [EW.out]
  obtain ⟨t0, t1, t2, t3, t4, t5⟩ := HT.out.1
  exact bodyPost_ret (v := FrV K F T V S (.slice pb nb cb)) (by unfold FrV; simp [results, Try.results38, go_sem, t0, t1, t2, t3, t4, t5]) rfl ⟨.slice pb nb cb, rfl, HB.out⟩
theorem pfdec_any (p : Option Addr) (n c : Nat) (l : List Int) (hl : By8 l) (hn : l.length = n) (hn2 : n ≤ 1073741000) (hnc : n ≤ c) (w : World) (hB : Bytes w (.slice p n c) l) :
    Calls Try.prog 19 #[.slice p n c] w fun e w' => ∃ vb, e = .returned (.tuple #[FrD l vb, .int .i64 (if decP l then 0 else 3)]) ∧ Own8 w' w.heap.size vb (dB8 l) ∧ Below w.heap.size w w' := by
  haveI : Nonempty World := ⟨w⟩
  obtain ⟨z, ez⟩ : ∃ z, (if decP l then (0 : Int) else 3) = z := ⟨_, rfl⟩
  have HZ : Hid ((if decP l then (0 : Int) else 3) = z) := ez
  rw [ez]
  clear ez
  obtain ⟨rK, rF, rT, rV, rS, rN, rB⟩ := g_rng hl
  obtain ⟨K, eK⟩ : ∃ x, gK l = x := ⟨_, rfl⟩
  obtain ⟨F, eF⟩ : ∃ x, gF l = x := ⟨_, rfl⟩
  obtain ⟨T, eT⟩ : ∃ x, gT l = x := ⟨_, rfl⟩
  obtain ⟨V, eV⟩ : ∃ x, gV l = x := ⟨_, rfl⟩
  obtain ⟨S, eS⟩ : ∃ x, gS l = x := ⟨_, rfl⟩
  rw [eV] at rV
  rw [eS] at rS
  have HU : Hid ((gK l = K ∧ gF l = F ∧ gT l = T ∧ gV l = V ∧ gS l = S) ∧ (0 ≤ V ∧ V < 4294967296) ∧ (0 ≤ S ∧ S < 4294967296) ∧ By8 (gB l) ∧ By8 l ∧ Bytes w (.slice p n c) l) := ⟨⟨eK, eF, eT, eV, eS⟩, rV, rS, rB, hl, hB⟩
  have cF : ∀ W, Below w.heap.size w W → _ := fun W hW => pfields_any p n c l hl (by omega) W (hB.up hW)
  rw [eK, eF, eT, eV, eS] at cF
  unfold FrV at cF
  clear rK rF rT rV rS rN rB eK eF eT eV eS hl hn2 hB hn
  go_enter Try.func19, Try.ntmps19
  go_wp2_with fail
  generalize hW0 : World.alloc _ _ = W0
  have H0 : Hid (Below w.heap.size w W0 ∧ W0.heap[w.heap.size]? = some (.cells #[.int .i64 0, .int .i64 0, .int .i64 0, .int .u32 0, .int .u32 0, .slice none 0 0] 49 (0, 0))) := by
    rw [← hW0]
    exact ⟨up_alloc _ _, by show (w.heap.push _)[w.heap.size]? = _; simp⟩
  clear hW0
  refine (cF W0 H0.out.1).mono ?_
  clear cF
  rintro e W1 ⟨vb, rfl, ho, hb⟩
  obtain ⟨pb, cb, rfl, hcb⟩ := own8_form ho
  have H1 : Hid (Below w.heap.size w W1 ∧ W1.heap[w.heap.size]? = some (.cells #[.int .i64 0, .int .i64 0, .int .i64 0, .int .u32 0, .int .u32 0, .slice none 0 0] 49 (0, 0)) ∧ Own8 W1 w.heap.size (.slice pb (gB l).length cb) (gB l)) := ⟨bstep H0.out.1 hb, (hb.block _ (heap_in8 H0.out.2)).trans H0.out.2, ho.low H0.out.1.size⟩
  clear ho hb H0
  go_wp2_with fail
  generalize hW2 : World.alloc _ _ = W2
  have hA : Below W1.heap.size W1 W2 ∧ W2.heap[W1.heap.size]? = some (.cells #[.int .i64 K, .int .i64 F, .int .i64 T, .int .u32 V, .int .u32 S, .slice pb (gB l).length cb] 49 (0, 0)) := by
    rw [← hW2]
    exact ⟨up_alloc _ _, by show (W1.heap.push _)[W1.heap.size]? = _; simp⟩
  have kw : w.heap.size < W1.heap.size := heap_in8 H1.out.2.1
  obtain ⟨q, eq⟩ : ∃ q, W1.heap.size = q := ⟨_, rfl⟩
  have H2 : Hid (Below w.heap.size w W2 ∧ W2.heap[w.heap.size]? = some (.cells #[.int .i64 0, .int .i64 0, .int .i64 0, .int .u32 0, .int .u32 0, .slice none 0 0] 49 (0, 0)) ∧ Own8 W2 w.heap.size (.slice pb (gB l).length cb) (gB l) ∧ W2.heap[q]? = some (.cells #[.int .i64 K, .int .i64 F, .int .i64 T, .int .u32 V, .int .u32 S, .slice pb (gB l).length cb] 49 (0, 0))) := ⟨bstep H1.out.1 hA.1, (hA.1.block _ (heap_in8 H1.out.2.1)).trans H1.out.2.1, Own8.up H1.out.2.2 hA.1, by rw [← eq]; exact hA.2⟩
  rw [eq] at kw ⊢
  clear hA H1 eq hW2
  refine (pfgood_any K F T V S pb (gB l).length cb W2).mono ?_
  rintro e W3 ⟨rfl, hb⟩
  have H3 : Hid (Below w.heap.size w W3 ∧ W3.heap[w.heap.size]? = some (.cells #[.int .i64 0, .int .i64 0, .int .i64 0, .int .u32 0, .int .u32 0, .slice none 0 0] 49 (0, 0)) ∧ Own8 W3 w.heap.size (.slice pb (gB l).length cb) (gB l) ∧ W3.heap[q]? = some (.cells #[.int .i64 K, .int .i64 F, .int .i64 T, .int .u32 V, .int .u32 S, .slice pb (gB l).length cb] 49 (0, 0))) := ⟨bstep H2.out.1 hb, (hb.block _ (heap_in8 H2.out.2.1)).trans H2.out.2.1, Own8.up H2.out.2.2.1 hb, (hb.block _ (heap_in8 H2.out.2.2.2)).trans H2.out.2.2.2⟩
  clear hb H2
  by_cases hg : goodF K F T (gB l).length
  case neg =>
    rw [decide_eq_false hg]
    have HG : Hid (¬ goodF K F T (gB l).length) := hg
    clear hg
    have hd : ¬ decP l := fun h => HG.out (by obtain ⟨h1, h2, h3, _⟩ := HU.out.1; have := ((dec_iff l).2 h).1; rw [h1, h2, h3] at this; exact this)
    have HD : Hid (dB8 l = [] ∧ (∀ vb, FrD l vb = FrV 0 0 0 0 0 vb) ∧ z = 3) := ⟨if_neg hd, fun vb => by unfold FrD dN; simp only [if_neg hd], HZ.out.symm.trans (if_neg hd)⟩
    have hb0 := H3.out.2.1
    obtain ⟨⟨z0, z1, z2, z3, z4, z5⟩, e0, e1, e2, e3, e4, e5⟩ := fr_cells hb0
    have kz := cell_lt z0
    have HT := (fr_put (.int .i64 0) (.int .i64 0) (.int .i64 0) (.int .u32 0) (.int .u32 0) (.slice none 0 0) hb0).2
    have HT := hid2 HT HT
    have HB : Hid (Below w.heap.size w ((((((W3.setCell ⟨w.heap.size, 0, none⟩ (.int .i64 0)).setCell ⟨w.heap.size, 1, none⟩ (.int .i64 0)).setCell ⟨w.heap.size, 2, none⟩ (.int .i64 0)).setCell ⟨w.heap.size, 3, none⟩ (.int .u32 0)).setCell ⟨w.heap.size, 4, none⟩ (.int .u32 0)).setCell ⟨w.heap.size, 5, none⟩ (.slice none 0 0))) := ((((((H3.out.1.setCell (p := ⟨w.heap.size, 0, none⟩) (Nat.le_refl _) _).setCell (p := ⟨w.heap.size, 1, none⟩) (Nat.le_refl _) _).setCell (p := ⟨w.heap.size, 2, none⟩) (Nat.le_refl _) _).setCell (p := ⟨w.heap.size, 3, none⟩) (Nat.le_refl _) _).setCell (p := ⟨w.heap.size, 4, none⟩) (Nat.le_refl _) _).setCell (p := ⟨w.heap.size, 5, none⟩) (Nat.le_refl _) _)
    clear hd hb0 H3
    go_wp2
    obtain ⟨t0, t1, t2, t3, t4, t5⟩ := HT.out.1
    exact bodyPost_ret (v := .tuple #[FrV 0 0 0 0 0 (.slice none 0 0), .int .i64 3]) (by unfold FrV; simp [results, Try.results19, go_sem, t0, t1, t2, t3, t4, t5]) rfl ⟨.slice none 0 0, by rw [HD.out.2.1, HD.out.2.2], by rw [HD.out.1]; exact ⟨rfl, .inl ⟨rfl, rfl⟩⟩, HB.out⟩
  rw [decide_eq_true hg]
  have HG : Hid (goodF K F T (gB l).length) := hg
  clear hg
  obtain ⟨⟨y0, y1, y2, y3, y4, y5⟩, f0, f1, f2, f3, f4, f5⟩ := fr_cells H3.out.2.2.2
  have ky := cell_lt y0
  go_wp2_with fail
  obtain ⟨E, eE⟩ : ∃ E, encF K F T V S (gB l) = E := ⟨_, rfl⟩
  have HE : Hid (By8 E ∧ (E = l ↔ decP l)) := by
    obtain ⟨⟨h1, h2, h3, h4, h5⟩, _, _, h8, _⟩ := HU.out
    refine ⟨by rw [← eE]; exact encF_by h8, ?_⟩
    rw [← dec_iff, ← eE]
    unfold decG encF
    rw [h1, h2, h3, h4, h5, if_pos HG.out]
    exact ⟨fun h => ⟨HG.out, h⟩, fun h => h.2⟩
  have cE := pfenc_any K F T V S pb (gB l).length cb (gB l) HU.out.2.1 HU.out.2.2.1 HU.out.2.2.2.1 W3 H3.out.2.2.1.bytes rfl
  rw [eE] at cE
  refine cE.mono ?_
  rintro e W4 ⟨ve, rfl, ho, hb⟩
  have H4 : Hid (Below w.heap.size w W4 ∧ W4.heap[w.heap.size]? = some (.cells #[.int .i64 0, .int .i64 0, .int .i64 0, .int .u32 0, .int .u32 0, .slice none 0 0] 49 (0, 0)) ∧ Own8 W4 w.heap.size (.slice pb (gB l).length cb) (gB l) ∧ W4.heap[q]? = some (.cells #[.int .i64 K, .int .i64 F, .int .i64 T, .int .u32 V, .int .u32 S, .slice pb (gB l).length cb] 49 (0, 0)) ∧ Bytes W4 ve E) := ⟨bstep H3.out.1 hb, (hb.block _ (heap_in8 H3.out.2.1)).trans H3.out.2.1, Own8.up H3.out.2.2.1 hb, (hb.block _ (heap_in8 H3.out.2.2.2)).trans H3.out.2.2.2, ho.bytes⟩
  clear ho hb H3 cE eE y0 y1 y2 y3 y4 y5 f0 f1 f2 f3 f4 f5 ky HG
  obtain ⟨⟨y0, y1, y2, y3, y4, y5⟩, f0, f1, f2, f3, f4, f5⟩ := fr_cells H4.out.2.2.2.1
  have ky := cell_lt y0
  go_wp2_with fail
  refine (pequal_any ve (.slice p n c) E l HE.out.1 HU.out.2.2.2.2.1 W4 H4.out.2.2.2.2 (HU.out.2.2.2.2.2.up H4.out.1)).mono ?_
  rintro e W5 ⟨rfl, rfl⟩
  obtain ⟨r, er⟩ : ∃ r, decide (E = l) = r := ⟨_, rfl⟩
  have HR : Hid (decide (decP l) = r) := by
    rw [← er]
    exact decide_eq_decide.2 HE.out.2.symm
  rw [er]
  clear er HE
  cases r with
  | false =>
    have hd : ¬ decP l := fun h => of_decide_eq_false HR.out h
    have HD : Hid (dB8 l = [] ∧ (∀ vb, FrD l vb = FrV 0 0 0 0 0 vb) ∧ z = 3) := ⟨if_neg hd, fun vb => by unfold FrD dN; simp only [if_neg hd], HZ.out.symm.trans (if_neg hd)⟩
    have hb0 := H4.out.2.1
    obtain ⟨⟨z0, z1, z2, z3, z4, z5⟩, e0, e1, e2, e3, e4, e5⟩ := fr_cells hb0
    have kz := cell_lt z0
    have HT := (fr_put (.int .i64 0) (.int .i64 0) (.int .i64 0) (.int .u32 0) (.int .u32 0) (.slice none 0 0) hb0).2
    have HT := hid2 HT HT
    have HB : Hid (Below w.heap.size w ((((((W5.setCell ⟨w.heap.size, 0, none⟩ (.int .i64 0)).setCell ⟨w.heap.size, 1, none⟩ (.int .i64 0)).setCell ⟨w.heap.size, 2, none⟩ (.int .i64 0)).setCell ⟨w.heap.size, 3, none⟩ (.int .u32 0)).setCell ⟨w.heap.size, 4, none⟩ (.int .u32 0)).setCell ⟨w.heap.size, 5, none⟩ (.slice none 0 0))) := ((((((H4.out.1.setCell (p := ⟨w.heap.size, 0, none⟩) (Nat.le_refl _) _).setCell (p := ⟨w.heap.size, 1, none⟩) (Nat.le_refl _) _).setCell (p := ⟨w.heap.size, 2, none⟩) (Nat.le_refl _) _).setCell (p := ⟨w.heap.size, 3, none⟩) (Nat.le_refl _) _).setCell (p := ⟨w.heap.size, 4, none⟩) (Nat.le_refl _) _).setCell (p := ⟨w.heap.size, 5, none⟩) (Nat.le_refl _) _)
    clear hd hb0 H4
    go_wp2
    obtain ⟨t0, t1, t2, t3, t4, t5⟩ := HT.out.1
    exact bodyPost_ret (v := .tuple #[FrV 0 0 0 0 0 (.slice none 0 0), .int .i64 3]) (by unfold FrV; simp [results, Try.results19, go_sem, t0, t1, t2, t3, t4, t5]) rfl ⟨.slice none 0 0, by rw [HD.out.2.1, HD.out.2.2], by rw [HD.out.1]; exact ⟨rfl, .inl ⟨rfl, rfl⟩⟩, HB.out⟩
  | true =>
    have hd : decP l := of_decide_eq_true HR.out
    have HD : Hid (dB8 l = gB l ∧ (∀ vb, FrD l vb = FrV K F T V S vb) ∧ z = 0) := by
      obtain ⟨a1, a2, a3, a4, a5⟩ := HU.out.1
      obtain ⟨b1, b2, b3, b4, b5, b6⟩ := dec_is hd
      exact ⟨by unfold dB8; rw [if_pos hd, b6], fun vb => by unfold FrD dN; simp only [if_pos hd, ← b1, ← b2, ← b3, ← b4, ← b5, a1, a2, a3, a4, a5], HZ.out.symm.trans (if_pos hd)⟩
    have hb0 := H4.out.2.1
    obtain ⟨⟨z0, z1, z2, z3, z4, z5⟩, e0, e1, e2, e3, e4, e5⟩ := fr_cells hb0
    have kz := cell_lt z0
    have HT := (fr_put (.int .i64 K) (.int .i64 F) (.int .i64 T) (.int .u32 V) (.int .u32 S) (.slice pb (gB l).length cb) hb0).2
    have HT := hid2 HT HT
    have HB : Hid (Own8 ((((((W5.setCell ⟨w.heap.size, 0, none⟩ (.int .i64 K)).setCell ⟨w.heap.size, 1, none⟩ (.int .i64 F)).setCell ⟨w.heap.size, 2, none⟩ (.int .i64 T)).setCell ⟨w.heap.size, 3, none⟩ (.int .u32 V)).setCell ⟨w.heap.size, 4, none⟩ (.int .u32 S)).setCell ⟨w.heap.size, 5, none⟩ (.slice pb (gB l).length cb)) w.heap.size (.slice pb (gB l).length cb) (gB l) ∧ Below w.heap.size w ((((((W5.setCell ⟨w.heap.size, 0, none⟩ (.int .i64 K)).setCell ⟨w.heap.size, 1, none⟩ (.int .i64 F)).setCell ⟨w.heap.size, 2, none⟩ (.int .i64 T)).setCell ⟨w.heap.size, 3, none⟩ (.int .u32 V)).setCell ⟨w.heap.size, 4, none⟩ (.int .u32 S)).setCell ⟨w.heap.size, 5, none⟩ (.slice pb (gB l).length cb))) := ⟨own8_stay H4.out.2.2.1 hb0 (((((((Stay.refl _ _).set _ _).set _ _).set _ _).set _ _).set _ _).set _ _), ((((((H4.out.1.setCell (p := ⟨w.heap.size, 0, none⟩) (Nat.le_refl _) _).setCell (p := ⟨w.heap.size, 1, none⟩) (Nat.le_refl _) _).setCell (p := ⟨w.heap.size, 2, none⟩) (Nat.le_refl _) _).setCell (p := ⟨w.heap.size, 3, none⟩) (Nat.le_refl _) _).setCell (p := ⟨w.heap.size, 4, none⟩) (Nat.le_refl _) _).setCell (p := ⟨w.heap.size, 5, none⟩) (Nat.le_refl _) _)⟩
    clear hd hb0 H4 HU HR
    go_wp2
    obtain ⟨t0, t1, t2, t3, t4, t5⟩ := HT.out.1
    exact bodyPost_ret (v := .tuple #[FrV K F T V S (.slice pb (gB l).length cb), .int .i64 0]) (by unfold FrV; simp [results, Try.results19, go_sem, t0, t1, t2, t3, t4, t5]) rfl ⟨.slice pb (gB l).length cb, by rw [HD.out.2.1, HD.out.2.2], by rw [HD.out.1]; exact HB.out.1, HB.out.2⟩
end Go.Proofs.Ythmpfdkbpdbhnaa.Wd
