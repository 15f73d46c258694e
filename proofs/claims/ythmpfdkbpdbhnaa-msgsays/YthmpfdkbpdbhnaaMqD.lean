/- The program's messages: Get. -/
import Derived.Test.YthmpfdkbpdbhnaaMqC
import Derived.Test.YthmpfdkbpdbhnaaSeh
import Derived.Test.YthmpfdkbpdbhnaaPkG
namespace Go.Proofs.Ythmpfdkbpdbhnaa.Wd
open Go.RowKit
set_option linter.unusedVariables false
set_option linter.unusedSimpArgs false
set_option maxRecDepth 40000
set_option maxHeartbeats 8000000
theorem hR_le (x : List Int) : (hR x).length ≤ x.length := Nat.le_trans (rsN_le _ _) (left_le x 2)
theorem hE_le (x : List Int) : (hE x).length ≤ x.length := Nat.le_trans (rsW_le _ _) (Nat.le_trans (left_le _ 2) (hR_le x))
theorem OwnK.stayT {k : IntKind} {e : TypeId} {W W' : World} {B g : Nat} {v : Value} {l : List Int} {cs : Array Value} {fz : Nat × Nat} {τ : TypeId} (h : OwnK k e W B v l) (hg : W.heap[g]? = some (.cells cs τ fz)) (hs : Stay g W W') (hτ : e ≠ τ) : OwnK k e W' B v l := by
  refine OwnK.stay h hs fun ad n c e1 he => ?_
  rcases h.2 with ⟨e2, _⟩ | ⟨g2, cap, cur, e2, _, h3, _⟩
  · rw [e1] at e2
    cases e2
  · rw [e1] at e2
    cases e2
    rw [show g2 = g from he, hg] at h3
    injection h3 with h3
    injection h3 with _ h3
    exact absurd h3.symm hτ
theorem OwnW.stayT {W W' : World} {B g : Nat} {v : Value} {l : List Int} {cs : Array Value} {fz : Nat × Nat} {τ : TypeId} (h : OwnW W B v l) (hg : W.heap[g]? = some (.cells cs τ fz)) (hs : Stay g W W') (hτ : 47 ≠ τ) : OwnW W' B v l := by
  refine ⟨h.1, h.2.1, ?_⟩
  rcases h.2.2 with h | ⟨b, cap, cur, h1, h2, h3, h4⟩
  · exact .inl h
  · have hne : b ≠ g := fun e => by
      have h5 := h3
      rw [e, hg] at h5
      injection h5 with h5
      injection h5 with _ h5
      exact absurd h5.symm hτ
    exact .inr ⟨b, cap, cur, h1, h2, by rw [hs.block b hne (heap_in8 h3)]; exact h3, h4⟩
theorem OwnW.len {W : World} {B n c : Nat} {p : Option Addr} {l : List Int} (h : OwnW W B (.slice p n c) l) : n = l.length := by
  rcases h.2.2 with ⟨e, h0⟩ | ⟨g2, cap, cur, e, _⟩
  · cases e
    exact h0.symm
  · cases e
    rfl
theorem OwnK.len {k : IntKind} {τ : TypeId} {W : World} {B n c : Nat} {p : Option Addr} {l : List Int} (h : OwnK k τ W B (.slice p n c) l) : n = l.length := by
  rcases h.2 with ⟨e, h0⟩ | ⟨g2, cap, cur, e, _⟩
  · cases e
    exact h0.symm
  · cases e
    rfl
/-- The Reader, so far. -/
def RdJ (W : World) (g : Nat) (X : List Int) : Nat → Prop
  | 0 => Rd W g X false
  | 1 => Rd W g (hR X) (hMN X)
  | _ => Rd W g (hE X) (hM X)
theorem RdJ.up {W W' : World} {g j : Nat} {X : List Int} (h : RdJ W g X j) (hb : Below W.heap.size W W') : RdJ W' g X j := by
  rcases j with _ | _ | j <;> exact Rd.up h hb
theorem RdJ.lt {W : World} {g j : Nat} {X : List Int} (h : RdJ W g X j) : g < W.heap.size := by
  rcases j with _ | _ | j <;> exact Rd.lt h
/-- What stands while the message is made: K F T V S and the Body (at q) of the frame that was read; the Reader is at g. -/
def GtC (w : World) (K F T V S : Int) (pb : Option Addr) (nb cb q g : Nat) (X : List Int) (j : Nat) (W : World) : Prop := Below w.heap.size w W ∧ W.heap[w.heap.size]? = some (.cells #[.int .i64 0, .int .i64 0, .int .i64 0, .int .u32 0, .int .u32 0, .slice none 0 0, .slice none 0 0] 27 (0, 0)) ∧ W.heap[q]? = some (.cells #[.int .i64 K, .int .i64 F, .int .i64 T, .int .u32 V, .int .u32 S, .slice pb nb cb] 49 (0, 0)) ∧ RdJ W g X j
theorem GtC.up {w : World} {K F T V S : Int} {pb : Option Addr} {nb cb q g : Nat} {X : List Int} {j : Nat} {W W' : World} (h : GtC w K F T V S pb nb cb q g X j W) (hb : Below W.heap.size W W') : GtC w K F T V S pb nb cb q g X j W' :=
  ⟨bstep h.1 hb, (hb.block _ (heap_in8 h.2.1)).trans h.2.1, (hb.block _ (heap_in8 h.2.2.1)).trans h.2.2.1, h.2.2.2.up hb⟩
def ToN (g : Nat) (X : List Int) (v : Value) (W : World) : Prop := OwnK .i64 2 W (g + 1) v (hNs X)
def ToW (g : Nat) (X : List Int) (v : Value) (W : World) : Prop := OwnW W (g + 1) v (hWs X)
def ToM (K F T V S : Int) (g : Nat) (X : List Int) (v : Value) (W : World) : Prop := ∃ p n c p' n' c', v = MsV K F T V S (.slice p n c) (.slice p' n' c') ∧ ToN g X (.slice p n c) W ∧ ToW g X (.slice p' n' c') W
def ToB (g : Nat) (v : Value) (W : World) : Prop := ∃ b, v = .pointer (some ⟨b, 0, none⟩) ∧ W.heap[b]? = some (.cells #[.int .i64 0, .int .i64 0, .int .i64 0, .int .u32 0, .int .u32 0, .slice none 0 0, .slice none 0 0] 27 (0, 0)) ∧ g < b
theorem ToN.up {g : Nat} {X : List Int} {v : Value} {W W' : World} (h : ToN g X v W) (hb : Below W.heap.size W W') : ToN g X v W' := OwnK.up h hb
theorem ToW.up {g : Nat} {X : List Int} {v : Value} {W W' : World} (h : ToW g X v W) (hb : Below W.heap.size W W') : ToW g X v W' := OwnW.up h hb
theorem ToM.up {K F T V S : Int} {g : Nat} {X : List Int} {v : Value} {W W' : World} (h : ToM K F T V S g X v W) (hb : Below W.heap.size W W') : ToM K F T V S g X v W' := by
  obtain ⟨p, n, c, p', n', c', e, h1, h2⟩ := h
  exact ⟨p, n, c, p', n', c', e, h1.up hb, h2.up hb⟩
theorem ToB.up {g : Nat} {v : Value} {W W' : World} (h : ToB g v W) (hb : Below W.heap.size W W') : ToB g v W' := by
  obtain ⟨b, e, h1, h2⟩ := h
  exact ⟨b, e, (hb.block _ (heap_in8 h1)).trans h1, h2⟩
theorem ToN.but {g : Nat} {X : List Int} {v : Value} {W W' : World} (h : ToN g X v W) (hb : But g W W') : ToN g X v W' := OwnK.stay h hb.stay (OwnK.off h (Nat.lt_succ_self g))
theorem ToW.but {g : Nat} {X : List Int} {v : Value} {W W' : World} (h : ToW g X v W) (hb : But g W W') : ToW g X v W' := OwnW.stay h hb.stay (Nat.lt_succ_self g)
theorem ToM.but {K F T V S : Int} {g : Nat} {X : List Int} {v : Value} {W W' : World} (h : ToM K F T V S g X v W) (hb : But g W W') : ToM K F T V S g X v W' := by
  obtain ⟨p, n, c, p', n', c', e, h1, h2⟩ := h
  exact ⟨p, n, c, p', n', c', e, h1.but hb, h2.but hb⟩
theorem ToB.but {g : Nat} {v : Value} {W W' : World} (h : ToB g v W) (hb : But g W W') : ToB g v W' := by
  obtain ⟨b, e, h1, h2⟩ := h
  exact ⟨b, e, (hb.block _ (heap_in8 h1) (Nat.ne_of_gt h2)).trans h1, h2⟩
/-- A list is read out of the Reader. -/
theorem GtC.but {w : World} {K F T V S : Int} {pb : Option Addr} {nb cb q g : Nat} {X : List Int} {j j' : Nat} {W W' : World} (h : GtC w K F T V S pb nb cb q g X j W) (hb : But g W W') (hR : RdJ W' g X j') (hw : w.heap.size < q) (hq : q < g) : GtC w K F T V S pb nb cb q g X j' W' :=
  ⟨But.below h.1 hb (by omega) h.1.size, (hb.block _ (heap_in8 h.2.1) (by omega)).trans h.2.1, (hb.block _ (heap_in8 h.2.2.1) (by omega)).trans h.2.2.1, hR⟩
theorem pmget_any (p : Option Addr) (n c : Nat) (l : List Int) (hl : By8 l) (hn : l.length = n) (hn2 : n ≤ 1073741000) (hnc : n ≤ c) (w : World) (hB : Bytes w (.slice p n c) l) :
    Calls Try.prog 9 #[.slice p n c] w fun e w' => ∃ vN vV, e = .returned (.tuple #[MsV (qI l (uK l)) (qI l (uF l)) (qI l (uT l)) (qI l (uV l)) (qI l (uS l)) vN vV, .int .i64 (if getP l then 0 else 3)]) ∧ OwnK .i64 2 w' w.heap.size vN (qN l) ∧ OwnW w' w.heap.size vV (qW l) ∧ Below w.heap.size w w' := by
  haveI : Nonempty World := ⟨w⟩
  obtain ⟨o1, q1⟩ : ∃ x, qI l (uK l) = x := ⟨_, rfl⟩
  obtain ⟨o2, q2⟩ : ∃ x, qI l (uF l) = x := ⟨_, rfl⟩
  obtain ⟨o3, q3⟩ : ∃ x, qI l (uT l) = x := ⟨_, rfl⟩
  obtain ⟨o4, q4⟩ : ∃ x, qI l (uV l) = x := ⟨_, rfl⟩
  obtain ⟨o5, q5⟩ : ∃ x, qI l (uS l) = x := ⟨_, rfl⟩
  obtain ⟨o6, q6⟩ : ∃ x, qN l = x := ⟨_, rfl⟩
  obtain ⟨o7, q7⟩ : ∃ x, qW l = x := ⟨_, rfl⟩
  obtain ⟨o8, q8⟩ : ∃ x, (if getP l then (0 : Int) else 3) = x := ⟨_, rfl⟩
  have HN : Hid (¬ getP l → o1 = 0 ∧ o2 = 0 ∧ o3 = 0 ∧ o4 = 0 ∧ o5 = 0 ∧ o6 = [] ∧ o7 = [] ∧ o8 = 3) := fun h => by
    rw [← q1, ← q2, ← q3, ← q4, ← q5, ← q6, ← q7, ← q8]
    unfold qI qN qW
    simp only [if_neg h, and_self]
  have HY : Hid (getP l → o1 = uK l ∧ o2 = uF l ∧ o3 = uT l ∧ o4 = uV l ∧ o5 = uS l ∧ o6 = parN (uB l) ∧ o7 = parW (uB l) ∧ o8 = 0) := fun h => by
    rw [← q1, ← q2, ← q3, ← q4, ← q5, ← q6, ← q7, ← q8]
    unfold qI qN qW
    simp only [if_pos h, and_self]
  rw [q1, q2, q3, q4, q5, q6, q7, q8]
  clear q1 q2 q3 q4 q5 q6 q7 q8
  have cd := fun W h => pfdec_any p n c l hl hn hn2 hnc W h
  have HW : Hid (∀ W, Below w.heap.size w W → Bytes W (.slice p n c) l) := fun W h => hB.up h
  clear hB
  by_cases hd : decP l
  case neg =>
    have HD := HN.out (fun h => hd h.1)
    have HD := hid2 HD HD
    have ef : ∀ vb, FrD l vb = .agg #[.int .i64 0, .int .i64 0, .int .i64 0, .int .u32 0, .int .u32 0, vb] := fun vb => by unfold FrD FrV dN; simp only [if_neg hd]
    simp only [if_neg hd, ef] at cd
    clear ef hd HN HY hl hn hn2 hnc
    go_enter Try.func9, Try.ntmps9
    go_wp2_with fail
    generalize hW0 : World.alloc _ _ = W0
    have H0 : Hid (Below w.heap.size w W0 ∧ W0.heap[w.heap.size]? = some (.cells #[.int .i64 0, .int .i64 0, .int .i64 0, .int .u32 0, .int .u32 0, .slice none 0 0, .slice none 0 0] 27 (0, 0))) := by
      rw [← hW0]
      exact ⟨up_alloc _ _, by show (w.heap.push _)[w.heap.size]? = _; simp⟩
    clear hW0
    refine (cd W0 (HW.out W0 H0.out.1)).mono ?_
    clear cd
    rintro e W1 ⟨vb, rfl, ho, hb⟩
    obtain ⟨pb, nb, cb, rfl⟩ := own8_sl ho
    have H1 : Hid (Below w.heap.size w W1 ∧ W1.heap[w.heap.size]? = some (.cells #[.int .i64 0, .int .i64 0, .int .i64 0, .int .u32 0, .int .u32 0, .slice none 0 0, .slice none 0 0] 27 (0, 0))) := ⟨bstep H0.out.1 hb, (hb.block _ (heap_in8 H0.out.2)).trans H0.out.2⟩
    clear ho hb H0
    have hz := H1.out.2
    obtain ⟨⟨z0, z1, z2, z3, z4, z5, z6⟩, e0, e1, e2, e3, e4, e5, e6⟩ := ms_cells hz
    have kz := cell_lt z0
    have ht := ms_put (.int .i64 0) (.int .i64 0) (.int .i64 0) (.int .u32 0) (.int .u32 0) (.slice none 0 0) (.slice none 0 0) hz
    have HT := hid2 ht ht
    clear ht
    have HB9 : Hid (Below w.heap.size w ((((((((W1.setCell ⟨w.heap.size, 0, none⟩ (.int .i64 0)).setCell ⟨w.heap.size, 1, none⟩ (.int .i64 0)).setCell ⟨w.heap.size, 2, none⟩ (.int .i64 0)).setCell ⟨w.heap.size, 3, none⟩ (.int .u32 0)).setCell ⟨w.heap.size, 4, none⟩ (.int .u32 0)).setCell ⟨w.heap.size, 5, none⟩ (.slice none 0 0)).setCell ⟨w.heap.size, 6, none⟩ (.slice none 0 0)).alloc (.cells #[.int .i64 0, .int .i64 0, .int .i64 0, .int .u32 0, .int .u32 0, .slice pb nb cb] 49))) := bstep (Below.setCell (p := ⟨w.heap.size, 6, none⟩) (Below.setCell (p := ⟨w.heap.size, 5, none⟩) (Below.setCell (p := ⟨w.heap.size, 4, none⟩) (Below.setCell (p := ⟨w.heap.size, 3, none⟩) (Below.setCell (p := ⟨w.heap.size, 2, none⟩) (Below.setCell (p := ⟨w.heap.size, 1, none⟩) (Below.setCell (p := ⟨w.heap.size, 0, none⟩) H1.out.1 (Nat.le_refl _) (.int .i64 0)) (Nat.le_refl _) (.int .i64 0)) (Nat.le_refl _) (.int .i64 0)) (Nat.le_refl _) (.int .u32 0)) (Nat.le_refl _) (.int .u32 0)) (Nat.le_refl _) (.slice none 0 0)) (Nat.le_refl _) (.slice none 0 0)) (up_alloc _ _)
    clear hz
    repeat (first | go_values | go_skip | go_guarded | go_step | go_upon | (simp only [Int.not_lt, Int.not_le] at *; go_simp))
    obtain ⟨t0, t1, t2, t3, t4, t5, t6⟩ := HT.out.1
    obtain ⟨d1, d2, d3, d4, d5, d6, d7, d8⟩ := HD.out.1
    subst d1 d2 d3 d4 d5 d6 d7 d8
    refine bodyPost_ret (v := .tuple #[MsV 0 0 0 0 0 (.slice none 0 0) (.slice none 0 0), .int .i64 3]) ?_ rfl ⟨.slice none 0 0, .slice none 0 0, rfl, OwnK.nil _ _ _ _, OwnW.nil _ _, HB9.out⟩
    simp only [results]
    simp only [Try.results9]
    simp [go_sem, t0, t1, t2, t3, t4, t5, t6, kz]
  obtain ⟨rv, rs, b8, _⟩ := u_rng hl hd.1
  have hgf := (decP_good hd).1
  have hxl : (uB l).length ≤ 1073741000 := by unfold uB; rw [List.length_take]; omega
  have hgp : getP l ↔ getB (uB l) := ⟨fun h => h.2, fun h => ⟨hd, h⟩⟩
  have ef : ∀ vb, FrD l vb = .agg #[.int .i64 (uK l), .int .i64 (uF l), .int .i64 (uT l), .int .u32 (uV l), .int .u32 (uS l), vb] := fun vb => by unfold FrD FrV dN; simp only [if_pos hd]
  have ed : dB8 l = uB l := if_pos hd
  simp only [if_pos hd, ef, ed] at cd
  clear ef ed
  obtain ⟨K, eK⟩ : ∃ x, uK l = x := ⟨_, rfl⟩
  obtain ⟨F, eF⟩ : ∃ x, uF l = x := ⟨_, rfl⟩
  obtain ⟨T, eT⟩ : ∃ x, uT l = x := ⟨_, rfl⟩
  obtain ⟨V, eV⟩ : ∃ x, uV l = x := ⟨_, rfl⟩
  obtain ⟨S, eS⟩ : ∃ x, uS l = x := ⟨_, rfl⟩
  obtain ⟨X, eX⟩ : ∃ x, uB l = x := ⟨_, rfl⟩
  rw [eK, eF, eT, eV, eS, eX] at HY
  simp only [eK, eF, eT, eV, eS, eX] at cd
  rw [eK, eF, eT, eX] at hgf
  rw [eX] at b8 hxl hgp
  have HX : Hid (By8 X ∧ X.length ≤ 1073741000 ∧ (getP l ↔ getB X) ∧ goodF K F T X.length) := ⟨b8, hxl, hgp, hgf⟩
  clear eK eF eT eV eS eX b8 hxl hgp hgf rv rs hd hl hn hn2 hnc
  go_enter Try.func9, Try.ntmps9
  go_wp2_with fail
  generalize hW0 : World.alloc _ _ = W0
  have H0 : Hid (Below w.heap.size w W0 ∧ W0.heap[w.heap.size]? = some (.cells #[.int .i64 0, .int .i64 0, .int .i64 0, .int .u32 0, .int .u32 0, .slice none 0 0, .slice none 0 0] 27 (0, 0))) := by
    rw [← hW0]
    exact ⟨up_alloc _ _, by show (w.heap.push _)[w.heap.size]? = _; simp⟩
  clear hW0
  refine (cd W0 (HW.out W0 H0.out.1)).mono ?_
  clear cd HW
  rintro e W1 ⟨vb, rfl, ho, hb⟩
  obtain ⟨pb, cb, rfl, hcb⟩ := own8_form ho
  obtain ⟨nb, enb⟩ : ∃ x, X.length = x := ⟨_, rfl⟩
  have HL : Hid (X.length = nb) := enb
  rw [enb] at ho ⊢
  have H1 : Hid (Below w.heap.size w W1 ∧ W1.heap[w.heap.size]? = some (.cells #[.int .i64 0, .int .i64 0, .int .i64 0, .int .u32 0, .int .u32 0, .slice none 0 0, .slice none 0 0] 27 (0, 0)) ∧ Bytes W1 (.slice pb nb cb) X) := ⟨bstep H0.out.1 hb, (hb.block _ (heap_in8 H0.out.2)).trans H0.out.2, ho.bytes⟩
  clear ho hb H0 enb hcb
  go_wp2_with fail
  generalize hW2 : World.alloc _ _ = W2
  have kw : w.heap.size < W1.heap.size := heap_in8 H1.out.2.1
  have hA : Below W1.heap.size W1 W2 ∧ W2.heap[W1.heap.size]? = some (.cells #[.int .i64 K, .int .i64 F, .int .i64 T, .int .u32 V, .int .u32 S, .slice pb nb cb] 49 (0, 0)) := by
    rw [← hW2]
    exact ⟨up_alloc _ _, by show (W1.heap.push _)[W1.heap.size]? = _; simp⟩
  obtain ⟨q, eq⟩ : ∃ q, W1.heap.size = q := ⟨_, rfl⟩
  have H2 : Hid (Below w.heap.size w W2 ∧ W2.heap[w.heap.size]? = some (.cells #[.int .i64 0, .int .i64 0, .int .i64 0, .int .u32 0, .int .u32 0, .slice none 0 0, .slice none 0 0] 27 (0, 0)) ∧ W2.heap[q]? = some (.cells #[.int .i64 K, .int .i64 F, .int .i64 T, .int .u32 V, .int .u32 S, .slice pb nb cb] 49 (0, 0)) ∧ Bytes W2 (.slice pb nb cb) X) := ⟨bstep H1.out.1 hA.1, (hA.1.block _ (heap_in8 H1.out.2.1)).trans H1.out.2.1, by rw [← eq]; exact hA.2, H1.out.2.2.up hA.1⟩
  rw [eq] at kw ⊢
  clear hA H1 eq hW2
  refine (read_any _ X (by have := HX.out.2.1; omega) HX.out.1 W2 H2.out.2.2.2).mono ?_
  rintro e W3 ⟨g, rfl, hg, hR, hb⟩
  have kq : q < g := Nat.lt_of_lt_of_le (heap_in8 H2.out.2.2.1) hg
  have H3 : Hid (Below w.heap.size w W3 ∧ W3.heap[w.heap.size]? = some (.cells #[.int .i64 0, .int .i64 0, .int .i64 0, .int .u32 0, .int .u32 0, .slice none 0 0, .slice none 0 0] 27 (0, 0)) ∧ W3.heap[q]? = some (.cells #[.int .i64 K, .int .i64 F, .int .i64 T, .int .u32 V, .int .u32 S, .slice pb nb cb] 49 (0, 0)) ∧ Rd W3 g X false) := ⟨bstep H2.out.1 hb, (hb.block _ (heap_in8 H2.out.2.1)).trans H2.out.2.1, (hb.block _ (heap_in8 H2.out.2.2.1)).trans H2.out.2.2.1, hR⟩
  clear hR hb H2 hg
  go_wp2_with fail
  have HK : Hid (w.heap.size < q ∧ q < g) := ⟨kw, kq⟩
  clear kw kq
  refine from_region (by kernel_rfl) ?_
  refine seh (GtC w K F T V S pb nb cb q g X) (fun _ W W' => But g W W') [11, 13] [⟨11, 30, ToN g X⟩, ⟨13, 32, ToW g X⟩, ⟨14, 33, ToM K F T V S g X⟩, ⟨15, 7, ToB g⟩] 0 16 44 rfl rfl (by kernel_rfl) (by rfl) ?_ ?_ (by kernel_rfl) ?_ ?_ ?_ ?_
  · exact fun j W W' h hb => GtC.up h hb
  · exact GtC.up (j := 0) H3.out ⟨rfl, rfl, rfl, Nat.le_refl _, fun _ _ => rfl⟩
  · intro c hc
    simp only [List.mem_cons, List.not_mem_nil, or_false] at hc
    rcases hc with rfl | rfl
    · exact ⟨_, List.mem_cons_self, rfl⟩
    · exact ⟨_, (List.mem_cons_of_mem _ List.mem_cons_self), rfl⟩
  · intro e he v W W' h hb
    simp only [List.mem_cons, List.not_mem_nil, or_false] at he
    rcases he with rfl | rfl | rfl | rfl
    · exact ToN.up h hb
    · exact ToW.up h hb
    · exact ToM.up h hb
    · exact ToB.up h hb
  · intro j e he _ v W W' h _ hb
    simp only [List.mem_cons, List.not_mem_nil, or_false] at he
    rcases he with rfl | rfl | rfl | rfl
    · exact ToN.but h hb
    · exact ToW.but h hb
    · exact ToM.but h hb
    · exact ToB.but h hb
  apply Exists.intro
  refine ⟨fun x => ?_, ?_, ?_⟩
  · simp only [List.drop_succ_cons, List.drop_zero, List.take_succ_cons, List.take_zero]
    refine sehQuiet rfl rfl ?_
    apply Exists.intro
    refine ⟨fun b_ F_ hF hf K_ hK => ?_, ?_⟩
    · have hFc := hF.cls
      have q0 : ∀ d, (F_ d).cell? ⟨q, 0, none⟩ = some (.int .i64 K) := fun d => (fr_cells (hFc d).2.2.1).1.1
      clear hFc
      go_big_quiet_op
      first | exact hK | (apply Exists.intro; refine ⟨fun _ => ?_, ?_⟩; (· fail); exact hK)
    (try simp only [Act.put, List.setIfInBounds_toArray, List.set_cons_zero, List.set_cons_succ])
    refine sehQuiet rfl rfl ?_
    apply Exists.intro
    refine ⟨fun b_ F_ hF hf K_ hK => ?_, ?_⟩
    · have hFc := hF.cls
      have q0 : ∀ d, (F_ d).cell? ⟨q, 0, none⟩ = some (.int .i64 K) := fun d => (fr_cells (hFc d).2.2.1).1.1
      clear hFc
      go_big_quiet_op
      first | exact hK | (apply Exists.intro; refine ⟨fun _ => ?_, ?_⟩; (· fail); exact hK)
    (try simp only [Act.put, List.setIfInBounds_toArray, List.set_cons_zero, List.set_cons_succ])
    refine sehQuiet rfl rfl ?_
    apply Exists.intro
    refine ⟨fun b_ F_ hF hf K_ hK => ?_, ?_⟩
    · have hFc := hF.cls
      have q0 : ∀ d, (F_ d).cell? ⟨q, 1, none⟩ = some (.int .i64 F) := fun d => (fr_cells (hFc d).2.2.1).1.2.1
      clear hFc
      go_big_quiet_op
      first | exact hK | (apply Exists.intro; refine ⟨fun _ => ?_, ?_⟩; (· fail); exact hK)
    (try simp only [Act.put, List.setIfInBounds_toArray, List.set_cons_zero, List.set_cons_succ])
    refine sehQuiet rfl rfl ?_
    apply Exists.intro
    refine ⟨fun b_ F_ hF hf K_ hK => ?_, ?_⟩
    · have hFc := hF.cls
      have q0 : ∀ d, (F_ d).cell? ⟨q, 1, none⟩ = some (.int .i64 F) := fun d => (fr_cells (hFc d).2.2.1).1.2.1
      clear hFc
      go_big_quiet_op
      first | exact hK | (apply Exists.intro; refine ⟨fun _ => ?_, ?_⟩; (· fail); exact hK)
    (try simp only [Act.put, List.setIfInBounds_toArray, List.set_cons_zero, List.set_cons_succ])
    refine sehQuiet rfl rfl ?_
    apply Exists.intro
    refine ⟨fun b_ F_ hF hf K_ hK => ?_, ?_⟩
    · have hFc := hF.cls
      have q0 : ∀ d, (F_ d).cell? ⟨q, 2, none⟩ = some (.int .i64 T) := fun d => (fr_cells (hFc d).2.2.1).1.2.2.1
      clear hFc
      go_big_quiet_op
      first | exact hK | (apply Exists.intro; refine ⟨fun _ => ?_, ?_⟩; (· fail); exact hK)
    (try simp only [Act.put, List.setIfInBounds_toArray, List.set_cons_zero, List.set_cons_succ])
    refine sehQuiet rfl rfl ?_
    apply Exists.intro
    refine ⟨fun b_ F_ hF hf K_ hK => ?_, ?_⟩
    · have hFc := hF.cls
      have q0 : ∀ d, (F_ d).cell? ⟨q, 2, none⟩ = some (.int .i64 T) := fun d => (fr_cells (hFc d).2.2.1).1.2.2.1
      clear hFc
      go_big_quiet_op
      first | exact hK | (apply Exists.intro; refine ⟨fun _ => ?_, ?_⟩; (· fail); exact hK)
    (try simp only [Act.put, List.setIfInBounds_toArray, List.set_cons_zero, List.set_cons_succ])
    refine sehQuiet rfl rfl ?_
    apply Exists.intro
    refine ⟨fun b_ F_ hF hf K_ hK => ?_, ?_⟩
    · have hFc := hF.cls
      have q0 : ∀ d, (F_ d).cell? ⟨q, 3, none⟩ = some (.int .u32 V) := fun d => (fr_cells (hFc d).2.2.1).1.2.2.2.1
      clear hFc
      go_big_quiet_op
      first | exact hK | (apply Exists.intro; refine ⟨fun _ => ?_, ?_⟩; (· fail); exact hK)
    (try simp only [Act.put, List.setIfInBounds_toArray, List.set_cons_zero, List.set_cons_succ])
    refine sehQuiet rfl rfl ?_
    apply Exists.intro
    refine ⟨fun b_ F_ hF hf K_ hK => ?_, ?_⟩
    · have hFc := hF.cls
      have q0 : ∀ d, (F_ d).cell? ⟨q, 3, none⟩ = some (.int .u32 V) := fun d => (fr_cells (hFc d).2.2.1).1.2.2.2.1
      clear hFc
      go_big_quiet_op
      first | exact hK | (apply Exists.intro; refine ⟨fun _ => ?_, ?_⟩; (· fail); exact hK)
    (try simp only [Act.put, List.setIfInBounds_toArray, List.set_cons_zero, List.set_cons_succ])
    refine sehQuiet rfl rfl ?_
    apply Exists.intro
    refine ⟨fun b_ F_ hF hf K_ hK => ?_, ?_⟩
    · have hFc := hF.cls
      have q0 : ∀ d, (F_ d).cell? ⟨q, 4, none⟩ = some (.int .u32 S) := fun d => (fr_cells (hFc d).2.2.1).1.2.2.2.2.1
      clear hFc
      go_big_quiet_op
      first | exact hK | (apply Exists.intro; refine ⟨fun _ => ?_, ?_⟩; (· fail); exact hK)
    (try simp only [Act.put, List.setIfInBounds_toArray, List.set_cons_zero, List.set_cons_succ])
    refine sehQuiet rfl rfl ?_
    apply Exists.intro
    refine ⟨fun b_ F_ hF hf K_ hK => ?_, ?_⟩
    · have hFc := hF.cls
      have q0 : ∀ d, (F_ d).cell? ⟨q, 4, none⟩ = some (.int .u32 S) := fun d => (fr_cells (hFc d).2.2.1).1.2.2.2.2.1
      clear hFc
      go_big_quiet_op
      first | exact hK | (apply Exists.intro; refine ⟨fun _ => ?_, ?_⟩; (· fail); exact hK)
    (try simp only [Act.put, List.setIfInBounds_toArray, List.set_cons_zero, List.set_cons_succ])
    refine sehQuiet rfl rfl ?_
    apply Exists.intro
    refine ⟨fun b_ F_ hF hf K_ hK => ?_, ?_⟩
    · have hFc := hF.cls
      clear hFc
      go_big_quiet_op
      first | exact hK | (apply Exists.intro; refine ⟨fun _ => ?_, ?_⟩; (· fail); exact hK)
    (try simp only [Act.put, List.setIfInBounds_toArray, List.set_cons_zero, List.set_cons_succ])
    refine sehBusy rfl 0 rfl (fun j h => by match j, h with
      | 0, h => first | rfl | simp at h
      | 1, h => first | rfl | simp at h
      | j + 2, h => simp at h) rfl ?_ ?_
    · intro W hW hf
      simp [leavesR, leavesUpon, go_sem]
      refine (pwholes_any g X false W hW.2.2.2).mono ?_
      rintro e' w8 ⟨v8, rfl, ho8, hR8, hb8⟩
      exact ⟨_, rfl, OwnK.low ho8 hW.2.2.2.lt, hW.but hb8 hR8 (by have := HK.out; omega) (by have := HK.out; omega), hb8⟩
    (try simp only [Act.put, List.setIfInBounds_toArray, List.set_cons_zero, List.set_cons_succ])
    refine sehQuiet rfl rfl ?_
    apply Exists.intro
    refine ⟨fun b_ F_ hF hf K_ hK => ?_, ?_⟩
    · have hFc := hF.cls
      clear hFc
      go_big_quiet_op
      first | exact hK | (apply Exists.intro; refine ⟨fun _ => ?_, ?_⟩; (· fail); exact hK)
    (try simp only [Act.put, List.setIfInBounds_toArray, List.set_cons_zero, List.set_cons_succ])
    refine sehBusy rfl 1 rfl (fun j h => by match j, h with
      | 0, h => first | rfl | simp at h
      | 1, h => first | rfl | simp at h
      | j + 2, h => simp at h) rfl ?_ ?_
    · intro W hW hf
      simp [leavesR, leavesUpon, go_sem]
      refine (pwides_any g (hR X) (Nat.le_trans (hR_le X) (by have := HX.out.2.1; omega)) (hMN X) W hW.2.2.2).mono ?_
      rintro e' w8 ⟨v8, rfl, ho8, hR8, hb8⟩
      exact ⟨_, rfl, OwnW.low ho8 hW.2.2.2.lt, hW.but hb8 hR8 (by have := HK.out; omega) (by have := HK.out; omega), hb8⟩
    (try simp only [Act.put, List.setIfInBounds_toArray, List.set_cons_zero, List.set_cons_succ])
    refine sehTold rfl (by decide) rfl ?_ ?_
    · intro b_ F_ hF hf d
      have hFc := hF.cls
      have h9 := hf _ List.mem_cons_self (by rfl) d
      have h8 := hf _ (List.mem_cons_of_mem _ List.mem_cons_self) (by rfl) d
      obtain ⟨pa, na, ca, e9⟩ := OwnK.sl h9
      obtain ⟨pc, nc, cc, e8⟩ := OwnW.sl h8
      simp only [] at e9 h9 e8 h8
      rw [e9] at h9
      rw [e8] at h8
      simp [yieldsR, yieldsUpon, go_sem, e9, e8]
      exact ⟨⟨pa, na, ca, pc, nc, cc, rfl, h9, h8⟩, Below.refl _ _⟩
    (try simp only [Act.put, List.setIfInBounds_toArray, List.set_cons_zero, List.set_cons_succ])
    refine sehTold rfl (by decide) rfl ?_ ?_
    · intro b_ F_ hF hf d
      have hFc := hF.cls
      simp [yieldsR, yieldsUpon, go_sem]
      exact ⟨⟨(F_ d).heap.size, rfl, by show ((F_ d).heap.push _)[(F_ d).heap.size]? = _; simp, (hFc d).2.2.2.lt⟩, up_alloc _ _⟩
    (try simp only [Act.put, List.setIfInBounds_toArray, List.set_cons_zero, List.set_cons_succ])
    refine sehEnd ?_
    exact rfl
  · exact fun x => rfl
  · intro W4 xs hC hf
    refine from_list 16 (by kernel_rfl) ?_
    simp only [List.drop_succ_cons, List.drop_zero]
    have hm := hf _ (List.mem_cons_of_mem _ (List.mem_cons_of_mem _ List.mem_cons_self))
    have hb4 := hf _ (List.mem_cons_of_mem _ (List.mem_cons_of_mem _ (List.mem_cons_of_mem _ List.mem_cons_self)))
    obtain ⟨y7, e7⟩ : ∃ z, xs 15 = z := ⟨_, rfl⟩
    obtain ⟨y33, e33⟩ : ∃ z, xs 14 = z := ⟨_, rfl⟩
    simp only [e7] at hb4
    simp only [e33] at hm
    simp only [e7, e33]
    clear hf e7 e33
    obtain ⟨b, rfl, hb1, hb2⟩ := hb4
    obtain ⟨pN, nN, cN, pV, nV, cV, rfl, hoN, hoV⟩ := hm
    obtain rfl := OwnK.len hoN
    obtain rfl := OwnW.len hoV
    obtain ⟨nN, enN⟩ : ∃ x, (hNs X).length = x := ⟨_, rfl⟩
    obtain ⟨nV, enV⟩ : ∃ x, (hWs X).length = x := ⟨_, rfl⟩
    rw [enN] at hoN ⊢
    rw [enV] at hoV ⊢
    have hp := ms_put (.int .i64 K) (.int .i64 F) (.int .i64 T) (.int .u32 V) (.int .u32 S) (.slice pN nN cN) (.slice pV nV cV) hb1
    have HP := hid2 hp hp
    clear hp
    obtain ⟨⟨y0, y1, y2, y3, y4, y5, y6⟩, f0, f1, f2, f3, f4, f5, f6⟩ := ms_cells hb1
    have kz := cell_lt y0
    have hS : Stay b W4 (((((((W4.setCell ⟨b, 0, none⟩ (.int .i64 K)).setCell ⟨b, 1, none⟩ (.int .i64 F)).setCell ⟨b, 2, none⟩ (.int .i64 T)).setCell ⟨b, 3, none⟩ (.int .u32 V)).setCell ⟨b, 4, none⟩ (.int .u32 S)).setCell ⟨b, 5, none⟩ (.slice pN nN cN)).setCell ⟨b, 6, none⟩ (.slice pV nV cV)) := ((((((((Stay.refl _ _).set _ _).set _ _).set _ _).set _ _).set _ _).set _ _).set _ _)
    have hbl : Below b W4 (((((((W4.setCell ⟨b, 0, none⟩ (.int .i64 K)).setCell ⟨b, 1, none⟩ (.int .i64 F)).setCell ⟨b, 2, none⟩ (.int .i64 T)).setCell ⟨b, 3, none⟩ (.int .u32 V)).setCell ⟨b, 4, none⟩ (.int .u32 S)).setCell ⟨b, 5, none⟩ (.slice pN nN cN)).setCell ⟨b, 6, none⟩ (.slice pV nV cV)) := (Below.setCell (p := ⟨b, 6, none⟩) (Below.setCell (p := ⟨b, 5, none⟩) (Below.setCell (p := ⟨b, 4, none⟩) (Below.setCell (p := ⟨b, 3, none⟩) (Below.setCell (p := ⟨b, 2, none⟩) (Below.setCell (p := ⟨b, 1, none⟩) (Below.setCell (p := ⟨b, 0, none⟩) (Below.refl b W4) (Nat.le_refl _) (.int .i64 K)) (Nat.le_refl _) (.int .i64 F)) (Nat.le_refl _) (.int .i64 T)) (Nat.le_refl _) (.int .u32 V)) (Nat.le_refl _) (.int .u32 S)) (Nat.le_refl _) (.slice pN nN cN)) (Nat.le_refl _) (.slice pV nV cV))
    obtain ⟨U1, eU⟩ : ∃ U, (((((((W4.setCell ⟨b, 0, none⟩ (.int .i64 K)).setCell ⟨b, 1, none⟩ (.int .i64 F)).setCell ⟨b, 2, none⟩ (.int .i64 T)).setCell ⟨b, 3, none⟩ (.int .u32 V)).setCell ⟨b, 4, none⟩ (.int .u32 S)).setCell ⟨b, 5, none⟩ (.slice pN nN cN)).setCell ⟨b, 6, none⟩ (.slice pV nV cV)) = U := ⟨_, rfl⟩
    rw [eU] at hS hbl
    have H5 : Hid (Below w.heap.size w U1 ∧ U1.heap[w.heap.size]? = some (.cells #[.int .i64 0, .int .i64 0, .int .i64 0, .int .u32 0, .int .u32 0, .slice none 0 0, .slice none 0 0] 27 (0, 0)) ∧ Rd U1 g (hE X) (hM X) ∧ OwnK .i64 2 U1 (g + 1) (.slice pN nN cN) (hNs X) ∧ OwnW U1 (g + 1) (.slice pV nV cV) (hWs X)) :=
      ⟨hC.1.trans (hbl.mono (by have := HK.out; omega)), (hbl.block _ (by have := HK.out; omega)).trans hC.2.1, Rd.low hC.2.2.2 hbl hb2, OwnK.stayT hoN hb1 hS (by decide), OwnW.stayT hoV hb1 hS (by decide)⟩
    have HLn : Hid (nN = hN X ∧ nV = hW X) := ⟨by rw [← enN]; exact gdN_len _ _, by rw [← enV]; exact gdW_len _ _⟩
    clear hS hbl hoN hoV enN enV hC
    go_wp2_with fail
    (try rw [eU])
    have kb : b < U1.heap.size := by rw [← eU]; simpa using kz
    have HP2 := HP.out.1
    rw [eU] at HP2
    obtain ⟨u0, u1, u2, u3, u4, u5, u6⟩ := HP2
    clear eU y0 y1 y2 y3 y4 y5 y6 f0 f1 f2 f3 f4 f5 f6 kz HP hb1
    go_wp2_with fail
    refine (end_any g (hE X) (Nat.le_trans (hE_le X) (by have := HX.out.2.1; omega)) (hM X) U1 H5.out.2.2.1).mono ?_
    rintro e U9 ⟨rfl, he9⟩
    obtain rfl := he9.symm
    obtain ⟨r1, er1⟩ : ∃ r, (!hM X && decide ((hE X).length = 0)) = r := ⟨_, rfl⟩
    have HR1 : Hid ((!hM X && decide ((hE X).length = 0)) = r1) := er1
    rw [er1]
    clear er1
    cases r1 with
    | false =>
      have HD : Hid (o1 = 0 ∧ o2 = 0 ∧ o3 = 0 ∧ o4 = 0 ∧ o5 = 0 ∧ o6 = [] ∧ o7 = [] ∧ o8 = 3) := HN.out fun h => by
        have h2 := (hM_iff X).2 (HX.out.2.2.1.1 h)
        have h3 := HR1.out
        rw [h2.1] at h3
        simp [h2.2.1] at h3
      clear HR1 HLn HX HN HY u0 u1 u2 u3 u4 u5 u6
      have hz := H5.out.2.1
      obtain ⟨⟨z0, z1, z2, z3, z4, z5, z6⟩, e0, e1, e2, e3, e4, e5, e6⟩ := ms_cells hz
      have kz := cell_lt z0
      have ht := ms_put (.int .i64 0) (.int .i64 0) (.int .i64 0) (.int .u32 0) (.int .u32 0) (.slice none 0 0) (.slice none 0 0) hz
      have HT := hid2 ht ht
      clear ht
      have HB9 : Hid (Below w.heap.size w (((((((U1.setCell ⟨w.heap.size, 0, none⟩ (.int .i64 0)).setCell ⟨w.heap.size, 1, none⟩ (.int .i64 0)).setCell ⟨w.heap.size, 2, none⟩ (.int .i64 0)).setCell ⟨w.heap.size, 3, none⟩ (.int .u32 0)).setCell ⟨w.heap.size, 4, none⟩ (.int .u32 0)).setCell ⟨w.heap.size, 5, none⟩ (.slice none 0 0)).setCell ⟨w.heap.size, 6, none⟩ (.slice none 0 0))) := (Below.setCell (p := ⟨w.heap.size, 6, none⟩) (Below.setCell (p := ⟨w.heap.size, 5, none⟩) (Below.setCell (p := ⟨w.heap.size, 4, none⟩) (Below.setCell (p := ⟨w.heap.size, 3, none⟩) (Below.setCell (p := ⟨w.heap.size, 2, none⟩) (Below.setCell (p := ⟨w.heap.size, 1, none⟩) (Below.setCell (p := ⟨w.heap.size, 0, none⟩) H5.out.1 (Nat.le_refl _) (.int .i64 0)) (Nat.le_refl _) (.int .i64 0)) (Nat.le_refl _) (.int .i64 0)) (Nat.le_refl _) (.int .u32 0)) (Nat.le_refl _) (.int .u32 0)) (Nat.le_refl _) (.slice none 0 0)) (Nat.le_refl _) (.slice none 0 0))
      clear hz
      repeat (first | go_values | go_skip | go_guarded | go_step | go_upon | (simp only [Int.not_lt, Int.not_le] at *; go_simp))
      obtain ⟨t0, t1, t2, t3, t4, t5, t6⟩ := HT.out.1
      obtain ⟨d1, d2, d3, d4, d5, d6, d7, d8⟩ := HD.out
      subst d1 d2 d3 d4 d5 d6 d7 d8
      refine bodyPost_ret (v := .tuple #[MsV 0 0 0 0 0 (.slice none 0 0) (.slice none 0 0), .int .i64 3]) ?_ rfl ⟨.slice none 0 0, .slice none 0 0, rfl, OwnK.nil _ _ _ _, OwnW.nil _ _, HB9.out⟩
      simp only [results]
      simp only [Try.results9]
      simp [go_sem, t0, t1, t2, t3, t4, t5, t6, kz]
    | true =>
      have c := pmgood_any K F T V S pN pV nN cN nV cV U1
      obtain ⟨r2, er2⟩ : ∃ r, decide (goodG K F T nN nV) = r := ⟨_, rfl⟩
      have HR2 : Hid (decide (goodG K F T nN nV) = r2) := er2
      rw [er2] at c
      clear er2
      go_wp2_with fail
      refine c.mono ?_
      clear c
      rintro e U2 ⟨rfl, hb9⟩
      have H6 : Hid (Below w.heap.size w U2 ∧ U2.heap[w.heap.size]? = some (.cells #[.int .i64 0, .int .i64 0, .int .i64 0, .int .u32 0, .int .u32 0, .slice none 0 0, .slice none 0 0] 27 (0, 0)) ∧ OwnK .i64 2 U2 (g + 1) (.slice pN nN cN) (hNs X) ∧ OwnW U2 (g + 1) (.slice pV nV cV) (hWs X)) :=
        ⟨bstep H5.out.1 hb9, (hb9.block _ (heap_in8 H5.out.2.1)).trans H5.out.2.1, OwnK.up H5.out.2.2.2.1 hb9, OwnW.up H5.out.2.2.2.2 hb9⟩
      replace u0 := still_cell hb9 u0
      replace u1 := still_cell hb9 u1
      replace u2 := still_cell hb9 u2
      replace u3 := still_cell hb9 u3
      replace u4 := still_cell hb9 u4
      replace u5 := still_cell hb9 u5
      replace u6 := still_cell hb9 u6
      replace kb := cell_lt u0
      clear hb9 H5
      cases r2 with
      | false =>
        have HD : Hid (o1 = 0 ∧ o2 = 0 ∧ o3 = 0 ∧ o4 = 0 ∧ o5 = 0 ∧ o6 = [] ∧ o7 = [] ∧ o8 = 3) := HN.out fun h => by
          have h2 := (hM_iff X).2 (HX.out.2.2.1.1 h)
          have h3 := HX.out.2.2.2
          have h4 := HLn.out
          exact of_decide_eq_false HR2.out ⟨h3.1, h3.2.1, h3.2.2.1, by omega, by omega⟩
        clear HR1 HR2 HLn HX HN HY u0 u1 u2 u3 u4 u5 u6
        have hz := H6.out.2.1
        obtain ⟨⟨z0, z1, z2, z3, z4, z5, z6⟩, e0, e1, e2, e3, e4, e5, e6⟩ := ms_cells hz
        have kz := cell_lt z0
        have ht := ms_put (.int .i64 0) (.int .i64 0) (.int .i64 0) (.int .u32 0) (.int .u32 0) (.slice none 0 0) (.slice none 0 0) hz
        have HT := hid2 ht ht
        clear ht
        have HB9 : Hid (Below w.heap.size w (((((((U2.setCell ⟨w.heap.size, 0, none⟩ (.int .i64 0)).setCell ⟨w.heap.size, 1, none⟩ (.int .i64 0)).setCell ⟨w.heap.size, 2, none⟩ (.int .i64 0)).setCell ⟨w.heap.size, 3, none⟩ (.int .u32 0)).setCell ⟨w.heap.size, 4, none⟩ (.int .u32 0)).setCell ⟨w.heap.size, 5, none⟩ (.slice none 0 0)).setCell ⟨w.heap.size, 6, none⟩ (.slice none 0 0))) := (Below.setCell (p := ⟨w.heap.size, 6, none⟩) (Below.setCell (p := ⟨w.heap.size, 5, none⟩) (Below.setCell (p := ⟨w.heap.size, 4, none⟩) (Below.setCell (p := ⟨w.heap.size, 3, none⟩) (Below.setCell (p := ⟨w.heap.size, 2, none⟩) (Below.setCell (p := ⟨w.heap.size, 1, none⟩) (Below.setCell (p := ⟨w.heap.size, 0, none⟩) H6.out.1 (Nat.le_refl _) (.int .i64 0)) (Nat.le_refl _) (.int .i64 0)) (Nat.le_refl _) (.int .i64 0)) (Nat.le_refl _) (.int .u32 0)) (Nat.le_refl _) (.int .u32 0)) (Nat.le_refl _) (.slice none 0 0)) (Nat.le_refl _) (.slice none 0 0))
        clear hz
        repeat (first | go_values | go_skip | go_guarded | go_step | go_upon | (simp only [Int.not_lt, Int.not_le] at *; go_simp))
        obtain ⟨t0, t1, t2, t3, t4, t5, t6⟩ := HT.out.1
        obtain ⟨d1, d2, d3, d4, d5, d6, d7, d8⟩ := HD.out
        subst d1 d2 d3 d4 d5 d6 d7 d8
        refine bodyPost_ret (v := .tuple #[MsV 0 0 0 0 0 (.slice none 0 0) (.slice none 0 0), .int .i64 3]) ?_ rfl ⟨.slice none 0 0, .slice none 0 0, rfl, OwnK.nil _ _ _ _, OwnW.nil _ _, HB9.out⟩
        simp only [results]
        simp only [Try.results9]
        simp [go_sem, t0, t1, t2, t3, t4, t5, t6, kz]
      | true =>
        have hB : getB X := (hM_iff X).1 (by
          have h2 := of_decide_eq_true HR2.out
          have h3 := HR1.out
          have h4 := HLn.out
          simp only [Bool.and_eq_true, Bool.not_eq_true', decide_eq_true_eq] at h3
          exact ⟨h3.1, h3.2, by have := h2.2.2.2.1; omega, by have := h2.2.2.2.2; omega⟩)
        have HD : Hid (o1 = K ∧ o2 = F ∧ o3 = T ∧ o4 = V ∧ o5 = S ∧ o6 = hNs X ∧ o7 = hWs X ∧ o8 = 0) := by
          have h := HY.out (HX.out.2.2.1.2 hB)
          have h2 := h_is hB
          rw [h2.2.1, h2.2.2.2.1]
          exact h
        clear hB HR1 HR2 HLn HX HN HY
        have hz := H6.out.2.1
        obtain ⟨⟨z0, z1, z2, z3, z4, z5, z6⟩, e0, e1, e2, e3, e4, e5, e6⟩ := ms_cells hz
        have kw := cell_lt z0
        have ht := ms_put (.int .i64 K) (.int .i64 F) (.int .i64 T) (.int .u32 V) (.int .u32 S) (.slice pN nN cN) (.slice pV nV cV) hz
        have HT := hid2 ht ht
        clear ht
        have hS : Stay w.heap.size U2 (((((((U2.setCell ⟨w.heap.size, 0, none⟩ (.int .i64 K)).setCell ⟨w.heap.size, 1, none⟩ (.int .i64 F)).setCell ⟨w.heap.size, 2, none⟩ (.int .i64 T)).setCell ⟨w.heap.size, 3, none⟩ (.int .u32 V)).setCell ⟨w.heap.size, 4, none⟩ (.int .u32 S)).setCell ⟨w.heap.size, 5, none⟩ (.slice pN nN cN)).setCell ⟨w.heap.size, 6, none⟩ (.slice pV nV cV)) := ((((((((Stay.refl _ _).set _ _).set _ _).set _ _).set _ _).set _ _).set _ _).set _ _)
        have HB9 : Hid (Below w.heap.size w (((((((U2.setCell ⟨w.heap.size, 0, none⟩ (.int .i64 K)).setCell ⟨w.heap.size, 1, none⟩ (.int .i64 F)).setCell ⟨w.heap.size, 2, none⟩ (.int .i64 T)).setCell ⟨w.heap.size, 3, none⟩ (.int .u32 V)).setCell ⟨w.heap.size, 4, none⟩ (.int .u32 S)).setCell ⟨w.heap.size, 5, none⟩ (.slice pN nN cN)).setCell ⟨w.heap.size, 6, none⟩ (.slice pV nV cV)) ∧ OwnK .i64 2 (((((((U2.setCell ⟨w.heap.size, 0, none⟩ (.int .i64 K)).setCell ⟨w.heap.size, 1, none⟩ (.int .i64 F)).setCell ⟨w.heap.size, 2, none⟩ (.int .i64 T)).setCell ⟨w.heap.size, 3, none⟩ (.int .u32 V)).setCell ⟨w.heap.size, 4, none⟩ (.int .u32 S)).setCell ⟨w.heap.size, 5, none⟩ (.slice pN nN cN)).setCell ⟨w.heap.size, 6, none⟩ (.slice pV nV cV)) w.heap.size (.slice pN nN cN) (hNs X) ∧ OwnW (((((((U2.setCell ⟨w.heap.size, 0, none⟩ (.int .i64 K)).setCell ⟨w.heap.size, 1, none⟩ (.int .i64 F)).setCell ⟨w.heap.size, 2, none⟩ (.int .i64 T)).setCell ⟨w.heap.size, 3, none⟩ (.int .u32 V)).setCell ⟨w.heap.size, 4, none⟩ (.int .u32 S)).setCell ⟨w.heap.size, 5, none⟩ (.slice pN nN cN)).setCell ⟨w.heap.size, 6, none⟩ (.slice pV nV cV)) w.heap.size (.slice pV nV cV) (hWs X)) := ⟨(Below.setCell (p := ⟨w.heap.size, 6, none⟩) (Below.setCell (p := ⟨w.heap.size, 5, none⟩) (Below.setCell (p := ⟨w.heap.size, 4, none⟩) (Below.setCell (p := ⟨w.heap.size, 3, none⟩) (Below.setCell (p := ⟨w.heap.size, 2, none⟩) (Below.setCell (p := ⟨w.heap.size, 1, none⟩) (Below.setCell (p := ⟨w.heap.size, 0, none⟩) H6.out.1 (Nat.le_refl _) (.int .i64 K)) (Nat.le_refl _) (.int .i64 F)) (Nat.le_refl _) (.int .i64 T)) (Nat.le_refl _) (.int .u32 V)) (Nat.le_refl _) (.int .u32 S)) (Nat.le_refl _) (.slice pN nN cN)) (Nat.le_refl _) (.slice pV nV cV)), OwnK.low (OwnK.stayT H6.out.2.2.1 hz hS (by decide)) (by have := HK.out; omega), OwnW.low (OwnW.stayT H6.out.2.2.2 hz hS (by decide)) (by have := HK.out; omega)⟩
        clear hz hS
        repeat (first | go_values | go_skip | go_guarded | go_step | go_upon | (simp only [Int.not_lt, Int.not_le] at *; go_simp))
        obtain ⟨t0, t1, t2, t3, t4, t5, t6⟩ := HT.out.1
        obtain ⟨d1, d2, d3, d4, d5, d6, d7, d8⟩ := HD.out
        subst d1 d2 d3 d4 d5 d6 d7 d8
        refine bodyPost_ret (v := .tuple #[MsV o1 o2 o3 o4 o5 (.slice pN nN cN) (.slice pV nV cV), .int .i64 0]) ?_ rfl ⟨.slice pN nN cN, .slice pV nV cV, rfl, HB9.out.2.1, HB9.out.2.2, HB9.out.1⟩
        simp only [results]
        simp only [Try.results9]
        simp [go_sem, t0, t1, t2, t3, t4, t5, t6, kw]
end Go.Proofs.Ythmpfdkbpdbhnaa.Wd
