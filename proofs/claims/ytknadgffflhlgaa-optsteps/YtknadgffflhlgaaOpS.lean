/- What a trainer begins with, as the reference says it; the law's own rate and same. -/
import Derived.Test.YtknadgffflhlgaaOpR
import Derived.Test.YtknadgffflhlgaaApp
import Derived.Test.YtknadgffflhlgaaAlk
import Derived.BigQuiet
namespace Go.Proofs.Ytknadgffflhlgaa.Wd
open Go.RowKit Fx
set_option linter.unusedVariables false
set_option linter.unusedSimpArgs false
set_option maxRecDepth 8000
set_option maxHeartbeats 8000000
def MadeO (B n : Nat) (v : Value) (W : World) : Prop := ∃ g, v = .slice (some ⟨g, 0, none⟩) n n ∧ OwnK .i64 27 W B (.slice (some ⟨g, 0, none⟩) n n) (List.replicate n 0)
theorem MadeO.up {B n : Nat} {v : Value} {W W' : World} (h : MadeO B n v W) (hB : Below W.heap.size W W') : MadeO B n v W' := by
  obtain ⟨g, e, a⟩ := h
  exact ⟨g, e, a.up hB⟩
def PairB (B : Nat) (P M : List Int) (v : Value) (W : World) : Prop := ∃ p n c q m d, v = .agg #[.slice p n c, .slice q m d] ∧ OwnK .i64 27 W B (.slice p n c) P ∧ OwnK .i64 27 W B (.slice q m d) M
theorem PairB.up {B : Nat} {P M : List Int} {v : Value} {W W' : World} (h : PairB B P M v W) (hB : Below W.heap.size W W') : PairB B P M v W' := by
  obtain ⟨p, n, c, q, m, d, e, h1, h2⟩ := h
  exact ⟨p, n, c, q, m, d, e, h1.up hB, h2.up hB⟩
theorem rate_any (ss kk bb : Int) (w : World) : Calls Try.prog 14 #[.agg #[.int .i64 ss, .int .i64 kk, .int .i64 bb]] w fun e w' => e = .returned (.agg #[.int .i64 ss, .int .i64 kk, .int .i64 bb]) ∧ Below w.heap.size w w' := by
  go_enter Try.func14, Try.ntmps14
  go_wp2
  exact bodyPost_ret (v := .agg #[.int .i64 ss, .int .i64 kk, .int .i64 bb]) (by simp [results, Try.results14, go_sem]) rfl ⟨rfl, by go_grown⟩
theorem same15_any (p q p2 q2 : Option Addr) (n c m d n2 c2 m2 d2 : Nat) (P M : List Int) (hn : n ≤ 1048576) (hm : m ≤ 1048576) (w : World) (h1 : Nums .i64 w (.slice p n c) P) (h2 : Nums .i64 w (.slice q m d) M) (h3 : Nums .i64 w (.slice p2 n2 c2) P) (h4 : Nums .i64 w (.slice q2 m2 d2) M) :
    Calls Try.prog 15 #[.agg #[.slice p n c, .slice q m d], .agg #[.slice p2 n2 c2, .slice q2 m2 d2]] w fun e w' => e = .returned (.bool true) ∧ Below w.heap.size w w' := by
  have HN : Hid (Nums .i64 w (.slice p n c) P ∧ Nums .i64 w (.slice q m d) M ∧ Nums .i64 w (.slice p2 n2 c2) P ∧ Nums .i64 w (.slice q2 m2 d2) M) := ⟨h1, h2, h3, h4⟩
  clear h1 h2 h3 h4
  go_enter Try.func15, Try.ntmps15
  go_wp2_with fail
  generalize hW0 : World.alloc _ _ = W0
  have HB0 := hidB (w := w) hW0 (by go_grown)
  have XA : Hid (Cel W0 w.heap.size (.slice p n c) (.slice q m d)) := celW hW0 (by simp [go_sem])
  have XB : Hid (Cel W0 (w.heap.size + 1) (.slice p2 n2 c2) (.slice q2 m2 d2)) := celW hW0 (by simp [go_sem])
  clear hW0
  have cc := alike10_any p p2 n c n2 c2 P P (by omega) W0 (HN.out.1.up HB0.out) (HN.out.2.2.1.up HB0.out)
  rw [decide_eq_true rfl] at cc
  refine cc.mono ?_
  rintro e w1 ⟨rfl, hB⟩
  have H1 : Hid (Below w.heap.size w w1) := bstep HB0.out hB
  obtain ⟨a0, a1, _, _⟩ := XA.out.up hB
  obtain ⟨b0, b1, _, _⟩ := XB.out.up hB
  clear hB cc HB0 XA XB
  have cc := alike10_any q q2 m d m2 d2 M M (by omega) w1 (HN.out.2.1.up H1.out) (HN.out.2.2.2.up H1.out)
  rw [decide_eq_true rfl] at cc
  go_wp2_with fail
  refine cc.mono ?_
  rintro e w2 ⟨rfl, hB⟩
  have H2 : Hid (Below w.heap.size w w2) := bstep H1.out hB
  clear hB cc H1 a0 a1 b0 b1
  go_wp2
  go_ret
  exact ⟨rfl, H2.out⟩
theorem begin_any (p : Option Addr) (n c : Nat) (x : List Int) (hx : x.length = n) (hn : n ≤ 1048576) (w : World) (h1 : Nums .i64 w (.slice p n c) x) :
    Calls Try.prog 16 #[.slice p n c] w fun e w' => ∃ v, e = .returned v ∧ SRes w' v x (List.replicate n 0) ∧ Below w.heap.size w w' := by
  haveI : Nonempty World := ⟨w⟩
  have HN : Hid (Nums .i64 w (.slice p n c) x ∧ x.length = n ∧ n ≤ 1048576) := ⟨h1, hx, hn⟩
  clear h1 hx
  go_enter Try.func16, Try.ntmps16
  go_wp2_with fail
  generalize hW0 : World.alloc _ _ = W0
  have HB0 := hidB (w := w) hW0 (by go_grown)
  have XR : Hid (Cel W0 w.heap.size (.slice none 0 0) (.slice none 0 0)) := celW hW0 (by simp [go_sem])
  clear hW0
  obtain ⟨MK, eMK⟩ : ∃ MK, vals .i64 (List.replicate n 0) = MK := ⟨_, rfl⟩
  have hmk : ∀ W, (Instr.makeSlice 23 (.int .i64 (n : Int)) (.int .i64 (n : Int))).run Try.prog W = .ok (.slice (some ⟨W.heap.size, 0, none⟩) n n) (W.alloc (.cells MK.toArray 27)) := fun W => by rw [← eMK]; exact make_run fixT (by decide) n (by omega) .i64 .i64 W
  have HMK : Hid (vals .i64 (List.replicate n 0) = MK) := eMK
  clear eMK
  refine rel [⟨0, 3, LitX 27 W0.heap.size []⟩, ⟨2, 5, RowX 27 W0.heap.size x⟩, ⟨5, 8, MadeO W0.heap.size n⟩, ⟨6, 9, PairB W0.heap.size x (List.replicate n 0)⟩] 7 10 (by kernel_rfl) rfl rfl (by kernel_rfl) (by rfl) ?_ ?_
  · intro e he v W W' h hb
    simp only [List.mem_cons, List.not_mem_nil, or_false] at he
    rcases he with rfl | rfl | rfl | rfl
    · exact LitX.up h hb
    · exact RowX.up h hb
    · exact MadeO.up h hb
    · exact PairB.up h hb
  apply Exists.intro
  refine ⟨fun x_ => ?_, ?_, ?_⟩
  · simp only [List.take_succ_cons, List.take_zero]
    refine relTold rfl rfl ?_ ?_
    · intro F hF hf d
      have hFc := hF.cell
      have hFf := hF.frozen
      simp [yieldsR, yieldsUpon, go_sem]
      exact ⟨litX_new _ _ [] (F d) (hF.below d).size, up_alloc _ _⟩
    (try simp only [Act.put, List.setIfInBounds_toArray, List.set_cons_zero, List.set_cons_succ])
    refine relQuiet rfl rfl ?_
    apply Exists.intro
    refine ⟨fun F hF hf K hK => ?_, ?_⟩
    · have hFc := hF.cell
      have hFf := hF.frozen
      go_big_quiet_op
      first | exact hK | (apply Exists.intro; refine ⟨fun _ => ?_, ?_⟩; (· fail); exact hK)
    (try simp only [Act.put, List.setIfInBounds_toArray, List.set_cons_zero, List.set_cons_succ])
    refine relTold rfl rfl ?_ ?_
    · intro F hF hf d
      have hFc := hF.cell
      have hFf := hF.frozen
      have h9 := hf _ List.mem_cons_self (by rfl) d
      obtain ⟨v8, w8, hr8, ho8, hb8⟩ := appX fixT (by decide) 23 (F d) W0.heap.size _ h9 (hF.below d).size _ _ (HN.out.1.up (bstep HB0.out (hF.below d))) (by have := HN.out; omega)
      simp [yieldsR, yieldsUpon, execOp, resolve, invoke, builtin, Act.eval, hr8, Result.andThen]
      exact ⟨ho8, hb8⟩
    (try simp only [Act.put, List.setIfInBounds_toArray, List.set_cons_zero, List.set_cons_succ])
    refine relQuiet rfl rfl ?_
    apply Exists.intro
    refine ⟨fun F hF hf K hK => ?_, ?_⟩
    · have hFc := hF.cell
      have hFf := hF.frozen
      go_big_quiet_op
      first | exact hK | (apply Exists.intro; refine ⟨fun _ => ?_, ?_⟩; (· fail); exact hK)
    (try simp only [Act.put, List.setIfInBounds_toArray, List.set_cons_zero, List.set_cons_succ])
    refine relQuiet rfl rfl ?_
    apply Exists.intro
    refine ⟨fun F hF hf K hK => ?_, ?_⟩
    · have hFc := hF.cell
      have hFf := hF.frozen
      go_big_quiet_op
      first | exact hK | (apply Exists.intro; refine ⟨fun _ => ?_, ?_⟩; (· fail); exact hK)
    (try simp only [Act.put, List.setIfInBounds_toArray, List.set_cons_zero, List.set_cons_succ])
    refine relTold rfl rfl ?_ ?_
    · intro F hF hf d
      have hFc := hF.cell
      have hFf := hF.frozen
      simp [yieldsR, yieldsUpon, go_sem, hmk]
      exact ⟨⟨(F d).heap.size, rfl, by rw [← HMK.out]; exact (own_lit (k := .i64) (e := 27) (F d) (List.replicate n 0) n (by simp) (by omega)).low (hF.below d).size⟩, up_alloc _ _⟩
    (try simp only [Act.put, List.setIfInBounds_toArray, List.set_cons_zero, List.set_cons_succ])
    refine relTold rfl rfl ?_ ?_
    · intro F hF hf d
      have hFc := hF.cell
      have hFf := hF.frozen
      have h8 := hf _ (List.mem_cons_of_mem _ List.mem_cons_self) (by rfl) d
      have h9 := hf _ (List.mem_cons_of_mem _ (List.mem_cons_of_mem _ List.mem_cons_self)) (by rfl) d
      obtain ⟨o8, _⟩ := h8
      obtain ⟨p8, n8, c8, e8, _⟩ := o8.nums.lst
      obtain ⟨g9, e9, o9⟩ := h9
      simp only [] at e8 e9 o8
      rw [e8] at o8
      simp [yieldsR, yieldsUpon, go_sem, e8, e9]
      exact ⟨⟨_, _, _, _, _, _, rfl, o8, o9⟩, Below.refl _ _⟩
    (try simp only [Act.put, List.setIfInBounds_toArray, List.set_cons_zero, List.set_cons_succ])
    refine relEnd ?_
    exact rfl
  · intro x
    simp only [putsK, List.foldl_cons, List.foldl_nil, Act.put, List.setIfInBounds_toArray, List.set_cons_zero, List.set_cons_succ]
  · intro w9 xs hB9 hf
    simp only [List.drop_succ_cons, List.drop_zero]
    obtain ⟨z0, ez0⟩ : ∃ z, xs 0 = z := ⟨_, rfl⟩
    obtain ⟨z2, ez2⟩ : ∃ z, xs 2 = z := ⟨_, rfl⟩
    obtain ⟨z5, ez5⟩ : ∃ z, xs 5 = z := ⟨_, rfl⟩
    have hS := hf _ (List.mem_cons_of_mem _ (List.mem_cons_of_mem _ (List.mem_cons_of_mem _ List.mem_cons_self)))
    simp only [] at hS
    obtain ⟨p3, n3, c3, q3, m3, d3, e6, hP, hM⟩ := hS
    simp only [ez0, ez2, ez5, e6]
    have kr := cell_lt XR.out.1
    have HF : Hid (SRes (set2 w9 w.heap.size (.slice p3 n3 c3) (.slice q3 m3 d3)) (.agg #[.slice p3 n3 c3, .slice q3 m3 d3]) x (List.replicate n 0) ∧ Below w.heap.size w (set2 w9 w.heap.size (.slice p3 n3 c3) (.slice q3 m3 d3))) := by
      have s2 := Stay.set2 (g := w.heap.size) w9 (.slice p3 n3 c3) (.slice q3 m3 d3)
      exact ⟨⟨_, _, _, _, _, _, rfl, (hP.stay s2 (hP.off kr)).low (Nat.zero_le _), (hM.stay s2 (hM.off kr)).low (Nat.zero_le _)⟩, below_cell (bstep HB0.out hB9) _ (Nat.le_refl _) _ _⟩
    have xr := XR.out.up hB9
    have cf := xr.set (.slice p3 n3 c3) (.slice q3 m3 d3)
    obtain ⟨r0, r1, r2, r3⟩ := xr
    obtain ⟨y0, y1, _, _⟩ := cf
    clear hf hB9 hP hM ez0 ez2 ez5 e6 hmk HMK
    go_wp2
    exact bodyPost_ret (v := .agg #[.slice p3 n3 c3, .slice q3 m3 d3]) (by simp [results, Try.results16, go_sem, y0, y1]) rfl ⟨_, rfl, HF.out.1, HF.out.2⟩
end Go.Proofs.Ytknadgffflhlgaa.Wd
