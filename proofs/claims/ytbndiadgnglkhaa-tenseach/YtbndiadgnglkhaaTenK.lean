/- Tensors: what the reference's Reshape hands back. -/
import Derived.Test.YtbndiadgnglkhaaTenH
import Derived.ArgAppend
namespace Go.Proofs.Ytbndiadgnglkhaa.Wd
open Go.RowKit
set_option linter.unusedVariables false
set_option linter.unusedSimpArgs false
/-- An empty slice of the call's own. -/
def Emp (k : IntKind) (e : TypeId) (B : Nat) (v : Value) (W : World) : Prop := ∃ g, v = .slice (some ⟨g, 0, none⟩) 0 0 ∧ OwnK k e W B v []
theorem app0 {P : Program} {t e : TypeId} {k : IntKind} {b : Nat} (T : NumT P t e k b) (hb8 : b ≤ 8) (ty : TypeId) (W : World) (B g : Nat) (h0 : OwnK k e W B (.slice (some ⟨g, 0, none⟩) 0 0) []) (hB : B ≤ W.heap.size) (v : Value) (l : List Int) (hv : Nums k W v l) (hl : l.length ≤ 1073741824) :
    ∃ v' w', (Builtin.append_ #[t, t] ty #[.slice (some ⟨g, 0, none⟩) 0 0, v]).run P W = .ok v' w' ∧ OwnK k e w' B v' l ∧ Below W.heap.size W w' := by
  obtain ⟨i0, hi, hz0, hz1, hz2⟩ := info_of T
  rcases hv with ⟨rfl, rfl⟩ | ⟨ad, c, rfl, hc⟩
  · exact ⟨_, W, run_append_owned_none W B t ty e i0 1 T.ht hi _ _ _ h0, h0, Below.refl _ _⟩
  · by_cases h : l = []
    · subst h
      refine ⟨.slice (some ⟨g, 0, none⟩) 0 0, W, ?_, h0, Below.refl _ _⟩
      have hf := run_firstCells_some (P := P) W i0.size 0 ad 0 c [] (by simp) (fun j u hu => by simp at hu)
      simp [Builtin.append_, run_underlying T.ht, sizeOf, typeInfo, hi, Builtin.lenOf, hf, storeCells]
    · have hpos : 0 < l.length := by cases l with | nil => exact absurd rfl h | cons a l => simp
      have hm : (0 + l.length) * b ≤ 1073741824 * 8 := Nat.mul_le_mul (by omega) hb8
      obtain ⟨v', w', hr, ho, hgr⟩ := run_append_arg_grows (P := P) (w := W) t ty e i0 (.int k 0) 1 b T.ht hi hz0 hz1 hz2 rfl (by decide) ⟨g, 0, none⟩ 0 0 [] rfl (fun j u hu => by simp at hu) ad l.length c (vals k l) (by simp [vals]) hc (by omega) (by unfold maxLen; omega) (by omega)
      refine ⟨v', w', hr, ?_, Below.grown (Below.refl _ _) hgr (Nat.le_refl _) (fun j hj => by cases hj)⟩
      rw [Nat.zero_add, List.nil_append] at ho
      exact OwnK.low (B := W.heap.size) ho hB
set_option maxHeartbeats 2000000 in
theorem rreshape_any (p p2 p3 : Option Addr) (n c n2 c2 n3 c3 : Nat) (d x d' : List Int) (hd : RI d) (hd' : RI d') (w : World) (h1 : Nums .i64 w (.slice p n c) d) (h2 : Nums .i64 w (.slice p2 n2 c2) x) (h3 : Nums .i64 w (.slice p3 n3 c3) d') :
    Calls Try.prog 26 #[.agg #[.slice p n c, .slice p2 n2 c2], .slice p3 n3 c3] w fun e w' => ∃ v', e = .returned (.tuple #[v', .int .i64 (shpE d x d')]) ∧ TRes w' w.heap.size v' (shpD d x d') (shpV d x d') ∧ Below w.heap.size w w' := by
  have cA : ∀ W, Below w.heap.size w W → Calls Try.prog 23 #[.agg #[.slice p n c, .slice p2 n2 c2]] W fun e w' => e = .returned (.bool (decide (isP d x))) ∧ Below W.heap.size W w' := fun W hW => ris_any _ _ d x hd W (h1.up hW) (h2.up hW)
  have cB : ∀ W, Below w.heap.size w W → Calls Try.prog 29 #[.slice p3 n3 c3] W fun e w' => e = .returned (.bool (decide (goodN (ntl d')))) ∧ w' = W := fun W hW => rgood_any _ d' hd' W (h3.up hW)
  have cZ : ∀ W, Below w.heap.size w W → Calls Try.prog 53 #[.slice p3 n3 c3] W fun e w' => e = .returned (.int .i64 ((sizeN (ntl d') : Nat) : Int)) ∧ w' = W := fun W hW => rsize_any _ d' hd' W (h3.up hW)
  have HN : Hid (Nums .i64 w (.slice p n c) d ∧ Nums .i64 w (.slice p2 n2 c2) x ∧ Nums .i64 w (.slice p3 n3 c3) d') := ⟨h1, h2, h3⟩
  obtain ⟨_, _, _, e4, HX⟩ := h2.lst
  cases e4
  unfold shpE shpD shpV
  by_cases hp : isP d x
  · rw [decide_eq_true hp] at cA
    by_cases hg : goodN (ntl d')
    · rw [decide_eq_true hg] at cB
      rw [sizeN_good hg] at cZ
      rw [if_pos ⟨hp, hg⟩]
      have hlen : x.length ≤ 4096 := by rw [hp.2]; exact hp.1.2.2
      have HP : Hid (isP d x ∧ goodN (ntl d') ∧ x.length ≤ 4096) := ⟨hp, hg, hlen⟩
      by_cases hN : prodN (ntl d') = x.length
      · rw [if_pos hN, if_pos ⟨⟨hp, hg⟩, hN⟩, if_pos ⟨⟨hp, hg⟩, hN⟩]
        rw [hN, HX.out.1] at cZ
        clear hN h1 h2 h3 hd hd' hp hg hlen
        go_enter Try.func26, Try.ntmps26
        go_wp2_with fail
        generalize hW0 : World.alloc _ _ = W0
        have B0 : Below w.heap.size w W0 := by rw [← hW0]; go_grown
        have XA : Hid (Cel W0 w.heap.size (.slice p n c) (.slice p2 n2 c2)) := by show Cel _ _ _ _; unfold Cel; rw [← hW0]; simp [go_sem]
        have XR : Hid (Cel W0 (w.heap.size + 1) (.slice none 0 0) (.slice none 0 0)) := by show Cel _ _ _ _; unfold Cel; rw [← hW0]; simp [go_sem]
        have HB0 : Hid (Below w.heap.size w W0) := B0
        clear hW0 B0
        refine (cA W0 HB0.out).mono ?_
        rintro e w1 ⟨rfl, hB1⟩
        have HB1 : Hid (Below w.heap.size w w1 ∧ Below W0.heap.size W0 w1) := ⟨bstep HB0.out hB1, hB1⟩
        clear hB1
        go_wp2_with fail
        refine (cB w1 HB1.out.1).mono ?_
        rintro e w2 ⟨rfl, rfl⟩
        clear cB
        obtain ⟨a0, a1, _, _⟩ := XA.out.up HB1.out.2
        have cz : ∀ m, Calls Try.prog 53 #[.slice p3 n3 c3] (w2.drewN m) fun e w' => e = .returned (.int .i64 (n2 : Int)) ∧ w' = w2.drewN m := fun m => cZ _ (below_drew HB1.out.1 m)
        go_wp2_with fail
        go_quiet (exact Calls.quiet_of_same (cz _))
        generalize hw5 : World.drewN w2 nq = w5
        have HB5 : Hid (Below w.heap.size w w5 ∧ Below W0.heap.size W0 w5) := by rw [← hw5]; exact ⟨below_drew HB1.out.1 nq, below_drew HB1.out.2 nq⟩
        clear a0 a1 hw5
        obtain ⟨a0, a1, _, _⟩ := XA.out.up HB5.out.2
        have HND : Hid (∀ W, Below w5.heap.size w5 W → Nums .i64 W (.slice p3 n3 c3) d' ∧ d'.length ≤ 1073741824) := fun W hW => ⟨HN.out.2.2.up (bstep HB5.out.1 hW), by have := HP.out.2.1.1; rw [ntl_len] at this; omega⟩
        have HNX : Hid (∀ W, Below w5.heap.size w5 W → Nums .i64 W (.slice p2 n2 c2) x ∧ x.length ≤ 1073741824) := fun W hW => ⟨HN.out.2.1.up (bstep HB5.out.1 hW), by have := HP.out.2.2; omega⟩
        have z0 := cell_lt a0
        haveI : Nonempty World := ⟨w⟩
        clear cz cZ cA
        go_wp2_with fail
        refine rel [⟨0, 22, Emp .i64 3 w5.heap.size⟩, ⟨2, 24, fun v W => OwnK .i64 3 W w5.heap.size v d'⟩, ⟨3, 25, Emp .i64 24 w5.heap.size⟩, ⟨6, 28, fun v W => OwnK .i64 24 W w5.heap.size v x⟩] 7 30 (by kernel_rfl) rfl rfl (by kernel_rfl) (by rfl) ?_ ?_
        · intro e he v W W' h hb
          simp only [List.mem_cons, List.not_mem_nil, or_false] at he
          rcases he with rfl | rfl | rfl | rfl
          · obtain ⟨g, e1, h1⟩ := h
            exact ⟨g, e1, h1.up hb⟩
          · exact OwnK.up h hb
          · obtain ⟨g, e1, h1⟩ := h
            exact ⟨g, e1, h1.up hb⟩
          · exact OwnK.up h hb
        apply Exists.intro
        refine ⟨fun x => ?_, ?_, ?_⟩
        · simp only [List.take_succ_cons, List.take_zero]
          refine relTold rfl rfl ?_ ?_
          · intro F hF hf d_
            have hFc := hF.cell
            have hFf := hF.frozen
            simp [yieldsR, yieldsUpon, go_sem]
            exact ⟨⟨(F d_).heap.size, rfl, (own_lit (k := .i64) (e := 3) (F d_) [] 0 rfl (by decide)).low (hF.below d_).size⟩, up_alloc _ _⟩
          (try simp only [Act.put, List.setIfInBounds_toArray, List.set_cons_zero, List.set_cons_succ])
          refine relQuiet rfl rfl ?_
          apply Exists.intro
          refine ⟨fun F hF hf K hK => ?_, ?_⟩
          · have hFc := hF.cell
            have hFf := hF.frozen
            go_big_quiet_op
            first | exact hK | (apply Exists.intro; refine ⟨fun _ => ?_, ?_⟩; (· fail); exact hK)
          (try simp only [Act.put, List.setIfInBounds_toArray, List.set_cons_zero, List.set_cons_succ])
          refine relTold rfl rfl ?_ ?_
          · intro F hF hf d_
            have hFc := hF.cell
            have hFf := hF.frozen
            have h9 := hf _ List.mem_cons_self (by rfl) d_
            obtain ⟨g9, e9, o9⟩ := h9
            simp only [] at e9
            rw [e9] at o9
            obtain ⟨v8, w8, hr, ho, hb⟩ := app0 numT (by decide) 23 (F d_) w5.heap.size g9 o9 (hF.below d_).size _ _ (HND.out (F d_) (hF.below d_)).1 (HND.out (F d_) (hF.below d_)).2
            simp [yieldsR, yieldsUpon, execOp, resolve, invoke, builtin, Act.eval, e9, hr, Result.andThen]
            exact ⟨ho, hb⟩
          (try simp only [Act.put, List.setIfInBounds_toArray, List.set_cons_zero, List.set_cons_succ])
          refine relTold rfl rfl ?_ ?_
          · intro F hF hf d_
            have hFc := hF.cell
            have hFf := hF.frozen
            simp [yieldsR, yieldsUpon, go_sem]
            exact ⟨⟨(F d_).heap.size, rfl, (own_lit (k := .i64) (e := 24) (F d_) [] 0 rfl (by decide)).low (hF.below d_).size⟩, up_alloc _ _⟩
          (try simp only [Act.put, List.setIfInBounds_toArray, List.set_cons_zero, List.set_cons_succ])
          refine relQuiet rfl rfl ?_
          apply Exists.intro
          refine ⟨fun F hF hf K hK => ?_, ?_⟩
          · have hFc := hF.cell
            have hFf := hF.frozen
            go_big_quiet_op
            first | exact hK | (apply Exists.intro; refine ⟨fun _ => ?_, ?_⟩; (· fail); exact hK)
          (try simp only [Act.put, List.setIfInBounds_toArray, List.set_cons_zero, List.set_cons_succ])
          refine relQuiet rfl rfl ?_
          apply Exists.intro
          refine ⟨fun F hF hf K hK => ?_, ?_⟩
          · have hFc := hF.cell
            have hFf := hF.frozen
            go_big_quiet_op
            first | exact hK | (apply Exists.intro; refine ⟨fun _ => ?_, ?_⟩; (· fail); exact hK)
          (try simp only [Act.put, List.setIfInBounds_toArray, List.set_cons_zero, List.set_cons_succ])
          refine relTold rfl rfl ?_ ?_
          · intro F hF hf d_
            have hFc := hF.cell
            have hFf := hF.frozen
            have h9 := hf _ (List.mem_cons_of_mem _ (List.mem_cons_of_mem _ List.mem_cons_self)) (by rfl) d_
            obtain ⟨g9, e9, o9⟩ := h9
            simp only [] at e9
            rw [e9] at o9
            obtain ⟨v8, w8, hr, ho, hb⟩ := app0 fixT (by decide) 25 (F d_) w5.heap.size g9 o9 (hF.below d_).size _ _ (HNX.out (F d_) (hF.below d_)).1 (HNX.out (F d_) (hF.below d_)).2
            simp [yieldsR, yieldsUpon, execOp, resolve, invoke, builtin, Act.eval, e9, hr, Result.andThen]
            exact ⟨ho, hb⟩
          (try simp only [Act.put, List.setIfInBounds_toArray, List.set_cons_zero, List.set_cons_succ])
          refine relEnd ?_
          exact rfl
        · exact fun x => rfl
        · intro w6 xs hB6 hf
          simp only [List.drop_succ_cons, List.drop_zero]
          have hfa := hf _ (List.mem_cons_of_mem _ List.mem_cons_self)
          have hfb := hf _ (List.mem_cons_of_mem _ (List.mem_cons_of_mem _ (List.mem_cons_of_mem _ List.mem_cons_self)))
          obtain ⟨fa, efa⟩ : ∃ fa, xs 2 = fa := ⟨_, rfl⟩
          obtain ⟨fb, efb⟩ : ∃ fb, xs 6 = fb := ⟨_, rfl⟩
          simp only [efa, efb] at hfa hfb ⊢
          clear efa efb hf
          obtain ⟨pa, na, ca, rfl, _⟩ := hfa.nums.lst
          obtain ⟨pb, nb, cb, rfl, _⟩ := hfb.nums.lst
          have HF : Hid (TRes (set2 w6 (w.heap.size + 1) (.slice pa na ca) (.slice pb nb cb)) w.heap.size (.agg #[.slice pa na ca, .slice pb nb cb]) d' x ∧ Below w.heap.size w (set2 w6 (w.heap.size + 1) (.slice pa na ca) (.slice pb nb cb))) := by
            exact ⟨(TRes.set hfa hfb (Nat.lt_of_lt_of_le (cell_lt XR.out.1) HB5.out.2.size)).low HB5.out.1.size, below_cell (bstep HB5.out.1 hB6) _ (by omega) _ _⟩
          clear hfa hfb a0 a1 z0
          have xr := (XR.out.up (bstep HB5.out.2 hB6))
          have cf := xr.set (.slice pa na ca) (.slice pb nb cb)
          obtain ⟨r0, r1, r2, r3⟩ := xr
          obtain ⟨y0, y1, _, _⟩ := cf
          go_wp2
          exact bodyPost_ret (v := .tuple #[.agg #[.slice pa na ca, .slice pb nb cb], .int .i64 0]) (by simp [results, Try.results26, go_sem, y0, y1]) rfl ⟨_, rfl, HF.out⟩
      · rw [if_neg hN, if_neg (fun h => hN h.2), if_neg (fun h => hN h.2)]
        obtain ⟨N, eN⟩ : ∃ N, prodN (ntl d') = N := ⟨_, rfl⟩
        rw [eN] at cZ hN
        rw [HX.out.1] at hN
        have hN' : ((N : Int) != (n2 : Int)) = true := by simp; omega
        have hN2 : ¬ ((N : Int) = (n2 : Int)) := by omega
        clear eN h1 h2 h3 hd hd' hp hg hlen hN
        go_enter Try.func26, Try.ntmps26
        go_wp2_with fail
        generalize hW0 : World.alloc _ _ = W0
        have B0 : Below w.heap.size w W0 := by rw [← hW0]; go_grown
        have XA : Hid (Cel W0 w.heap.size (.slice p n c) (.slice p2 n2 c2)) := by show Cel _ _ _ _; unfold Cel; rw [← hW0]; simp [go_sem]
        have XR : Hid (Cel W0 (w.heap.size + 1) (.slice none 0 0) (.slice none 0 0)) := by show Cel _ _ _ _; unfold Cel; rw [← hW0]; simp [go_sem]
        have HB0 : Hid (Below w.heap.size w W0) := B0
        clear hW0 B0
        refine (cA W0 HB0.out).mono ?_
        rintro e w1 ⟨rfl, hB1⟩
        have HB1 : Hid (Below w.heap.size w w1 ∧ Below W0.heap.size W0 w1) := ⟨bstep HB0.out hB1, hB1⟩
        clear hB1
        go_wp2_with fail
        refine (cB w1 HB1.out.1).mono ?_
        rintro e w2 ⟨rfl, rfl⟩
        clear cB
        obtain ⟨a0, a1, _, _⟩ := XA.out.up HB1.out.2
        have cz : ∀ m, Calls Try.prog 53 #[.slice p3 n3 c3] (w2.drewN m) fun e w' => e = .returned (.int .i64 (N : Int)) ∧ w' = w2.drewN m := fun m => cZ _ (below_drew HB1.out.1 m)
        go_wp2_with fail
        go_quiet (exact Calls.quiet_of_same (cz _))
        clear cz a0 a1
        have xr := (XR.out.up (below_drew HB1.out.2 nq))
        have BF := below_cell (below_drew HB1.out.1 nq) (w.heap.size + 1) (by omega) (.slice none 0 0) (.slice none 0 0)
        have cf := xr.set (.slice none 0 0) (.slice none 0 0)
        obtain ⟨r0, r1, r2, r3⟩ := xr
        obtain ⟨y0, y1, _, _⟩ := cf
        go_wp2
        exact bodyPost_ret (v := .tuple #[.agg #[.slice none 0 0, .slice none 0 0], .int .i64 4]) (by simp [results, Try.results26, go_sem, y0, y1]) rfl ⟨_, rfl, TRes.none _ _, BF⟩
    · rw [decide_eq_false hg] at cB
      rw [if_neg (fun h => hg h.2), if_neg (fun h => hg h.1.2), if_neg (fun h => hg h.1.2)]
      clear h1 h2 h3 hd hd' hp hg cZ
      go_enter Try.func26, Try.ntmps26
      go_wp2_with fail
      generalize hW0 : World.alloc _ _ = W0
      have B0 : Below w.heap.size w W0 := by rw [← hW0]; go_grown
      have XA : Hid (Cel W0 w.heap.size (.slice p n c) (.slice p2 n2 c2)) := by show Cel _ _ _ _; unfold Cel; rw [← hW0]; simp [go_sem]
      have XR : Hid (Cel W0 (w.heap.size + 1) (.slice none 0 0) (.slice none 0 0)) := by show Cel _ _ _ _; unfold Cel; rw [← hW0]; simp [go_sem]
      have HB0 : Hid (Below w.heap.size w W0) := B0
      clear hW0 B0
      refine (cA W0 HB0.out).mono ?_
      rintro e w1 ⟨rfl, hB1⟩
      have HB1 : Hid (Below w.heap.size w w1 ∧ Below W0.heap.size W0 w1) := ⟨bstep HB0.out hB1, hB1⟩
      clear hB1
      go_wp2_with fail
      refine (cB w1 HB1.out.1).mono ?_
      rintro e w2 ⟨rfl, rfl⟩
      have xr := (XR.out.up HB1.out.2)
      have BF := below_cell (HB1.out.1) (w.heap.size + 1) (by omega) (.slice none 0 0) (.slice none 0 0)
      have cf := xr.set (.slice none 0 0) (.slice none 0 0)
      obtain ⟨r0, r1, r2, r3⟩ := xr
      obtain ⟨y0, y1, _, _⟩ := cf
      go_wp2
      exact bodyPost_ret (v := .tuple #[.agg #[.slice none 0 0, .slice none 0 0], .int .i64 1]) (by simp [results, Try.results26, go_sem, y0, y1]) rfl ⟨_, rfl, TRes.none _ _, BF⟩
  · rw [decide_eq_false hp] at cA
    rw [if_neg (fun h => hp h.1), if_neg (fun h => hp h.1.1), if_neg (fun h => hp h.1.1)]
    clear h1 h2 h3 hd hd' hp cZ cB
    go_enter Try.func26, Try.ntmps26
    go_wp2_with fail
    generalize hW0 : World.alloc _ _ = W0
    have B0 : Below w.heap.size w W0 := by rw [← hW0]; go_grown
    have XA : Hid (Cel W0 w.heap.size (.slice p n c) (.slice p2 n2 c2)) := by show Cel _ _ _ _; unfold Cel; rw [← hW0]; simp [go_sem]
    have XR : Hid (Cel W0 (w.heap.size + 1) (.slice none 0 0) (.slice none 0 0)) := by show Cel _ _ _ _; unfold Cel; rw [← hW0]; simp [go_sem]
    have HB0 : Hid (Below w.heap.size w W0) := B0
    clear hW0 B0
    refine (cA W0 HB0.out).mono ?_
    rintro e w1 ⟨rfl, hB1⟩
    have HB1 : Hid (Below w.heap.size w w1 ∧ Below W0.heap.size W0 w1) := ⟨bstep HB0.out hB1, hB1⟩
    clear hB1
    have xr := (XR.out.up HB1.out.2)
    have BF := below_cell (HB1.out.1) (w.heap.size + 1) (by omega) (.slice none 0 0) (.slice none 0 0)
    have cf := xr.set (.slice none 0 0) (.slice none 0 0)
    obtain ⟨r0, r1, r2, r3⟩ := xr
    obtain ⟨y0, y1, _, _⟩ := cf
    go_wp2
    exact bodyPost_ret (v := .tuple #[.agg #[.slice none 0 0, .slice none 0 0], .int .i64 1]) (by simp [results, Try.results26, go_sem, y0, y1]) rfl ⟨_, rfl, TRes.none _ _, BF⟩
end Go.Proofs.Ytbndiadgnglkhaa.Wd
