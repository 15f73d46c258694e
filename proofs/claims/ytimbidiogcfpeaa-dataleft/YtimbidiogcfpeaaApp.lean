/- append within a drawn region: behind an empty literal; one number behind a row of one's own, in place or anew. -/
import Derived.Test.YtimbidiogcfpeaaTenW
import Derived.Test.YtimbidiogcfpeaaSeg
import Derived.ArgAppend
namespace Go.Proofs.Ytimbidiogcfpeaa.Wd
open Go.RowKit
set_option linter.unusedVariables false
set_option linter.unusedSimpArgs false
/-- A literal's own block: just these cells. -/
def LitX (e : TypeId) (B : Nat) (l : List Int) (v : Value) (W : World) : Prop := ∃ g, v = .slice (some ⟨g, 0, none⟩) l.length l.length ∧ W.heap[g]? = some (.cells (vals .i64 l).toArray e (0, 0)) ∧ B ≤ g
theorem heap_in {W : World} {b : Nat} {o : Obj} (h : W.heap[b]? = some o) : b < W.heap.size := by
  rcases Nat.lt_or_ge b W.heap.size with h' | h'
  · exact h'
  · rw [Array.getElem?_eq_none h'] at h; cases h
theorem LitX.up {e : TypeId} {B : Nat} {l : List Int} {v : Value} {W W' : World} (h : LitX e B l v W) (hB : Below W.heap.size W W') : LitX e B l v W' := by
  obtain ⟨g, e1, h1, h2⟩ := h
  exact ⟨g, e1, by rw [hB.block g (heap_in h1)]; exact h1, h2⟩
theorem litX_new (e : TypeId) (B : Nat) (l : List Int) (W : World) (hB : B ≤ W.heap.size) : LitX e B l (.slice (some ⟨W.heap.size, 0, none⟩) l.length l.length) (W.alloc (.cells (vals .i64 l).toArray e)) :=
  ⟨_, rfl, by show (W.heap.push _)[W.heap.size]? = _; simp, hB⟩
theorem LitX.own {e : TypeId} {B : Nat} {l : List Int} {v : Value} {W : World} (h : LitX e B l v W) (hl : l.length ≤ 1073741824) : OwnK .i64 e W B v l := by
  obtain ⟨g, rfl, h1, h2⟩ := h
  refine ⟨by simp [vals], .inr ⟨g, l.length, _, rfl, h2, h1, Nat.le_refl _, by unfold maxLen; omega, by simp [vals], by rw [Nat.mul_one, List.take_of_length_le (by simp [vals])]⟩⟩
/-- A row of one's own of these numbers; where it has none, it is an empty literal. -/
def RowX (e : TypeId) (B : Nat) (l : List Int) (v : Value) (W : World) : Prop := OwnK .i64 e W B v l ∧ (l = [] → ∃ g, v = .slice (some ⟨g, 0, none⟩) 0 0)
theorem RowX.up {e : TypeId} {B : Nat} {l : List Int} {v : Value} {W W' : World} (h : RowX e B l v W) (hB : Below W.heap.size W W') : RowX e B l v W' := ⟨h.1.up hB, h.2⟩
/-- One block may have changed: of two cells or more, the first S of them as they were. -/
def Tq (e : TypeId) (S B : Nat) (W W' : World) : Prop := ∃ r, W.grownBy W' r ∧ ∀ g, r = some g → B ≤ g ∧ ∃ cs cs', W.heap[g]? = some (.cells cs e (0, 0)) ∧ W'.heap[g]? = some (.cells cs' e (0, 0)) ∧ 2 ≤ cs.size ∧ cs'.size = cs.size ∧ cs'.toList.take S = cs.toList.take S
theorem LitX.tq {e : TypeId} {B S B' : Nat} {l : List Int} {v : Value} {W W' : World} (h : LitX e B l v W) (hl : l.length < 2) (hT : Tq e S B' W W') : LitX e B l v W' := by
  obtain ⟨g, e1, h1, h2⟩ := h
  obtain ⟨r, hg, hr⟩ := hT
  refine ⟨g, e1, ?_, h2⟩
  by_cases c : r = some g
  · obtain ⟨_, cs, cs', c1, _, c3, _⟩ := hr g c
    rw [h1] at c1
    injection c1 with c1
    injection c1 with c1
    rw [← c1] at c3
    simp [vals] at c3
    omega
  · rw [hg.block g (heap_in h1) (fun x => c x.symm)]
    exact h1
theorem RowX.tq {e : TypeId} {B S B' : Nat} {l : List Int} {v : Value} {W W' : World} (h : RowX e B l v W) (hl : l.length = S) (hT : Tq e S B' W W') : RowX e B l v W' := by
  obtain ⟨r, hg, hr⟩ := hT
  refine ⟨⟨h.1.1, ?_⟩, h.2⟩
  rcases h.1.2 with h1 | ⟨g, cap, cur, h1, h2, h3, h4, h5, h6, h7⟩
  · exact .inl h1
  · by_cases c : r = some g
    · obtain ⟨_, cs, cs', c1, c2, _, c4, c5⟩ := hr g c
      rw [h3] at c1
      injection c1 with c1
      injection c1 with c1
      subst c1
      refine .inr ⟨g, cap, cs', h1, h2, c2, h4, h5, by rw [c4]; exact h6, ?_⟩
      rw [← h7, Nat.mul_one, hl]
      exact c5
    · refine .inr ⟨g, cap, cur, h1, h2, ?_, h4, h5, h6, h7⟩
      rw [hg.block g (heap_in h3) (fun x => c x.symm)]
      exact h3
theorem Tq.below {e : TypeId} {S : Nat} {w0 W W' : World} (hB : Below w0.heap.size w0 W) (h : Tq e S w0.heap.size W W') : Below w0.heap.size w0 W' := by
  obtain ⟨r, hg, hr⟩ := h
  exact Below.grown hB hg hB.size fun k hk => (hr k hk).1
/-- append([]T{}, v...). -/
theorem appX {P : Program} {t e : TypeId} {b : Nat} (T : NumT P t e .i64 b) (hb8 : b ≤ 8) (ty : TypeId) (W : World) (B : Nat) (u : Value) (h0 : LitX e B [] u W) (hB : B ≤ W.heap.size) (v : Value) (l : List Int) (hv : Nums .i64 W v l) (hl : l.length ≤ 1073741824) :
    ∃ v' w', (Builtin.append_ #[t, t] ty #[u, v]).run P W = .ok v' w' ∧ RowX e B l v' w' ∧ Below W.heap.size W w' := by
  have hO := h0.own (by simp)
  obtain ⟨g, rfl, h1, h2⟩ := h0
  have hO : OwnK .i64 e W B (.slice (some ⟨g, 0, none⟩) 0 0) [] := hO
  obtain ⟨i0, hi, hz0, hz1, hz2⟩ := info_of T
  rcases hv with ⟨rfl, rfl⟩ | ⟨ad, c, rfl, hc⟩
  · exact ⟨_, W, run_append_owned_none W B t ty e i0 1 T.ht hi _ _ _ hO, ⟨hO, fun _ => ⟨g, rfl⟩⟩, Below.refl _ _⟩
  · by_cases h : l = []
    · subst h
      refine ⟨.slice (some ⟨g, 0, none⟩) 0 0, W, ?_, ⟨hO, fun _ => ⟨g, rfl⟩⟩, Below.refl _ _⟩
      have hf := run_firstCells_some (P := P) W i0.size 0 ad 0 c [] (by simp) (fun j u hu => by simp at hu)
      simp [Builtin.append_, run_underlying T.ht, sizeOf, typeInfo, hi, Builtin.lenOf, hf, storeCells]
    · have hpos : 0 < l.length := by cases l with | nil => exact absurd rfl h | cons a l => simp
      have hm : (0 + l.length) * b ≤ 1073741824 * 8 := Nat.mul_le_mul (by omega) hb8
      obtain ⟨v', w', hr, ho, hgr⟩ := run_append_arg_grows (P := P) (w := W) t ty e i0 (.int .i64 0) 1 b T.ht hi hz0 hz1 hz2 rfl (by decide) ⟨g, 0, none⟩ 0 0 [] rfl (fun j u hu => by simp at hu) ad l.length c (vals .i64 l) (by simp [vals]) hc (by omega) (by unfold maxLen; omega) (by omega)
      refine ⟨v', w', hr, ⟨?_, fun c => absurd c h⟩, Below.grown (Below.refl _ _) hgr (Nat.le_refl _) (fun j hj => by cases hj)⟩
      rw [Nat.zero_add, List.nil_append] at ho
      exact OwnK.low (B := W.heap.size) ho hB
/-- append(u, x). -/
theorem app1 {P : Program} {t e : TypeId} {b : Nat} (T : NumT P t e .i64 b) (hb8 : b ≤ 8) (ty : TypeId) (W : World) (B : Nat) (u : Value) (l : List Int) (hu : RowX e B l u W) (hB : B ≤ W.heap.size) (v : Value) (X : Int) (hv : LitX e B [X] v W) (hl : l.length + 1 ≤ 1073741824) :
    ∃ v' w', (Builtin.append_ #[t, t] ty #[u, v]).run P W = .ok v' w' ∧ OwnK .i64 e w' B v' (l ++ [X]) ∧ Tq e l.length B W w' := by
  obtain ⟨i0, hi, hz0, hz1, hz2⟩ := info_of T
  have hvn := (hv.own (by simp)).nums
  obtain ⟨gv, rfl, hv1, hv2⟩ := hv
  have hc : ∀ j u, (vals .i64 [X])[j]? = some u → W.cell? ((⟨gv, 0, none⟩ : Addr).add j) = some u := by
    rcases hvn with ⟨h1, _⟩ | ⟨ad', c', e1, hc⟩
    · cases h1
    · cases e1
      exact hc
  have hm : (l.length + 1) * b ≤ 1073741824 * 8 := Nat.mul_le_mul hl hb8
  have hown := hu.1
  rcases hu.1.2 with ⟨h1, h0⟩ | ⟨g, cap, cur, h1, h2, h3, h4, h5, h6, h7⟩
  · obtain ⟨g, hg⟩ := hu.2 (List.eq_nil_of_length_eq_zero h0)
    rw [h1] at hg
    cases hg
  · subst h1
    by_cases hroom : l.length + 1 ≤ cap
    · obtain ⟨w', hr, ho, hg⟩ := run_append_fits (P := P) (w := W) B t ty e i0 1 T.ht hi hz1 g l.length cap (vals .i64 l) hown ⟨gv, 0, none⟩ 1 1 (vals .i64 [X]) (by simp [vals]) hc (vals_one .i64 [X]) hroom
      have hne : l ≠ [] := fun c => by
        obtain ⟨g', hg'⟩ := hu.2 c
        injection hg' with _ _ e3
        omega
      have hpos : 0 < l.length := by cases l with | nil => exact absurd rfl hne | cons a l => simp
      refine ⟨_, w', hr, ?_, some g, hg, fun q hq => ?_⟩
      · unfold OwnK vals at *
        simpa using ho
      · cases hq
        refine ⟨h2, ?_⟩
        rcases ho.2 with ⟨c, _⟩ | ⟨g2, cap2, cur2, k1, k2, k3, k4, k5, k6, k7⟩
        · cases c
        · injection k1 with e1 e2 e3
          injection e1 with e1
          injection e1 with e1
          subst e1 e3
          refine ⟨cur, cur2, h3, k3, by rw [h6]; omega, by rw [k6, h6], ?_⟩
          have e4 := congrArg (List.take l.length) k7
          rw [List.take_take, Nat.min_eq_left (by omega)] at e4
          rw [Nat.mul_one] at h7
          rw [e4, h7]
          exact List.take_left' (by simp [vals])
    · obtain ⟨v', w', hr, ho, hgr⟩ := run_append_arg_grows (P := P) (w := W) t ty e i0 (.int .i64 0) 1 b T.ht hi hz0 hz1 hz2 rfl (by decide) ⟨g, 0, none⟩ l.length cap (vals .i64 l) (by simp [vals]) (World.ownsRow.cells hown rfl) ⟨gv, 0, none⟩ 1 1 (vals .i64 [X]) (by simp [vals]) hc (by omega) (by unfold maxLen; omega) (by omega)
      refine ⟨v', w', hr, ?_, none, hgr, fun q hq => by cases hq⟩
      have : OwnK .i64 e w' W.heap.size v' (l ++ [X]) := by
        unfold OwnK vals at *
        simpa using ho
      exact this.low hB
end Go.Proofs.Ytimbidiogcfpeaa.Wd
