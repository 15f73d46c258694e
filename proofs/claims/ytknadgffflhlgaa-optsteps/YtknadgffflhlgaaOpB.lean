/- What opt.New hands back; a step where all fits, and where it doesn't. -/
import Derived.Test.YtknadgffflhlgaaOpA
import Derived.Test.YtknadgffflhlgaaBut
namespace Go.Proofs.Ytknadgffflhlgaa.Wd
open Go.RowKit Fx
set_option linter.unusedVariables false
set_option linter.unusedSimpArgs false
set_option maxRecDepth 8000
set_option maxHeartbeats 8000000
/-- A state in memory. -/
def SRes (W : World) (v : Value) (P M : List Int) : Prop := ∃ p n c q m d, v = .agg #[.slice p n c, .slice q m d] ∧ OwnK .i64 27 W 0 (.slice p n c) P ∧ OwnK .i64 27 W 0 (.slice q m d) M
theorem SRes.up {W W' : World} {v : Value} {P M : List Int} (h : SRes W v P M) (hB : Below W.heap.size W W') : SRes W' v P M := by
  obtain ⟨p, n, c, q, m, d, e, h1, h2⟩ := h
  exact ⟨p, n, c, q, m, d, e, h1.up hB, h2.up hB⟩
theorem off_at {g b n c : Nat} (h : g ≠ b) : Off b (.slice (some ⟨g, 0, none⟩) n c) := by
  intro ad m d e
  cases e
  exact h
theorem new_any (p : Option Addr) (n c : Nat) (x : List Int) (hx : x.length = n) (hn : n ≤ 1048576) (w : World) (h1 : Nums .i64 w (.slice p n c) x) :
    Calls Try.prog 10 #[.slice p n c] w fun e w' => ∃ v, e = .returned v ∧ SRes w' v x (List.replicate n 0) ∧ Below w.heap.size w w' := by
  have HN : Hid (Nums .i64 w (.slice p n c) x ∧ x.length = n ∧ n ≤ 1048576) := ⟨h1, hx, hn⟩
  clear h1 hx hn
  go_enter Try.func10, Try.ntmps10
  go_wp2_with fail
  generalize hW0 : World.alloc _ _ = W0
  have HB0 := hidB (w := w) hW0 (by go_grown)
  have XR : Hid (Cel W0 w.heap.size (.slice none 0 0) (.slice none 0 0)) := celW hW0 (by simp [go_sem])
  clear hW0
  refine (ofsize_any n HN.out.2.2 W0).mono ?_
  rintro e w1 ⟨g, g', rfl, hB1, hne, ho, ho'⟩
  have B2 := up_alloc w1 (.cells #[.slice (some ⟨g, 0, none⟩) n n, .slice (some ⟨g', 0, none⟩) n n] 25)
  have kg := ho.size
  have kg' := ho'.size
  have kb := ho.block g rfl
  have kb' := ho'.block g' rfl
  have kr := cell_lt XR.out.1
  have HO : Hid (OwnK .i64 27 (w1.alloc (.cells #[.slice (some ⟨g, 0, none⟩) n n, .slice (some ⟨g', 0, none⟩) n n] 25)) W0.heap.size (.slice (some ⟨g, 0, none⟩) n n) (List.replicate n 0) ∧ Nums .i64 (w1.alloc (.cells #[.slice (some ⟨g, 0, none⟩) n n, .slice (some ⟨g', 0, none⟩) n n] 25)) (.slice p n c) x ∧ OwnK .i64 27 (w1.alloc (.cells #[.slice (some ⟨g, 0, none⟩) n n, .slice (some ⟨g', 0, none⟩) n n] 25)) 0 (.slice (some ⟨g', 0, none⟩) n n) (List.replicate n 0) ∧ Below w.heap.size w (w1.alloc (.cells #[.slice (some ⟨g, 0, none⟩) n n, .slice (some ⟨g', 0, none⟩) n n] 25)) ∧ Cel (w1.alloc (.cells #[.slice (some ⟨g, 0, none⟩) n n, .slice (some ⟨g', 0, none⟩) n n] 25)) w.heap.size (.slice none 0 0) (.slice none 0 0)) :=
    ⟨ho.up B2, HN.out.1.up (bstep HB0.out (bstep hB1 B2)), (ho'.up B2).low (Nat.zero_le _), bstep HB0.out (bstep hB1 B2), XR.out.up (bstep hB1 B2)⟩
  have HG : Hid (W0.heap.size ≤ g ∧ w.heap.size < W0.heap.size ∧ g ≠ g' ∧ W0.heap.size ≤ g' ∧ g < w1.heap.size ∧ g' < w1.heap.size) := ⟨kb, kr, hne, kb', kg, kg'⟩
  have HUF : Hid (∀ U, (OwnK .i64 27 U W0.heap.size (.slice (some ⟨g, 0, none⟩) n n) x ∧ Stay g (w1.alloc (.cells #[.slice (some ⟨g, 0, none⟩) n n, .slice (some ⟨g', 0, none⟩) n n] 25)) U ∧ ∀ B', B' ≤ g → Below B' (w1.alloc (.cells #[.slice (some ⟨g, 0, none⟩) n n, .slice (some ⟨g', 0, none⟩) n n] 25)) U) → Cel U w.heap.size (.slice none 0 0) (.slice none 0 0) ∧ Cel U w1.heap.size (.slice (some ⟨g, 0, none⟩) n n) (.slice (some ⟨g', 0, none⟩) n n) ∧ SRes (set2 U w.heap.size (.slice (some ⟨g, 0, none⟩) n n) (.slice (some ⟨g', 0, none⟩) n n)) (.agg #[(.slice (some ⟨g, 0, none⟩) n n), (.slice (some ⟨g', 0, none⟩) n n)]) x (List.replicate n 0) ∧ Below w.heap.size w (set2 U w.heap.size (.slice (some ⟨g, 0, none⟩) n n) (.slice (some ⟨g', 0, none⟩) n n))) := fun U HU => by
    have hg := HG.out
    have s2 := Stay.set2 (g := w.heap.size) U (.slice (some ⟨g, 0, none⟩) n n) (.slice (some ⟨g', 0, none⟩) n n)
    refine ⟨HO.out.2.2.2.2.stay HU.2.1 (by omega), Cel.stay (by unfold Cel; simp [go_sem]) HU.2.1 (by omega), ⟨_, _, _, _, _, _, rfl, (HU.1.stay s2 (off_at (by omega))).low (Nat.zero_le _), (HO.out.2.2.1.stay HU.2.1 (off_at (Ne.symm hg.2.2.1))).stay s2 (off_at (by omega))⟩, ?_⟩
    exact below_cell (HO.out.2.2.2.1.trans (HU.2.2 _ (by omega))) _ (Nat.le_refl _) _ _
  clear ho ho' B2 hne hB1 kg kg' kb kb' kr
  go_wp2_with (have hR := HO.out; refine wpList_copyK rfl (.tmp 8) (.tmp 9) 23 23 rfl 27 27 Try.underlying23 (by kernel_rfl) g n n p c rfl rfl W0.heap.size (List.replicate n 0) x HN.out.2.1 hR.1 hR.2.1 ?_; clear hR; intro U HU; have hx := HUF.out U HU.out; obtain ⟨hX, hT, hF⟩ := hx; have HF := hid2 hF.1 hF.2; clear hF; obtain ⟨a0, a1, _, _⟩ := hT; have cf := hX.set (.slice (some ⟨g, 0, none⟩) n n) (.slice (some ⟨g', 0, none⟩) n n); obtain ⟨r0, r1, r2, r3⟩ := hX; obtain ⟨y0, y1, _, _⟩ := cf)
  exact bodyPost_ret (v := .agg #[.slice (some ⟨g, 0, none⟩) n n, .slice (some ⟨g', 0, none⟩) n n]) (by simp [results, Try.results10, go_sem, y0, y1]) rfl ⟨_, rfl, HF.out⟩
end Go.Proofs.Ytknadgffflhlgaa.Wd
