/- The reference's Decode. -/
import Derived.Test.YthmpfdkbpdbhnaaFrR
namespace Go.Proofs.Ythmpfdkbpdbhnaa.Wd
open Go.RowKit
set_option linter.unusedVariables false
set_option linter.unusedSimpArgs false
set_option maxRecDepth 8000
set_option maxHeartbeats 4000000
def dN (l : List Int) (x : Int) : Int := if decP l then x else 0
def dB8 (l : List Int) : List Int := if decP l then uB l else []
def NewF (B : Nat) (v : Value) (W : World) : Prop := ∃ g, v = .pointer (some ⟨g, 0, none⟩) ∧ W.heap[g]? = some (.cells #[.int .i64 0, .int .i64 0, .int .i64 0, .int .u32 0, .int .u32 0, .slice none 0 0] 61 (0, 0)) ∧ B ≤ g
theorem NewF.up {B : Nat} {v : Value} {W W' : World} (h : NewF B v W) (hB : Below W.heap.size W W') : NewF B v W' := by
  obtain ⟨g, e, a, b⟩ := h
  exact ⟨g, e, (hB.block _ (heap_in8 a)).trans a, b⟩
theorem fr_put {W : World} {g : Nat} {τ : TypeId} (x0 x1 x2 x3 x4 x5 : Value) (h : W.heap[g]? = some (.cells #[.int .i64 0, .int .i64 0, .int .i64 0, .int .u32 0, .int .u32 0, .slice none 0 0] τ (0, 0))) :
    ((W.cell? ⟨g, 0, none⟩ = some (.int .i64 0) ∧ W.cell? ⟨g, 1, none⟩ = some (.int .i64 0) ∧ W.cell? ⟨g, 2, none⟩ = some (.int .i64 0) ∧ W.cell? ⟨g, 3, none⟩ = some (.int .u32 0) ∧ W.cell? ⟨g, 4, none⟩ = some (.int .u32 0) ∧ W.cell? ⟨g, 5, none⟩ = some (.slice none 0 0)) ∧ (W.frozen? ⟨g, 0, none⟩ = false ∧ W.frozen? ⟨g, 1, none⟩ = false ∧ W.frozen? ⟨g, 2, none⟩ = false ∧ W.frozen? ⟨g, 3, none⟩ = false ∧ W.frozen? ⟨g, 4, none⟩ = false ∧ W.frozen? ⟨g, 5, none⟩ = false)) ∧ ((((((W.setCell ⟨g, 0, none⟩ x0).setCell ⟨g, 1, none⟩ x1).setCell ⟨g, 2, none⟩ x2).setCell ⟨g, 3, none⟩ x3).setCell ⟨g, 4, none⟩ x4).setCell ⟨g, 5, none⟩ x5).cell? ⟨g, 0, none⟩ = some x0 ∧ ((((((W.setCell ⟨g, 0, none⟩ x0).setCell ⟨g, 1, none⟩ x1).setCell ⟨g, 2, none⟩ x2).setCell ⟨g, 3, none⟩ x3).setCell ⟨g, 4, none⟩ x4).setCell ⟨g, 5, none⟩ x5).cell? ⟨g, 1, none⟩ = some x1 ∧ ((((((W.setCell ⟨g, 0, none⟩ x0).setCell ⟨g, 1, none⟩ x1).setCell ⟨g, 2, none⟩ x2).setCell ⟨g, 3, none⟩ x3).setCell ⟨g, 4, none⟩ x4).setCell ⟨g, 5, none⟩ x5).cell? ⟨g, 2, none⟩ = some x2 ∧ ((((((W.setCell ⟨g, 0, none⟩ x0).setCell ⟨g, 1, none⟩ x1).setCell ⟨g, 2, none⟩ x2).setCell ⟨g, 3, none⟩ x3).setCell ⟨g, 4, none⟩ x4).setCell ⟨g, 5, none⟩ x5).cell? ⟨g, 3, none⟩ = some x3 ∧ ((((((W.setCell ⟨g, 0, none⟩ x0).setCell ⟨g, 1, none⟩ x1).setCell ⟨g, 2, none⟩ x2).setCell ⟨g, 3, none⟩ x3).setCell ⟨g, 4, none⟩ x4).setCell ⟨g, 5, none⟩ x5).cell? ⟨g, 4, none⟩ = some x4 ∧ ((((((W.setCell ⟨g, 0, none⟩ x0).setCell ⟨g, 1, none⟩ x1).setCell ⟨g, 2, none⟩ x2).setCell ⟨g, 3, none⟩ x3).setCell ⟨g, 4, none⟩ x4).setCell ⟨g, 5, none⟩ x5).cell? ⟨g, 5, none⟩ = some x5 := by
  have c : ∀ j u, (#[.int .i64 0, .int .i64 0, .int .i64 0, .int .u32 0, .int .u32 0, .slice none 0 0] : Array Value)[j]? = some u → W.cell? ⟨g, j, none⟩ = some u := fun j u hj => by
    unfold World.cell?
    rw [h]
    exact hj
  have fz : ∀ j, W.frozen? ⟨g, j, none⟩ = false := fun j => by
    unfold World.frozen?
    rw [h]
    simp
  have off : ∀ (W : World) (i j : Nat) (x : Value), j ≠ i → (W.setCell ⟨g, i, none⟩ x).cell? ⟨g, j, none⟩ = W.cell? ⟨g, j, none⟩ := fun W i j x hij => World.cell?_setCell_other _ _ _ _ (by simp; try omega)
  have same : ∀ (W : World) (p : Addr) (x v : Value), W.cell? p = some v → (W.setCell p x).cell? p = some x := fun W p x v h => World.cell?_setCell_same _ _ _ h
  refine ⟨⟨⟨c 0 _ rfl, c 1 _ rfl, c 2 _ rfl, c 3 _ rfl, c 4 _ rfl, c 5 _ rfl⟩, fz 0, fz 1, fz 2, fz 3, fz 4, fz 5⟩, ?_, ?_, ?_, ?_, ?_, ?_⟩
  · rw [off _ 5 0 _ (by decide), off _ 4 0 _ (by decide), off _ 3 0 _ (by decide), off _ 2 0 _ (by decide), off _ 1 0 _ (by decide)]
    refine same _ _ _ (.int .i64 0) ?_
    exact c 0 _ rfl
  · rw [off _ 5 1 _ (by decide), off _ 4 1 _ (by decide), off _ 3 1 _ (by decide), off _ 2 1 _ (by decide)]
    refine same _ _ _ (.int .i64 0) ?_
    rw [off _ 0 1 _ (by decide)]
    exact c 1 _ rfl
  · rw [off _ 5 2 _ (by decide), off _ 4 2 _ (by decide), off _ 3 2 _ (by decide)]
    refine same _ _ _ (.int .i64 0) ?_
    rw [off _ 1 2 _ (by decide), off _ 0 2 _ (by decide)]
    exact c 2 _ rfl
  · rw [off _ 5 3 _ (by decide), off _ 4 3 _ (by decide)]
    refine same _ _ _ (.int .u32 0) ?_
    rw [off _ 2 3 _ (by decide), off _ 1 3 _ (by decide), off _ 0 3 _ (by decide)]
    exact c 3 _ rfl
  · rw [off _ 5 4 _ (by decide)]
    refine same _ _ _ (.int .u32 0) ?_
    rw [off _ 3 4 _ (by decide), off _ 2 4 _ (by decide), off _ 1 4 _ (by decide), off _ 0 4 _ (by decide)]
    exact c 4 _ rfl
  · refine same _ _ _ (.slice none 0 0) ?_
    rw [off _ 4 5 _ (by decide), off _ 3 5 _ (by decide), off _ 2 5 _ (by decide), off _ 1 5 _ (by decide), off _ 0 5 _ (by decide)]
    exact c 5 _ rfl
/-- Bytes of one's own stand where a frame's box is written. -/
theorem own8_stay {W W' : World} {B g : Nat} {v : Value} {l : List Int} {cs : Array Value} {fz : Nat × Nat} {τ : TypeId} (h : Own8 W B v l) (hg : W.heap[g]? = some (.cells cs τ fz)) (hs : Stay g W W') (hτ : 5 ≠ τ := by decide) : Own8 W' B v l := by
  refine OwnK.stay (k := .u8) h hs fun ad n c e he => ?_
  rcases h.2 with ⟨e2, _⟩ | ⟨g2, cap, cur, e2, _, h3, _⟩
  · rw [e] at e2
    cases e2
  · rw [e] at e2
    cases e2
    rw [show g2 = g from he, hg] at h3
    injection h3 with h3
    injection h3 with _ h3
    exact absurd h3.symm hτ
theorem own8_sl {W : World} {B : Nat} {v : Value} {l : List Int} (h : Own8 W B v l) : ∃ a b d, v = .slice a b d := by
  rcases h.2 with ⟨e, _⟩ | ⟨g2, cap, cur, e, _⟩
  · exact ⟨_, _, _, e⟩
  · exact ⟨_, _, _, e⟩
theorem own8_form {W : World} {B : Nat} {v : Value} {l : List Int} (h : Own8 W B v l) : ∃ p c, v = .slice p l.length c ∧ l.length ≤ c := by
  rcases h.2 with ⟨e, h0⟩ | ⟨g2, cap, cur, e, _, _, h5, _⟩
  · exact ⟨none, 0, by rw [e, h0], by omega⟩
  · exact ⟨_, _, e, h5⟩
def FrV (k f t v s : Int) (vb : Value) : Value := .agg #[.int .i64 k, .int .i64 f, .int .i64 t, .int .u32 v, .int .u32 s, vb]
/-- A frame in the making. -/
def AggF (B : Nat) (k f t v s : Int) (l : List Int) (u : Value) (W : World) : Prop := ∃ a b d, u = FrV k f t v s (.slice a b d) ∧ Own8 W B (.slice a b d) l
theorem AggF.up {B : Nat} {k f t v s : Int} {l : List Int} {u : Value} {W W' : World} (h : AggF B k f t v s l u W) (hB : Below W.heap.size W W') : AggF B k f t v s l u W' := by
  obtain ⟨a, b, d, e, r⟩ := h
  exact ⟨a, b, d, e, r.up hB⟩
/-- A frame that was read, or none. -/
def FrD (l : List Int) (vb : Value) : Value := FrV (dN l (uK l)) (dN l (uF l)) (dN l (uT l)) (dN l (uV l)) (dN l (uS l)) vb
theorem rfdec_any (p : Option Addr) (n c : Nat) (l : List Int) (hl : By8 l) (hn : l.length = n) (hn2 : n ≤ 1073741000) (hnc : n ≤ c) (w : World) (hB : Bytes w (.slice p n c) l) :
    Calls Try.prog 30 #[.slice p n c] w fun e w' => ∃ vb, e = .returned (.tuple #[FrD l vb, .bool (decide (decP l))]) ∧ Own8 w' w.heap.size vb (dB8 l) ∧ Below w.heap.size w w' := by
  haveI : Nonempty World := ⟨w⟩
  have HN : Hid (By8 l ∧ l.length = n ∧ n ≤ 1073741000 ∧ Bytes w (.slice p n c) l) := ⟨hl, hn, hn2, hB⟩
  by_cases h19 : 19 ≤ n
  case neg =>
    have hd : ¬ decP l := fun h => h19 (by rw [← hn]; exact h.1)
    have h19' : (n : Int) < 19 := by omega
    have HR : Hid (decide (decP l) = false ∧ dB8 l = [] ∧ ∀ vb, FrD l vb = FrV 0 0 0 0 0 vb) := ⟨decide_eq_false hd, if_neg hd, fun vb => by unfold FrD dN; simp only [if_neg hd]⟩
    rw [HR.out.1, HR.out.2.1]
    clear hB hd h19
    go_enter Try.func30, Try.ntmps30
    go_wp2
    exact bodyPost_ret (v := .tuple #[FrV 0 0 0 0 0 (.slice none 0 0), .bool false]) (by unfold FrV; simp [results, Try.results30, go_sem]) rfl ⟨.slice none 0 0, by rw [HR.out.2.2], ⟨rfl, .inl ⟨rfl, rfl⟩⟩, up_alloc _ _⟩
  obtain ⟨p', c', e', hc⟩ := hB.viewN
  rw [hn] at e'
  cases e'
  obtain ⟨q, o, rfl, b2⟩ := hc 2 (by omega)
  have b3 : w.cell? ⟨q, o + 3, none⟩ = some (.int .u8 (l.getD 3 0)) := by
    obtain ⟨_, _, e', h⟩ := hc 3 (by omega)
    cases e'
    exact h
  have b4 : w.cell? ⟨q, o + 4, none⟩ = some (.int .u8 (l.getD 4 0)) := by
    obtain ⟨_, _, e', h⟩ := hc 4 (by omega)
    cases e'
    exact h
  obtain ⟨rV, rS, rB, rK, rF, rT⟩ := u_rng hl (by omega)
  obtain ⟨K, eK⟩ : ∃ x, uK l = x := ⟨_, rfl⟩
  obtain ⟨F, eF⟩ : ∃ x, uF l = x := ⟨_, rfl⟩
  obtain ⟨T, eT⟩ : ∃ x, uT l = x := ⟨_, rfl⟩
  obtain ⟨V, eV⟩ : ∃ x, uV l = x := ⟨_, rfl⟩
  obtain ⟨S, eS⟩ : ∃ x, uS l = x := ⟨_, rfl⟩
  rw [show l.getD 2 0 = K from eK] at b2
  rw [show l.getD 3 0 = F from eF] at b3
  rw [show l.getD 4 0 = T from eT] at b4
  rw [eK] at rK
  rw [eF] at rF
  rw [eT] at rT
  rw [eV] at rV
  rw [eS] at rS
  have hBl := uB_len (l := l) (by omega)
  obtain ⟨L, eL⟩ : ∃ x, uB l = x := ⟨_, rfl⟩
  rw [eL] at hBl rB
  have HU : Hid (uK l = K ∧ uF l = F ∧ uT l = T ∧ uV l = V ∧ uS l = S ∧ uB l = L ∧ By8 L ∧ L.length ≤ 1073741000 ∧ (0 ≤ V ∧ V < 4294967296) ∧ (0 ≤ S ∧ S < 4294967296)) := ⟨eK, eF, eT, eV, eS, eL, rB, by omega, rV, rS⟩
  have cA : Hid (∀ W, Below w.heap.size w W → Calls Try.prog 31 #[.slice (some ⟨q, o, none⟩) n c, .int .i64 5, .int .i64 4] W fun e w' => e = .returned (.int .u64 V) ∧ w' = W) := fun W hW => by
    have := at_any (some ⟨q, o, none⟩) c n 5 4 l hn (by omega) (by omega) (by omega) hl W (hB.up hW)
    rw [show num ((l.drop 5).take 4) = V from eV] at this
    exact this
  have cB : Hid (∀ W, Below w.heap.size w W → Calls Try.prog 31 #[.slice (some ⟨q, o, none⟩) n c, .int .i64 9, .int .i64 4] W fun e w' => e = .returned (.int .u64 S) ∧ w' = W) := fun W hW => by
    have := at_any (some ⟨q, o, none⟩) c n 9 4 l hn (by omega) (by omega) (by omega) hl W (hB.up hW)
    rw [show num ((l.drop 9).take 4) = S from eS] at this
    exact this
  obtain ⟨pz, nz, cz, ez⟩ : ∃ a b d, sliced (some ⟨q, o, none⟩) 15 (n - 4) c 1 = .slice a b d := ⟨_, _, _, rfl⟩
  have hrZ : ∀ W, Sem.run Try.prog (Instr.slice 31 (.slice (some ⟨q, o, none⟩) n c) (some (.int .i64 15)) (some (.int .i64 ((n : Int) - 4))) none) W = .ok (.slice pz nz cz) W := fun W => by
    have := cut_run (some ⟨q, o, none⟩) n c 15 (n - 4) (by omega) (by omega) W
    rw [ez, show ((n - 4 : Nat) : Int) = (n : Int) - 4 by omega] at this
    exact this
  have HZ : Hid (Bytes w (.slice pz nz cz) L) := by
    have := cut_bytes (p := some ⟨q, o, none⟩) (n := n) (cap := c) (at_ := 15) (a2 := n - 4) (l := l) (by omega) (by omega) hn hnc hB
    rw [ez, show n - 4 - 15 = n - 19 by omega] at this
    rw [← eL]
    unfold uB
    rw [hn]
    exact this
  have hV : V % 4294967296 = V := by omega
  have hS : S % 4294967296 = S := by omega
  have h2' : (2 : Int) < (n : Int) := by omega
  have h3' : (3 : Int) < (n : Int) := by omega
  have h4' : (4 : Int) < (n : Int) := by omega
  have h19' : ¬ (n : Int) < 19 := by omega
  have kq := cell_lt b2
  clear hB hc ez eK eF eT eV eS eL hBl rB
  go_enter Try.func30, Try.ntmps30
  go_wp2_with fail
  generalize hW0 : World.alloc _ _ = W0
  have H0 : Hid (Below w.heap.size w W0 ∧ W0.heap[w.heap.size]? = some (.cells #[.int .i64 0, .int .i64 0, .int .i64 0, .int .u32 0, .int .u32 0, .slice none 0 0] 61 (0, 0))) := by
    rw [← hW0]
    exact ⟨up_alloc _ _, by show (w.heap.push _)[w.heap.size]? = _; simp⟩
  replace b2 := still_cell H0.out.1 b2
  replace b3 := still_cell H0.out.1 b3
  replace b4 := still_cell H0.out.1 b4
  replace kq := cell_lt b2
  clear hW0
  refine rel [⟨18, 27, Lit8 W0.heap.size⟩, ⟨24, 33, OwnR W0.heap.size L⟩, ⟨25, 34, AggF W0.heap.size K F T V S L⟩, ⟨26, 4, NewF W0.heap.size⟩] 27 43 (by kernel_rfl) rfl rfl (by kernel_rfl) (by rfl) ?_ ?_
  · intro e he v W W' h hb
    simp only [List.mem_cons, List.not_mem_nil, or_false] at he
    rcases he with rfl | rfl | rfl | rfl
    · exact Lit8.up h hb
    · exact OwnR.up h hb
    · exact AggF.up h hb
    · exact NewF.up h hb
  apply Exists.intro
  refine ⟨fun x => ?_, ?_, ?_⟩
  · simp only [List.take_succ_cons, List.take_zero]
    refine relQuiet rfl rfl ?_
    apply Exists.intro
    refine ⟨fun F_ hF hf K_ hK => ?_, ?_⟩
    · have hFc := hF.cell
      have hFf := hF.frozen
      go_big_quiet_op
      first | exact hK | (apply Exists.intro; refine ⟨fun _ => ?_, ?_⟩; (· fail); exact hK)
    (try simp only [Act.put, List.setIfInBounds_toArray, List.set_cons_zero, List.set_cons_succ])
    refine relQuiet rfl rfl ?_
    apply Exists.intro
    refine ⟨fun F_ hF hf K_ hK => ?_, ?_⟩
    · have hFc := hF.cell
      have hFf := hF.frozen
      go_big_quiet_op
      first | exact hK | (apply Exists.intro; refine ⟨fun _ => ?_, ?_⟩; (· fail); exact hK)
    (try simp only [Act.put, List.setIfInBounds_toArray, List.set_cons_zero, List.set_cons_succ])
    refine relQuiet rfl rfl ?_
    apply Exists.intro
    refine ⟨fun F_ hF hf K_ hK => ?_, ?_⟩
    · have hFc := hF.cell
      have hFf := hF.frozen
      go_big_quiet_op
      first | exact hK | (apply Exists.intro; refine ⟨fun _ => ?_, ?_⟩; (· fail); exact hK)
    (try simp only [Act.put, List.setIfInBounds_toArray, List.set_cons_zero, List.set_cons_succ])
    refine relQuiet rfl rfl ?_
    apply Exists.intro
    refine ⟨fun F_ hF hf K_ hK => ?_, ?_⟩
    · have hFc := hF.cell
      have hFf := hF.frozen
      go_big_quiet_op
      first | exact hK | (apply Exists.intro; refine ⟨fun _ => ?_, ?_⟩; (· fail); exact hK)
    (try simp only [Act.put, List.setIfInBounds_toArray, List.set_cons_zero, List.set_cons_succ])
    refine relQuiet rfl rfl ?_
    apply Exists.intro
    refine ⟨fun F_ hF hf K_ hK => ?_, ?_⟩
    · have hFc := hF.cell
      have hFf := hF.frozen
      go_big_quiet_op
      first | exact hK | (apply Exists.intro; refine ⟨fun _ => ?_, ?_⟩; (· fail); exact hK)
    (try simp only [Act.put, List.setIfInBounds_toArray, List.set_cons_zero, List.set_cons_succ])
    refine relQuiet rfl rfl ?_
    apply Exists.intro
    refine ⟨fun F_ hF hf K_ hK => ?_, ?_⟩
    · have hFc := hF.cell
      have hFf := hF.frozen
      go_big_quiet_op
      first | exact hK | (apply Exists.intro; refine ⟨fun _ => ?_, ?_⟩; (· fail); exact hK)
    (try simp only [Act.put, List.setIfInBounds_toArray, List.set_cons_zero, List.set_cons_succ])
    refine relQuiet rfl rfl ?_
    apply Exists.intro
    refine ⟨fun F_ hF hf K_ hK => ?_, ?_⟩
    · have hFc := hF.cell
      have hFf := hF.frozen
      go_big_quiet_op
      first | exact hK | (apply Exists.intro; refine ⟨fun _ => ?_, ?_⟩; (· fail); exact hK)
    (try simp only [Act.put, List.setIfInBounds_toArray, List.set_cons_zero, List.set_cons_succ])
    refine relQuiet rfl rfl ?_
    apply Exists.intro
    refine ⟨fun F_ hF hf K_ hK => ?_, ?_⟩
    · have hFc := hF.cell
      have hFf := hF.frozen
      go_big_quiet_op
      first | exact hK | (apply Exists.intro; refine ⟨fun _ => ?_, ?_⟩; (· fail); exact hK)
    (try simp only [Act.put, List.setIfInBounds_toArray, List.set_cons_zero, List.set_cons_succ])
    refine relQuiet rfl rfl ?_
    apply Exists.intro
    refine ⟨fun F_ hF hf K_ hK => ?_, ?_⟩
    · have hFc := hF.cell
      have hFf := hF.frozen
      go_big_quiet_op
      first | exact hK | (apply Exists.intro; refine ⟨fun _ => ?_, ?_⟩; (· fail); exact hK)
    (try simp only [Act.put, List.setIfInBounds_toArray, List.set_cons_zero, List.set_cons_succ])
    refine relQuiet rfl rfl ?_
    apply Exists.intro
    refine ⟨fun F_ hF hf K_ hK => ?_, ?_⟩
    · have hFc := hF.cell
      have hFf := hF.frozen
      go_big_quiet_op
      first | exact hK | (apply Exists.intro; refine ⟨fun _ => ?_, ?_⟩; (· fail); exact hK)
    (try simp only [Act.put, List.setIfInBounds_toArray, List.set_cons_zero, List.set_cons_succ])
    refine relQuiet rfl rfl ?_
    apply Exists.intro
    refine ⟨fun F_ hF hf K_ hK => ?_, ?_⟩
    · have hFc := hF.cell
      have hFf := hF.frozen
      go_big_quiet_op
      first | exact hK | (apply Exists.intro; refine ⟨fun _ => ?_, ?_⟩; (· fail); exact hK)
    (try simp only [Act.put, List.setIfInBounds_toArray, List.set_cons_zero, List.set_cons_succ])
    refine relQuiet rfl rfl ?_
    apply Exists.intro
    refine ⟨fun F_ hF hf K_ hK => ?_, ?_⟩
    · have hFc := hF.cell
      have hFf := hF.frozen
      go_big_quiet_op
      first | exact hK | (apply Exists.intro; refine ⟨fun _ => ?_, ?_⟩; (· fail); exact hK)
    (try simp only [Act.put, List.setIfInBounds_toArray, List.set_cons_zero, List.set_cons_succ])
    refine relQuiet rfl rfl ?_
    apply Exists.intro
    refine ⟨fun F_ hF hf K_ hK => ?_, ?_⟩
    · have hFc := hF.cell
      have hFf := hF.frozen
      go_big_quiet_op
      first | exact hK | (apply Exists.intro; refine ⟨fun _ => ?_, ?_⟩; (· fail); exact hK)
    (try simp only [Act.put, List.setIfInBounds_toArray, List.set_cons_zero, List.set_cons_succ])
    refine relQuiet rfl rfl ?_
    apply Exists.intro
    refine ⟨fun F_ hF hf K_ hK => ?_, ?_⟩
    · have hFc := hF.cell
      have hFf := hF.frozen
      go_big_quiet_op
      first | exact hK | (apply Exists.intro; refine ⟨fun _ => ?_, ?_⟩; (· exact hF.same (cA.out _ (bstep H0.out.1 (hF.below _)))); exact hK)
    (try simp only [Act.put, List.setIfInBounds_toArray, List.set_cons_zero, List.set_cons_succ])
    refine relQuiet rfl rfl ?_
    apply Exists.intro
    refine ⟨fun F_ hF hf K_ hK => ?_, ?_⟩
    · have hFc := hF.cell
      have hFf := hF.frozen
      go_big_quiet_op
      first | exact hK | (apply Exists.intro; refine ⟨fun _ => ?_, ?_⟩; (· fail); exact hK)
    (try simp only [Act.put, List.setIfInBounds_toArray, List.set_cons_zero, List.set_cons_succ])
    refine relQuiet rfl rfl ?_
    apply Exists.intro
    refine ⟨fun F_ hF hf K_ hK => ?_, ?_⟩
    · have hFc := hF.cell
      have hFf := hF.frozen
      go_big_quiet_op
      first | exact hK | (apply Exists.intro; refine ⟨fun _ => ?_, ?_⟩; (· fail); exact hK)
    (try simp only [Act.put, List.setIfInBounds_toArray, List.set_cons_zero, List.set_cons_succ])
    refine relQuiet rfl rfl ?_
    apply Exists.intro
    refine ⟨fun F_ hF hf K_ hK => ?_, ?_⟩
    · have hFc := hF.cell
      have hFf := hF.frozen
      go_big_quiet_op
      first | exact hK | (apply Exists.intro; refine ⟨fun _ => ?_, ?_⟩; (· exact hF.same (cB.out _ (bstep H0.out.1 (hF.below _)))); exact hK)
    (try simp only [Act.put, List.setIfInBounds_toArray, List.set_cons_zero, List.set_cons_succ])
    refine relQuiet rfl rfl ?_
    apply Exists.intro
    refine ⟨fun F_ hF hf K_ hK => ?_, ?_⟩
    · have hFc := hF.cell
      have hFf := hF.frozen
      go_big_quiet_op
      first | exact hK | (apply Exists.intro; refine ⟨fun _ => ?_, ?_⟩; (· fail); exact hK)
    (try simp only [Act.put, List.setIfInBounds_toArray, List.set_cons_zero, List.set_cons_succ])
    refine relTold rfl rfl ?_ ?_
    · intro F_ hF hf d
      have hFc := hF.cell
      have hFf := hF.frozen
      simp [yieldsR, yieldsUpon, go_sem]
      exact ⟨lit8_new _ (F_ d) (hF.below d).size, up_alloc _ _⟩
    (try simp only [Act.put, List.setIfInBounds_toArray, List.set_cons_zero, List.set_cons_succ])
    refine relQuiet rfl rfl ?_
    apply Exists.intro
    refine ⟨fun F_ hF hf K_ hK => ?_, ?_⟩
    · have hFc := hF.cell
      have hFf := hF.frozen
      go_big_quiet_op
      first | exact hK | (apply Exists.intro; refine ⟨fun _ => ?_, ?_⟩; (· fail); exact hK)
    (try simp only [Act.put, List.setIfInBounds_toArray, List.set_cons_zero, List.set_cons_succ])
    refine relQuiet rfl rfl ?_
    apply Exists.intro
    refine ⟨fun F_ hF hf K_ hK => ?_, ?_⟩
    · have hFc := hF.cell
      have hFf := hF.frozen
      go_big_quiet_op
      first | exact hK | (apply Exists.intro; refine ⟨fun _ => ?_, ?_⟩; (· fail); exact hK)
    (try simp only [Act.put, List.setIfInBounds_toArray, List.set_cons_zero, List.set_cons_succ])
    refine relQuiet rfl rfl ?_
    apply Exists.intro
    refine ⟨fun F_ hF hf K_ hK => ?_, ?_⟩
    · have hFc := hF.cell
      have hFf := hF.frozen
      go_big_quiet_op
      first | exact hK | (apply Exists.intro; refine ⟨fun _ => ?_, ?_⟩; (· fail); exact hK)
    (try simp only [Act.put, List.setIfInBounds_toArray, List.set_cons_zero, List.set_cons_succ])
    refine relQuiet rfl rfl ?_
    apply Exists.intro
    refine ⟨fun F_ hF hf K_ hK => ?_, ?_⟩
    · have hFc := hF.cell
      have hFf := hF.frozen
      go_big_quiet_op
      first | exact hK | (apply Exists.intro; refine ⟨fun _ => ?_, ?_⟩; (· fail); exact hK)
    (try simp only [Act.put, List.setIfInBounds_toArray, List.set_cons_zero, List.set_cons_succ])
    refine relQuiet rfl rfl ?_
    apply Exists.intro
    refine ⟨fun F_ hF hf K_ hK => ?_, ?_⟩
    · have hFc := hF.cell
      have hFf := hF.frozen
      go_big_quiet_op
      first | exact hK | (apply Exists.intro; refine ⟨fun _ => ?_, ?_⟩; (· fail); exact hK)
    (try simp only [Act.put, List.setIfInBounds_toArray, List.set_cons_zero, List.set_cons_succ])
    refine relTold rfl rfl ?_ ?_
    · intro F_ hF hf d
      have hFc := hF.cell
      have hFf := hF.frozen
      have h9 := hf _ List.mem_cons_self (by rfl) d
      obtain ⟨v8, w8, hr8, ho8, hb8⟩ := app8 (F_ d) W0.heap.size _ h9 (hF.below d).size _ L (HZ.out.up (bstep H0.out.1 (hF.below d))) (by have := HU.out; omega)
      simp [yieldsR, yieldsUpon, execOp, resolve, invoke, builtin, Act.eval, hr8, Result.andThen]
      exact ⟨ho8, hb8⟩
    (try simp only [Act.put, List.setIfInBounds_toArray, List.set_cons_zero, List.set_cons_succ])
    refine relTold rfl rfl ?_ ?_
    · intro F_ hF hf d
      have hFc := hF.cell
      have hFf := hF.frozen
      have h9 := hf _ (List.mem_cons_of_mem _ List.mem_cons_self) (by rfl) d
      obtain ⟨ya, yb, yc, e9⟩ := own8_sl h9
      simp only [] at e9 h9
      rw [e9] at h9
      simp [yieldsR, yieldsUpon, go_sem, e9]
      exact ⟨⟨ya, yb, yc, rfl, h9⟩, Below.refl _ _⟩
    (try simp only [Act.put, List.setIfInBounds_toArray, List.set_cons_zero, List.set_cons_succ])
    refine relTold rfl rfl ?_ ?_
    · intro F_ hF hf d
      have hFc := hF.cell
      have hFf := hF.frozen
      simp [yieldsR, yieldsUpon, go_sem]
      exact ⟨⟨(F_ d).heap.size, rfl, by show ((F_ d).heap.push _)[(F_ d).heap.size]? = _; simp, (hF.below d).size⟩, up_alloc _ _⟩
    (try simp only [Act.put, List.setIfInBounds_toArray, List.set_cons_zero, List.set_cons_succ])
    refine relEnd ?_
    exact rfl
  · intro x
    simp only [putsK, List.foldl_cons, List.foldl_nil, Act.put, List.setIfInBounds_toArray, List.set_cons_zero, List.set_cons_succ]
  · intro z1 xs hBz hf
    simp only [List.drop_succ_cons, List.drop_zero]
    obtain ⟨pr, nr, cr, ea, h24⟩ := hf _ (List.mem_cons_of_mem _ (List.mem_cons_of_mem _ List.mem_cons_self))
    obtain ⟨g, eb, hb1, hb2⟩ := hf _ (List.mem_cons_of_mem _ (List.mem_cons_of_mem _ (List.mem_cons_of_mem _ List.mem_cons_self)))
    obtain ⟨y18, ey18⟩ : ∃ q, xs 18 = q := ⟨_, rfl⟩
    obtain ⟨y24, ey24⟩ : ∃ q, xs 24 = q := ⟨_, rfl⟩
    simp only [] at eb ea
    unfold FrV at ea
    simp only [ey18, ey24, eb, ea]
    clear hf ey18 ey24 eb ea
    have HP := fr_put (.int .i64 K) (.int .i64 F) (.int .i64 T) (.int .u32 V) (.int .u32 S) (.slice pr nr cr) hb1
    obtain ⟨⟨⟨y0, y1, y2, y3, y4, y5⟩, f0, f1, f2, f3, f4, f5⟩, u0, u1, u2, u3, u4, u5⟩ := HP
    have kz := cell_lt y0
    have hU : Below W0.heap.size W0 ((((((z1.setCell ⟨g, 0, none⟩ (.int .i64 K)).setCell ⟨g, 1, none⟩ (.int .i64 F)).setCell ⟨g, 2, none⟩ (.int .i64 T)).setCell ⟨g, 3, none⟩ (.int .u32 V)).setCell ⟨g, 4, none⟩ (.int .u32 S)).setCell ⟨g, 5, none⟩ (.slice pr nr cr)) := ((((((hBz.setCell (p := ⟨g, 0, none⟩) hb2 _).setCell (p := ⟨g, 1, none⟩) hb2 _).setCell (p := ⟨g, 2, none⟩) hb2 _).setCell (p := ⟨g, 3, none⟩) hb2 _).setCell (p := ⟨g, 4, none⟩) hb2 _).setCell (p := ⟨g, 5, none⟩) hb2 _)
    have hO : Own8 ((((((z1.setCell ⟨g, 0, none⟩ (.int .i64 K)).setCell ⟨g, 1, none⟩ (.int .i64 F)).setCell ⟨g, 2, none⟩ (.int .i64 T)).setCell ⟨g, 3, none⟩ (.int .u32 V)).setCell ⟨g, 4, none⟩ (.int .u32 S)).setCell ⟨g, 5, none⟩ (.slice pr nr cr)) W0.heap.size (.slice pr nr cr) L := own8_stay h24 hb1 ((((((Stay.refl _ _).set _ _).set _ _).set _ _).set _ _).set _ _ |>.set _ _)
    obtain ⟨U1, eU⟩ : ∃ U, ((((((z1.setCell ⟨g, 0, none⟩ (.int .i64 K)).setCell ⟨g, 1, none⟩ (.int .i64 F)).setCell ⟨g, 2, none⟩ (.int .i64 T)).setCell ⟨g, 3, none⟩ (.int .u32 V)).setCell ⟨g, 4, none⟩ (.int .u32 S)).setCell ⟨g, 5, none⟩ (.slice pr nr cr)) = U := ⟨_, rfl⟩
    rw [eU] at hU hO u0 u1 u2 u3 u4 u5
    have H1 : Hid (Below w.heap.size w U1 ∧ Own8 U1 W0.heap.size (.slice pr nr cr) L ∧ U1.heap[w.heap.size]? = some (.cells #[.int .i64 0, .int .i64 0, .int .i64 0, .int .u32 0, .int .u32 0, .slice none 0 0] 61 (0, 0)) ∧ Below W0.heap.size W0 U1) := ⟨bstep H0.out.1 hU, hO, (hU.block _ (heap_in8 H0.out.2)).trans H0.out.2, hU⟩
    clear hU hO h24 hb1 hb2 hBz b2 b3 b4 kq cA cB hrZ h2' h3' h4'
    go_wp2_with fail
    (try rw [eU])
    clear eU y0 y1 y2 y3 y4 y5 f0 f1 f2 f3 f4 f5 kz
    have kz := cell_lt u0
    obtain ⟨E, eE⟩ : ∃ x, encF K F T V S L = x := ⟨_, rfl⟩
    have HE : Hid (encF K F T V S L = E ∧ By8 E) := ⟨eE, by rw [← eE]; exact encF_by HU.out.2.2.2.2.2.2.1⟩
    have cE : Hid (∀ W, Below U1.heap.size U1 W → Calls Try.prog 37 #[.agg #[.int .i64 K, .int .i64 F, .int .i64 T, .int .u32 V, .int .u32 S, .slice pr nr cr]] W fun e w' => ∃ v', e = .returned v' ∧ Own8 w' W.heap.size v' E ∧ Below W.heap.size W w') := fun W hW => by
      have := rfenc_any K F T V S pr nr cr L HU.out.2.2.2.2.2.2.2.2.1 HU.out.2.2.2.2.2.2.2.2.2 HU.out.2.2.2.2.2.2.1 W ((Own8.bytes H1.out.2.1).up hW) (by have := (Own8.bytes H1.out.2.1).view; obtain ⟨_, _, e, _⟩ := this; cases e; rfl)
      rw [eE] at this
      exact this
    have HL : Hid (Bytes U1 (.slice (some ⟨q, o, none⟩) n c) l) := HN.out.2.2.2.up H1.out.1
    have hqE : ((str E).toList == (str l).toList) = decide (E = l) := str_eq HE.out.2 HN.out.1
    obtain ⟨r, er⟩ : ∃ r, decide (E = l) = r := ⟨_, rfl⟩
    rw [er] at hqE
    have HR : Hid (decide (decP l) = r) := by
      show _ = _
      rw [← er, ← eE]
      refine decide_eq_decide.2 ?_
      obtain ⟨a1, a2, a3, a4, a5, a6, _⟩ := HU.out
      unfold decP
      rw [a1, a2, a3, a4, a5, a6, HN.out.2.1]
      exact ⟨fun h => h.2, fun h => ⟨h19, h⟩⟩
    clear eE er
    refine rel [⟨1, 36, OwnR U1.heap.size E⟩] 5 43 (by kernel_rfl) rfl rfl (by kernel_rfl) (by rfl) ?_ ?_
    · intro e he v W W' h hb
      simp only [List.mem_cons, List.not_mem_nil, or_false] at he
      rcases he with rfl
      · exact OwnR.up h hb
    apply Exists.intro
    refine ⟨fun x => ?_, ?_, ?_⟩
    · simp only [List.take_succ_cons, List.take_zero]
      refine relQuiet rfl rfl ?_
      apply Exists.intro
      refine ⟨fun F_ hF hf K_ hK => ?_, ?_⟩
      · have hFc := hF.cell
        have hFf := hF.frozen
        go_big_quiet_op
        first | exact hK | (apply Exists.intro; refine ⟨fun _ => ?_, ?_⟩; (· fail); exact hK)
      (try simp only [Act.put, List.setIfInBounds_toArray, List.set_cons_zero, List.set_cons_succ])
      refine relTold rfl rfl ?_ ?_
      · intro F_ hF hf d
        have hFc := hF.cell
        have hFf := hF.frozen
        simp [yieldsR, yieldsUpon, go_sem]
        refine (cE.out (F_ d) (hF.below d)).mono ?_
        rintro e' w8 ⟨v8, rfl, ho8, hb8⟩
        exact ⟨_, rfl, ho8.low (hF.below d).size, hb8⟩
      (try simp only [Act.put, List.setIfInBounds_toArray, List.set_cons_zero, List.set_cons_succ])
      refine relQuiet rfl rfl ?_
      apply Exists.intro
      refine ⟨fun F_ hF hf K_ hK => ?_, ?_⟩
      · have hFc := hF.cell
        have hFf := hF.frozen
        have hcv : ∀ d, Sem.run Try.prog (convert 31 9 (x 1)) (F_ d) = .ok (.string (str E)) (F_ d) := fun d => conv_any (Own8.bytes (hf _ List.mem_cons_self (by rfl) d)) HE.out.2
        go_big_quiet_op
        first | exact hK | (apply Exists.intro; refine ⟨fun _ => ?_, ?_⟩; (· fail); exact hK)
      (try simp only [Act.put, List.setIfInBounds_toArray, List.set_cons_zero, List.set_cons_succ])
      refine relQuiet rfl rfl ?_
      apply Exists.intro
      refine ⟨fun F_ hF hf K_ hK => ?_, ?_⟩
      · have hFc := hF.cell
        have hFf := hF.frozen
        go_big_quiet_op
        first | exact hK | (apply Exists.intro; refine ⟨fun _ => ?_, ?_⟩; (· fail); exact hK)
      (try simp only [Act.put, List.setIfInBounds_toArray, List.set_cons_zero, List.set_cons_succ])
      refine relQuiet rfl rfl ?_
      apply Exists.intro
      refine ⟨fun F_ hF hf K_ hK => ?_, ?_⟩
      · have hFc := hF.cell
        have hFf := hF.frozen
        have hcv : ∀ d, Sem.run Try.prog (convert 31 9 (.slice (some ⟨q, o, none⟩) n c)) (F_ d) = .ok (.string (str l)) (F_ d) := fun d => conv_any (HL.out.up (hF.below d)) HN.out.1
        go_big_quiet_op
        first | exact hK | (apply Exists.intro; refine ⟨fun _ => ?_, ?_⟩; (· fail); exact hK)
      (try simp only [Act.put, List.setIfInBounds_toArray, List.set_cons_zero, List.set_cons_succ])
      refine relEnd ?_
      exact rfl
    · intro x
      simp only [putsK, List.foldl_cons, List.foldl_nil, Act.put, List.setIfInBounds_toArray, List.set_cons_zero, List.set_cons_succ]
    · intro z2 xs hBz hf
      simp only [List.drop_succ_cons, List.drop_zero]
      obtain ⟨y1, ey1⟩ : ∃ q, xs 1 = q := ⟨_, rfl⟩
      simp only [ey1]
      have H2 : Hid (Below w.heap.size w z2 ∧ Own8 z2 W0.heap.size (.slice pr nr cr) L ∧ z2.heap[w.heap.size]? = some (.cells #[.int .i64 0, .int .i64 0, .int .i64 0, .int .u32 0, .int .u32 0, .slice none 0 0] 61 (0, 0)) ∧ Below W0.heap.size W0 z2) := ⟨bstep H1.out.1 hBz, Own8.up H1.out.2.1 hBz, (hBz.block _ (heap_in8 H1.out.2.2.1)).trans H1.out.2.2.1, bstep H1.out.2.2.2 hBz⟩
      replace u0 := still_cell hBz u0
      replace u1 := still_cell hBz u1
      replace u2 := still_cell hBz u2
      replace u3 := still_cell hBz u3
      replace u4 := still_cell hBz u4
      replace u5 := still_cell hBz u5
      replace kz := cell_lt u0
      clear hf hBz ey1 cE HL H1 HE
      have hb0 := H2.out.2.2.1
      cases r with
      | false =>
        have hd : ¬ decP l := of_decide_eq_false HR.out
        have HD : Hid (dB8 l = [] ∧ (∀ vb, FrD l vb = FrV 0 0 0 0 0 vb) ∧ decide (decP l) = false) := ⟨if_neg hd, fun vb => by unfold FrD dN; simp only [if_neg hd], HR.out⟩
        obtain ⟨⟨⟨y0, y1', y2, y3, y4, y5⟩, f0, f1, f2, f3, f4, f5⟩, tt⟩ := fr_put (.int .i64 0) (.int .i64 0) (.int .i64 0) (.int .u32 0) (.int .u32 0) (.slice none 0 0) hb0
        have kb := cell_lt y0
        have HT := hid2 tt tt
        clear tt
        have HB : Hid (Below w.heap.size w ((((((z2.setCell ⟨w.heap.size, 0, none⟩ (.int .i64 0)).setCell ⟨w.heap.size, 1, none⟩ (.int .i64 0)).setCell ⟨w.heap.size, 2, none⟩ (.int .i64 0)).setCell ⟨w.heap.size, 3, none⟩ (.int .u32 0)).setCell ⟨w.heap.size, 4, none⟩ (.int .u32 0)).setCell ⟨w.heap.size, 5, none⟩ (.slice none 0 0))) := ((((((H2.out.1.setCell (p := ⟨w.heap.size, 0, none⟩) (Nat.le_refl _) _).setCell (p := ⟨w.heap.size, 1, none⟩) (Nat.le_refl _) _).setCell (p := ⟨w.heap.size, 2, none⟩) (Nat.le_refl _) _).setCell (p := ⟨w.heap.size, 3, none⟩) (Nat.le_refl _) _).setCell (p := ⟨w.heap.size, 4, none⟩) (Nat.le_refl _) _).setCell (p := ⟨w.heap.size, 5, none⟩) (Nat.le_refl _) _)
        clear hd HR H2 HN HU u0 u1 u2 u3 u4 u5 kz hb0
        go_wp2
        obtain ⟨t0, t1, t2, t3, t4, t5⟩ := HT.out.1
        exact bodyPost_ret (v := .tuple #[FrV 0 0 0 0 0 (.slice none 0 0), .bool false]) (by unfold FrV; simp [results, Try.results30, go_sem, t0, t1, t2, t3, t4, t5]) rfl ⟨.slice none 0 0, by rw [HD.out.2.1, HD.out.2.2], by rw [HD.out.1]; exact ⟨rfl, .inl ⟨rfl, rfl⟩⟩, HB.out⟩
      | true =>
        have hd : decP l := of_decide_eq_true HR.out
        have HD : Hid (dB8 l = L ∧ (∀ vb, FrD l vb = FrV K F T V S vb) ∧ decide (decP l) = true) := by
          obtain ⟨a1, a2, a3, a4, a5, a6, _⟩ := HU.out
          exact ⟨by unfold dB8; rw [if_pos hd, a6], fun vb => by unfold FrD dN; simp only [if_pos hd, a1, a2, a3, a4, a5], HR.out⟩
        obtain ⟨⟨⟨y0, y1', y2, y3, y4, y5⟩, f0, f1, f2, f3, f4, f5⟩, tt⟩ := fr_put (.int .i64 K) (.int .i64 F) (.int .i64 T) (.int .u32 V) (.int .u32 S) (.slice pr nr cr) hb0
        have kb := cell_lt y0
        have HT := hid2 tt tt
        clear tt
        have HB : Hid (Below w.heap.size w ((((((z2.setCell ⟨w.heap.size, 0, none⟩ (.int .i64 K)).setCell ⟨w.heap.size, 1, none⟩ (.int .i64 F)).setCell ⟨w.heap.size, 2, none⟩ (.int .i64 T)).setCell ⟨w.heap.size, 3, none⟩ (.int .u32 V)).setCell ⟨w.heap.size, 4, none⟩ (.int .u32 S)).setCell ⟨w.heap.size, 5, none⟩ (.slice pr nr cr)) ∧ Own8 ((((((z2.setCell ⟨w.heap.size, 0, none⟩ (.int .i64 K)).setCell ⟨w.heap.size, 1, none⟩ (.int .i64 F)).setCell ⟨w.heap.size, 2, none⟩ (.int .i64 T)).setCell ⟨w.heap.size, 3, none⟩ (.int .u32 V)).setCell ⟨w.heap.size, 4, none⟩ (.int .u32 S)).setCell ⟨w.heap.size, 5, none⟩ (.slice pr nr cr)) w.heap.size (.slice pr nr cr) L) := ⟨((((((H2.out.1.setCell (p := ⟨w.heap.size, 0, none⟩) (Nat.le_refl _) _).setCell (p := ⟨w.heap.size, 1, none⟩) (Nat.le_refl _) _).setCell (p := ⟨w.heap.size, 2, none⟩) (Nat.le_refl _) _).setCell (p := ⟨w.heap.size, 3, none⟩) (Nat.le_refl _) _).setCell (p := ⟨w.heap.size, 4, none⟩) (Nat.le_refl _) _).setCell (p := ⟨w.heap.size, 5, none⟩) (Nat.le_refl _) _), (own8_stay H2.out.2.1 hb0 (((((((Stay.refl _ _).set _ _).set _ _).set _ _).set _ _).set _ _).set _ _)).low H0.out.1.size⟩
        clear hd HR H2 HN HU hb0
        go_wp2
        obtain ⟨t0, t1, t2, t3, t4, t5⟩ := HT.out.1
        exact bodyPost_ret (v := .tuple #[FrV K F T V S (.slice pr nr cr), .bool true]) (by unfold FrV; simp [results, Try.results30, go_sem, t0, t1, t2, t3, t4, t5]) rfl ⟨.slice pr nr cr, by rw [HD.out.2.1, HD.out.2.2], by rw [HD.out.1]; exact HB.out.2, HB.out.1⟩
end Go.Proofs.Ythmpfdkbpdbhnaa.Wd
