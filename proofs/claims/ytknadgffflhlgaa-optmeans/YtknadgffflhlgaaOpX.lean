/- Rows of Wides of the call's own, that grow side by side. -/
import Derived.Test.YtknadgffflhlgaaOpV
import Derived.Deep.AppendLies
namespace Go.Proofs.Ytknadgffflhlgaa.Wd
open Go.RowKit Fx
set_option linter.unusedVariables false
set_option linter.unusedSimpArgs false
set_option maxRecDepth 8000
set_option maxHeartbeats 8000000
def wv : List Int → List Value
  | [] => []
  | x :: l => .int .i64 (x / 18446744073709551616) :: .int .u64 (x % 18446744073709551616) :: wv l
theorem wv_len : ∀ l : List Int, (wv l).length = l.length * 2
  | [] => rfl
  | x :: l => by rw [wv, List.length_cons, List.length_cons, wv_len l, List.length_cons]; omega
theorem wv_app (x : Int) : ∀ l : List Int, wv (l ++ [x]) = wv l ++ [.int .i64 (x / 18446744073709551616), .int .u64 (x % 18446744073709551616)]
  | [] => rfl
  | y :: l => by rw [List.cons_append, wv, wv, wv_app x l]; rfl
theorem wv_at : ∀ (l : List Int) (i : Nat), i < l.length → (wv l)[i * 2]? = some (.int .i64 (l.getD i 0 / 18446744073709551616)) ∧ (wv l)[i * 2 + 1]? = some (.int .u64 (l.getD i 0 % 18446744073709551616))
  | [], i, h => by simp at h
  | x :: l, 0, h => ⟨rfl, rfl⟩
  | x :: l, i + 1, h => by
    have := wv_at l i (by simpa using h)
    rw [show (i + 1) * 2 = i * 2 + 1 + 1 by omega, show i * 2 + 1 + 1 + 1 = (i * 2 + 1) + 1 + 1 by omega]
    simpa [wv] using this
theorem wv_one (l : List Int) : ∀ u ∈ wv l, u.oneCell' = true := by
  induction l with
  | nil => intro u hu; simp [wv] at hu
  | cons x l ih =>
    intro u hu
    rw [wv, List.mem_cons, List.mem_cons] at hu
    rcases hu with rfl | rfl | hu
    · rfl
    · rfl
    · exact ih u hu
theorem rowg_up {e : TypeId} {s : Nat} {W W' : World} {B : Nat} {v : Value} {n : Nat} {xs : List Value} (h : W.ownsRow B e s v n xs) (hb : Below W.heap.size W W') : W'.ownsRow B e s v n xs := by
  refine ⟨h.1, ?_⟩
  rcases h.2 with h | ⟨g, cap, cur, h1, h2, h3, h4⟩
  · exact .inl h
  · exact .inr ⟨g, cap, cur, h1, h2, by rw [hb.block g (heap_lt h3)]; exact h3, h4⟩
theorem rowg_grown {e : TypeId} {s : Nat} {W W' : World} {B : Nat} {u v : Value} {n : Nat} {xs : List Value} (h : W.ownsRow B e s v n xs) (hg : W.grownBy W' u.ownBlock) (hap : ∀ g, ¬ (u.ownBlock = some g ∧ v.ownBlock = some g)) : W'.ownsRow B e s v n xs := by
  refine ⟨h.1, ?_⟩
  rcases h.2 with h | ⟨g, cap, cur, h1, h2, h3, h4⟩
  · exact .inl h
  · exact .inr ⟨g, cap, cur, h1, h2, by rw [hg.block g (heap_lt h3) (fun c => hap g ⟨c.symm, by rw [h1]; rfl⟩)]; exact h3, h4⟩
/-- A row of Wides of the call's own. -/
def OwnW (W : World) (B : Nat) (v : Value) (l : List Int) : Prop := (∀ y, y ∈ l → InW y) ∧ W.ownsRow B 30 2 v l.length (wv l)
theorem OwnW.nil (W : World) (B : Nat) : OwnW W B (.slice none 0 0) [] := ⟨fun y hy => by simp at hy, rfl, .inl ⟨rfl, rfl⟩⟩
theorem OwnW.up {W W' : World} {B : Nat} {v : Value} {l : List Int} (h : OwnW W B v l) (hb : Below W.heap.size W W') : OwnW W' B v l := ⟨h.1, rowg_up h.2 hb⟩
theorem OwnW.wdr {W : World} {B : Nat} {v : Value} {l : List Int} (h : OwnW W B v l) : ∃ p c, v = .slice p l.length c ∧ WdR W p l.length l := by
  rcases h.2.2 with ⟨e, h0⟩ | ⟨g, cap, cur, e, _, h3, _, _, _, h7⟩
  · have : l = [] := List.eq_nil_of_length_eq_zero h0
    subst this
    exact ⟨_, _, e, rfl, h.1, fun i hi => by simp at hi⟩
  · refine ⟨_, _, e, rfl, h.1, fun i hi => ⟨g, 0, rfl, ?_⟩⟩
    have hx := wv_at l i hi
    rw [← h7, List.getElem?_take_of_lt (by omega), List.getElem?_take_of_lt (by omega)] at hx
    unfold World.cell?
    simp only [h3, Nat.zero_add]
    simpa using hx
theorem wideT : ∃ i, Try.prog.info? 30 = some i ∧ (∃ z, i.zero = some z ∧ z.cells.size = 2) ∧ i.size = 2 ∧ i.bytes = 16 := by
  have h : (Try.prog.info? 30).map (fun i => (i.zero.map fun z => z.cells.size, i.size, i.bytes)) = some (some 2, 2, 16) := by kernel_rfl
  cases hq : Try.prog.info? 30 with
  | none => rw [hq] at h; cases h
  | some i =>
    rw [hq] at h
    simp only [Option.map_some, Option.some.injEq, Prod.mk.injEq] at h
    obtain ⟨h1, h2, h3⟩ := h
    cases hz : i.zero with
    | none => rw [hz] at h1; cases h1
    | some z =>
      rw [hz] at h1
      simp only [Option.map_some, Option.some.injEq] at h1
      exact ⟨i, rfl, ⟨z, hz, h1⟩, h2, h3⟩
/-- append of a literal of one Wide: another row of one's own stands, and they stay apart. -/
theorem wpList_appW {ops : Array Oper} {rest : List Oper} {o : Oper} {a : Act} {Q : Exit → Act → World → Prop} {w : World} (hgd : o.guard = none) (s x : Operand)
    (ho : o.op = .call { callee := .builtin .append, args := #[s, x], argTypes := #[32, 32] }) (B : Nat) (u : Value) (l0 : List Int) (hs : a.eval s = u) (hown : OwnW w B u l0)
    (gx : Nat) (X hi lo : Int) (c : Nat) (hx : a.eval x = .slice (some ⟨gx, 0, none⟩) 1 c) (hX : InW X) (h1 : X / 18446744073709551616 = hi) (h2 : X % 18446744073709551616 = lo) (hb : w.heap[gx]? = some (.cells #[.int .i64 hi, .int .u64 lo] 30 (0, 0))) (hlen : l0.length ≤ 1000) (hB : B ≤ w.heap.size) (w0 : World) (hB0 : Below B w0 w) (v : Value) (lv : List Int) (hv : OwnW w B v lv) (hap : ∀ g, ¬ (u.ownBlock = some g ∧ v.ownBlock = some g))
    (h : ∀ u' w', Hid (OwnW w' B u' (l0 ++ [X]) ∧ OwnW w' B v lv ∧ (∀ g, ¬ (u'.ownBlock = some g ∧ v.ownBlock = some g))) → Below B w0 w' → wpList Try.prog ops Q rest (a.put o.dst u') w') : wpList Try.prog ops Q (o :: rest) a w := by
  obtain ⟨i0, hi0, ⟨z, hz0, hz1⟩, hz2, hz3⟩ := wideT
  subst h1 h2
  have hc : ∀ j u, (wv [X])[j]? = some u → w.cell? ((⟨gx, 0, none⟩ : Addr).add j) = some u := fun j u hj => by
    rw [addr_plus, Nat.zero_add]
    unfold World.cell?
    simp only [hb]
    simpa [wv] using hj
  refine wpList_append_lies _ hgd s x 32 ho B 30 i0 z 2 16 Try.underlying32 hi0 hz0 hz2 hz3 hz1 (by decide) u l0.length _ hs hown.2 ⟨gx, 0, none⟩ 1 c (wv [X]) hx (by simp [wv]) hc (wv_one [X]) (by omega) (by unfold maxLen; omega) (by omega) hB w.heap.size rfl ?_
  intro g cap w' g1 g2 g3 g4
  refine h _ w' ⟨⟨fun y hy => ?_, ?_⟩, ⟨hv.1, rowg_grown hv.2 g2 hap⟩, fun q hq => ?_⟩ (Below.grown hB0 g2 hB fun k hk => (World.ownsRow.lt hown.2 k hk).1)
  · rcases List.mem_append.1 hy with hy | hy
    · exact hown.1 y hy
    · simp only [List.mem_singleton] at hy
      rw [hy]; exact hX
  · rw [wv_app, List.length_append]
    exact g1
  · obtain ⟨hq1, hq2⟩ := hq
    cases hq1
    rcases g3 with g3 | g3
    · exact hap _ ⟨g3, hq2⟩
    · have hlt : g < w.heap.size := (World.ownsRow.lt hv.2 g hq2).2
      omega
end Go.Proofs.Ytknadgffflhlgaa.Wd
