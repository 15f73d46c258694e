/- Nodes that a tape keeps: how they lie in memory, what a change of one tape leaves as it was. Nothing of the program is named here but types. -/
import Derived.Test.YtknadgffflhlgaaTold
import Derived.Deep.AppendLies
namespace Go.Proofs.Ytknadgffflhlgaa.Wd
open Go.RowKit Fx
set_option linter.unusedVariables false
set_option linter.unusedSimpArgs false
/-- Blocks of other types than these stand. -/
def Only (S : List TypeId) (W W' : World) : Prop := W.heap.size ≤ W'.heap.size ∧ ∀ k, k < W.heap.size → (∀ cs e fz, W.heap[k]? = some (.cells cs e fz) → e ∉ S) → W'.heap[k]? = W.heap[k]?
theorem Only.refl (S : List TypeId) (W : World) : Only S W W := ⟨Nat.le_refl _, fun _ _ _ => rfl⟩
theorem Only.trans {S : List TypeId} {a b c : World} (h : Only S a b) (h2 : Only S b c) : Only S a c := ⟨Nat.le_trans h.1 h2.1, fun k hk hp => by
  have e := h.2 k hk hp
  rw [h2.2 k (Nat.lt_of_lt_of_le hk h.1) (by rw [e]; exact hp), e]⟩
theorem Only.of {S : List TypeId} {a b : World} (h : Below a.heap.size a b) : Only S a b := ⟨h.size, fun k hk _ => h.block k hk⟩
theorem Only.up {S : List TypeId} {a b c : World} (h : Only S a b) (h2 : Below b.heap.size b c) : Only S a c := h.trans (Only.of h2)
theorem Only.more {S S' : List TypeId} {a b : World} (h : Only S a b) (hs : ∀ e, e ∈ S → e ∈ S') : Only S' a b := ⟨h.1, fun k hk hp => h.2 k hk fun cs e fz he hm => hp cs e fz he (hs e hm)⟩
theorem Only.keep {S : List TypeId} {a b : World} (h : Only S a b) {k : Nat} {cs : Array Value} {e : TypeId} {fz : Nat × Nat} (hk : a.heap[k]? = some (.cells cs e fz)) (he : e ∉ S) : b.heap[k]? = some (.cells cs e fz) := by
  rw [h.2 k (heap_lt hk) (fun cs' e' fz' h' => by rw [hk] at h'; cases h'; exact he)]
  exact hk
theorem Only.grown {S : List TypeId} {a b : World} {row : Option Nat} (h : a.grownBy b row) (hr : ∀ k, row = some k → ∃ cs e fz, a.heap[k]? = some (.cells cs e fz) ∧ e ∈ S) : Only S a b := ⟨h.size, fun k hk hp => h.block k hk fun e => by
  obtain ⟨cs, e', fz, h1, h2⟩ := hr k e.symm
  exact hp cs e' fz h1 h2⟩
theorem heap_set (W : World) (b o : Nat) (x : Value) (k : Nat) (h : k ≠ b) : (W.setCell ⟨b, o, none⟩ x).heap[k]? = W.heap[k]? := by
  unfold World.setCell
  simp [Array.getElem?_modify, Ne.symm h]
theorem heap_setat {W : World} {b o : Nat} {x : Value} {cs : Array Value} {e : TypeId} {fz : Nat × Nat} (h : W.heap[b]? = some (.cells cs e fz)) : (W.setCell ⟨b, o, none⟩ x).heap[b]? = some (.cells (cs.setIfInBounds o x) e fz) := by
  unfold World.setCell
  simp [Array.getElem?_modify, h]
theorem Only.set {S : List TypeId} {W : World} {b o : Nat} {x : Value} {cs : Array Value} {e : TypeId} {fz : Nat × Nat} (h : W.heap[b]? = some (.cells cs e fz)) (he : e ∈ S) : Only S W (W.setCell ⟨b, o, none⟩ x) := ⟨by simp, fun k hk hp => heap_set W b o x k fun hkb => by
  subst hkb
  exact hp cs e fz h he⟩
theorem OwnK.only {k : IntKind} {e : TypeId} {S : List TypeId} {W W' : World} {B : Nat} {v : Value} {l : List Int} (h : OwnK k e W B v l) (ho : Only S W W') (he : e ∉ S) : OwnK k e W' B v l := by
  refine ⟨h.1, ?_⟩
  rcases h.2 with hn | ⟨g, cap, cur, hv, hb, hg, rest⟩
  · exact .inl hn
  · exact .inr ⟨g, cap, cur, hv, hb, ho.keep hg he, rest⟩
/-- A node, as the document has it. -/
structure Nd where
  op : Int
  a : Int
  b : Int
  k : Int
  D : List Int
  X : List Int
/-- A node's six cells. -/
def NdC (W : World) (B : Nat) (nd : Nd) (u : List Value) : Prop := ∃ s t, u = [.int .i64 nd.op, .int .i64 nd.a, .int .i64 nd.b, .int .i64 nd.k, s, t] ∧ OwnK .i64 3 W B s nd.D ∧ OwnK .i64 27 W B t nd.X
def NdsC (W : World) (B : Nat) (ns : List Nd) (xs : List Value) : Prop := xs.length = ns.length * 6 ∧ ∀ i nd, ns[i]? = some nd → NdC W B nd ((xs.drop (i * 6)).take 6)
theorem NdC.only {S : List TypeId} {W W' : World} {B : Nat} {nd : Nd} {u : List Value} (h : NdC W B nd u) (ho : Only S W W') (h1 : 3 ∉ S) (h2 : 27 ∉ S) : NdC W' B nd u := by
  obtain ⟨s, t, e, hs, ht⟩ := h
  exact ⟨s, t, e, hs.only ho h1, ht.only ho h2⟩
theorem NdsC.only {S : List TypeId} {W W' : World} {B : Nat} {ns : List Nd} {xs : List Value} (h : NdsC W B ns xs) (ho : Only S W W') (h1 : 3 ∉ S) (h2 : 27 ∉ S) : NdsC W' B ns xs := ⟨h.1, fun i nd hn => (h.2 i nd hn).only ho h1 h2⟩
theorem NdC.len {W : World} {B : Nat} {nd : Nd} {u : List Value} (h : NdC W B nd u) : u.length = 6 := by
  obtain ⟨s, t, rfl, _⟩ := h
  rfl
theorem NdC.one {W : World} {B : Nat} {nd : Nd} {u : List Value} (h : NdC W B nd u) : ∀ x ∈ u, x.oneCell' = true := by
  obtain ⟨s, t, rfl, hs, ht⟩ := h
  obtain ⟨_, _, _, rfl, _⟩ := hs.nums.lst
  obtain ⟨_, _, _, rfl, _⟩ := ht.nums.lst
  intro x hx
  simp only [List.mem_cons, List.not_mem_nil, or_false] at hx
  rcases hx with rfl | rfl | rfl | rfl | rfl | rfl <;> rfl
theorem NdsC.push {W : World} {B : Nat} {ns : List Nd} {xs : List Value} {nd : Nd} {u : List Value} (h : NdsC W B ns xs) (hu : NdC W B nd u) : NdsC W B (ns ++ [nd]) (xs ++ u) := by
  have hl := hu.len
  refine ⟨by rw [List.length_append, List.length_append, h.1, hl]; simp; omega, fun i x hi => ?_⟩
  by_cases hlt : i < ns.length
  · rw [List.getElem?_append_left hlt] at hi
    have := h.2 i x hi
    rw [List.drop_append_of_le_length (by rw [h.1]; omega), List.take_append_of_le_length (by rw [List.length_drop, h.1]; omega)]
    exact this
  · rw [List.getElem?_append_right (by omega)] at hi
    obtain hi0 : i = ns.length := by
      rcases Nat.eq_or_lt_of_le (Nat.le_of_not_lt hlt) with e | e
      · exact e.symm
      · rw [List.getElem?_eq_none (by simp; omega)] at hi
        cases hi
    subst hi0
    rw [Nat.sub_self] at hi
    cases hi
    rw [← h.1, List.drop_left, List.take_of_length_le (by omega)]
    exact hu
theorem NdsC.nil (W : World) (B : Nat) : NdsC W B [] [] := ⟨rfl, fun i nd h => by simp at h⟩
/-- A tape: a block with one cell, the row of its nodes. -/
def Tap (TT NT : TypeId) (W : World) (B b : Nat) (ns : List Nd) : Prop := B ≤ b ∧ ∃ v xs, W.heap[b]? = some (.cells #[v] TT (0, 0)) ∧ W.ownsRow B NT 6 v ns.length xs ∧ NdsC W B ns xs
theorem owns_only {S : List TypeId} {W W' : World} {B n s : Nat} {e : TypeId} {v : Value} {xs : List Value} (h : W.ownsRow B e s v n xs) (ho : Only S W W') (he : e ∉ S) : W'.ownsRow B e s v n xs := by
  refine ⟨h.1, ?_⟩
  rcases h.2 with hn | ⟨g, cap, cur, hv, hb, hg, rest⟩
  · exact .inl hn
  · exact .inr ⟨g, cap, cur, hv, hb, ho.keep hg he, rest⟩
theorem Tap.only {TT NT : TypeId} {S : List TypeId} {W W' : World} {B b : Nat} {ns : List Nd} (h : Tap TT NT W B b ns) (ho : Only S W W') (h1 : TT ∉ S) (h2 : NT ∉ S) (h3 : 3 ∉ S) (h4 : 27 ∉ S) : Tap TT NT W' B b ns := by
  obtain ⟨hb, v, xs, hv, ho2, hn⟩ := h
  exact ⟨hb, v, xs, ho.keep hv h1, owns_only ho2 ho h2, hn.only ho h3 h4⟩
theorem Tap.up {TT NT : TypeId} {W W' : World} {B b : Nat} {ns : List Nd} (h : Tap TT NT W B b ns) (hB : Below W.heap.size W W') : Tap TT NT W' B b ns := h.only (S := []) (Only.of hB) (by simp) (by simp) (by simp) (by simp)
theorem owns_from {W W' : World} {B n s : Nat} {e : TypeId} {v : Value} {xs : List Value} (h : W.ownsRow B e s v n xs) (hk : ∀ k, B ≤ k → W'.heap[k]? = W.heap[k]?) : W'.ownsRow B e s v n xs := by
  refine ⟨h.1, ?_⟩
  rcases h.2 with hn | ⟨g, cap, cur, hv, hb, hg, rest⟩
  · exact .inl hn
  · exact .inr ⟨g, cap, cur, hv, hb, by rw [hk g hb]; exact hg, rest⟩
/-- What lies below the tape's own memory may change. -/
theorem Tap.from {TT NT : TypeId} {W W' : World} {B b : Nat} {ns : List Nd} (h : Tap TT NT W B b ns) (hk : ∀ k, B ≤ k → W'.heap[k]? = W.heap[k]?) : Tap TT NT W' B b ns := by
  obtain ⟨hb, v, xs, hv, ho, hn⟩ := h
  refine ⟨hb, v, xs, by rw [hk b hb]; exact hv, owns_from ho hk, hn.1, fun i nd hi => ?_⟩
  obtain ⟨s, t, e, hs, ht⟩ := hn.2 i nd hi
  exact ⟨s, t, e, owns_from hs hk, owns_from ht hk⟩
theorem Tap.new {TT NT : TypeId} {W : World} {B : Nat} (hB : B ≤ W.heap.size) : Tap TT NT (W.alloc (.cells #[.slice none 0 0] TT)) B W.heap.size [] :=
  ⟨hB, _, [], heap_alloc_new W _, World.ownsRow_nil _ _ _ _, NdsC.nil _ _⟩
theorem owned_off {TT NT : TypeId} (hne : NT ≠ TT) {W : World} {B b n s : Nat} {v v' : Value} {xs : List Value} (hb : W.heap[b]? = some (.cells #[v'] TT (0, 0))) (h : W.ownsRow B NT s v n xs) : v.ownBlock ≠ some b := by
  rcases h.2 with ⟨rfl, _⟩ | ⟨g, cap, cur, rfl, _, hg, _⟩
  · simp [Value.ownBlock]
  · intro e
    simp [Value.ownBlock] at e
    subst e
    rw [hb] at hg
    cases hg
    exact hne rfl
/-- A node more: the row was made longer, then the tape's cell was written. -/
theorem Tap.push {TT NT : TypeId} (hne : NT ≠ TT) (n1 : 3 ∉ [TT, NT]) (n2 : 27 ∉ [TT, NT]) {W W' : World} {B b : Nat} {ns : List Nd} {v v' : Value} {xs u : List Value} {nd : Nd} (hB : B ≤ b)
    (hv : W.heap[b]? = some (.cells #[v] TT (0, 0))) (ho : W.ownsRow B NT 6 v ns.length xs) (hn : NdsC W B ns xs) (hu : NdC W B nd u) (hg : W.grownBy W' v.ownBlock) (ho' : W'.ownsRow B NT 6 v' (ns.length + 1) (xs ++ u)) :
    Tap TT NT (W'.setCell ⟨b, 0, none⟩ v') B b (ns ++ [nd]) ∧ Only [TT, NT] W (W'.setCell ⟨b, 0, none⟩ v') := by
  have hrow : ∀ k, v.ownBlock = some k → ∃ cs e fz, W.heap[k]? = some (.cells cs e fz) ∧ e ∈ [TT, NT] := fun k hk => by
    rcases ho.2 with ⟨rfl, _⟩ | ⟨g, cap, cur, rfl, _, hg2, _⟩
    · simp [Value.ownBlock] at hk
    · simp [Value.ownBlock] at hk
      subst hk
      exact ⟨_, _, _, hg2, by simp⟩
  have o1 : Only [TT, NT] W W' := Only.grown hg hrow
  have hv1 : W'.heap[b]? = some (.cells #[v] TT (0, 0)) := by
    rw [hg.block b (heap_lt hv) (Ne.symm (owned_off hne hv ho))]
    exact hv
  have o2 : Only [TT, NT] W' (W'.setCell ⟨b, 0, none⟩ v') := Only.set hv1 (by simp)
  have o3 : Only [TT] W' (W'.setCell ⟨b, 0, none⟩ v') := Only.set hv1 (by simp)
  refine ⟨⟨hB, v', xs ++ u, ?_, ?_, ?_⟩, o1.trans o2⟩
  · rw [heap_setat hv1]
    rfl
  · rw [List.length_append]
    exact owns_only ho' o3 (by simp; exact hne)
  · exact ((hn.push hu).only o1 n1 n2).only o2 n1 n2
/-- What a walk reads of a tape. -/
theorem Tap.head {TT NT : TypeId} {W : World} {B b : Nat} {ns : List Nd} (h : Tap TT NT W B b ns) : ∃ p c xs, W.heap[b]? = some (.cells #[.slice p ns.length c] TT (0, 0)) ∧ W.ownsRow B NT 6 (.slice p ns.length c) ns.length xs ∧ NdsC W B ns xs ∧ ns.length ≤ c := by
  obtain ⟨hb, v, xs, hv, ho, hn⟩ := h
  rcases ho.2 with ⟨rfl, h0⟩ | ⟨g, cap, cur, rfl, hbg, hg, hc, rest⟩
  · rw [h0] at ho
    have hns : ns = [] := List.eq_nil_of_length_eq_zero h0
    subst hns
    exact ⟨none, 0, xs, hv, ho, hn, Nat.le_refl _⟩
  · exact ⟨_, _, xs, hv, ho, hn, hc⟩
theorem head_cell {W : World} {b : Nat} {v : Value} {e : TypeId} (h : W.heap[b]? = some (.cells #[v] e (0, 0))) : W.cell? ⟨b, 0, none⟩ = some v ∧ W.frozen? ⟨b, 0, none⟩ = false := by
  unfold World.cell? World.frozen?
  simp [h]
/-- A node's cells, one by one. -/
theorem node_cells {NT : TypeId} {W : World} {B : Nat} {ns : List Nd} {p : Option Addr} {c n : Nat} {xs : List Value} (ho : W.ownsRow B NT 6 (.slice p n c) n xs) (hn : NdsC W B ns xs) (hl : ns.length = n) (i : Nat) (hi : i < n) :
    ∃ q nd s t, p = some ⟨q, 0, none⟩ ∧ ns[i]? = some nd ∧ W.cell? ⟨q, i * 6, none⟩ = some (.int .i64 nd.op) ∧ W.cell? ⟨q, i * 6 + 1, none⟩ = some (.int .i64 nd.a) ∧ W.cell? ⟨q, i * 6 + 2, none⟩ = some (.int .i64 nd.b) ∧ W.cell? ⟨q, i * 6 + 3, none⟩ = some (.int .i64 nd.k) ∧ W.cell? ⟨q, i * 6 + 4, none⟩ = some s ∧ W.cell? ⟨q, i * 6 + 5, none⟩ = some t
      ∧ OwnK .i64 3 W B s nd.D ∧ OwnK .i64 27 W B t nd.X := by
  have hnd : ns[i]? = some (ns[i]'(by omega)) := List.getElem?_eq_getElem _
  obtain ⟨s, t, e, hs, ht⟩ := hn.2 i _ hnd
  have hx : ∀ j u, ((xs.drop (i * 6)).take 6)[j]? = some u → xs[i * 6 + j]? = some u := fun j u h => by
    rw [List.getElem?_take] at h
    split at h
    · rw [List.getElem?_drop] at h
      exact h
    · cases h
  rw [e] at hx
  rcases ho.2 with ⟨h0, h1⟩ | ⟨g, cap, cur, hv, hb, hg, rest⟩
  · omega
  · cases hv
    have hc : ∀ j u, xs[j]? = some u → W.cell? ⟨g, j, none⟩ = some u := fun j u h => by
      have := ho.cells (g := g) rfl j u h
      rw [addr_plus, Nat.zero_add] at this
      exact this
    exact ⟨g, _, s, t, rfl, hnd, hc _ _ (hx 0 _ rfl), hc _ _ (hx 1 _ rfl), hc _ _ (hx 2 _ rfl), hc _ _ (hx 3 _ rfl), hc _ _ (hx 4 _ rfl), hc _ _ (hx 5 _ rfl), hs, ht⟩
/-- A slice's type whose elements are nodes. -/
structure StT (P : Program) (t e : TypeId) (b : Nat) : Prop where
  ht : P.underlying t = some (.slice e)
  hi : (P.info? e).map (fun i => (i.zero.map fun z => z.cells.size, i.size, i.bytes)) = some (some 6, 6, b)
/-- append of one node that a literal holds. -/
theorem appN {P : Program} {t e : TypeId} {b : Nat} (T : StT P t e b) (hb : b ≤ 128) (ty : TypeId) (W : World) (B : Nat) (v : Value) (n : Nat) (xs : List Value) (ho : W.ownsRow B e 6 v n xs) (g : Nat) (u : List Value) (hg : W.heap[g]? = some (.cells u.toArray e (0, 0))) (hu : u.length = 6) (h1 : ∀ x ∈ u, x.oneCell' = true) (hn : n + 1 ≤ 1073741824) (hB : B ≤ W.heap.size) :
    ∃ g' cap w', (Builtin.append_ #[t, t] ty #[v, .slice (some ⟨g, 0, none⟩) 1 1]).run P W = .ok (.slice (some ⟨g', 0, none⟩) (n + 1) cap) w' ∧ w'.ownsRow B e 6 (.slice (some ⟨g', 0, none⟩) (n + 1) cap) (n + 1) (xs ++ u) ∧ W.grownBy w' v.ownBlock := by
  have hi := T.hi
  cases h : P.info? e with
  | none => rw [h] at hi; cases hi
  | some i =>
    rw [h] at hi
    simp only [Option.map_some, Option.some.injEq, Prod.mk.injEq] at hi
    obtain ⟨hz, hs, hby⟩ := hi
    cases hz0 : i.zero with
    | none => rw [hz0] at hz; cases hz
    | some z =>
      rw [hz0] at hz
      simp only [Option.map_some, Option.some.injEq] at hz
      have hm : (n + 1) * b ≤ 1073741824 * 128 := Nat.mul_le_mul hn hb
      obtain ⟨g', cap, w', hr, h2, h3, _, _⟩ := run_append_lies (P := P) W t ty B e i z 6 b T.ht h hz0 hs hby hz (by decide) v n xs ho ⟨g, 0, none⟩ 1 1 u (by omega) (fun j x hj => by
        rw [addr_plus, Nat.zero_add]
        unfold World.cell?
        simpa [hg] using hj) h1 (by omega) (by unfold maxLen; omega) (by omega) hB _ rfl
      exact ⟨g', cap, w', hr, h2, h3⟩
/-- A literal's block of one node. -/
def LitS (e : TypeId) (B : Nat) (u : List Value) (v : Value) (W : World) : Prop := ∃ g, v = .slice (some ⟨g, 0, none⟩) 1 1 ∧ W.heap[g]? = some (.cells u.toArray e (0, 0)) ∧ B ≤ g
theorem LitS.up {e : TypeId} {B : Nat} {u : List Value} {v : Value} {W W' : World} (h : LitS e B u v W) (hB : Below W.heap.size W W') : LitS e B u v W' := by
  obtain ⟨g, e1, h1, h2⟩ := h
  exact ⟨g, e1, by rw [hB.block g (heap_lt h1)]; exact h1, h2⟩
theorem LitS.grown {e : TypeId} {B : Nat} {u : List Value} {v : Value} {W W' : World} {r : Option Nat} (h : LitS e B u v W) (hg : W.grownBy W' r) (hr : ∀ k, r = some k → k < B) : LitS e B u v W' := by
  obtain ⟨g, e1, h1, h2⟩ := h
  refine ⟨g, e1, ?_, h2⟩
  rw [hg.block g (heap_lt h1) (fun e => by have := hr g e.symm; omega)]
  exact h1
/-- A row of nodes of one's own. -/
def OwnN (e : TypeId) (B n : Nat) (xs : List Value) (v : Value) (W : World) : Prop := W.ownsRow B e 6 v n xs
theorem OwnN.up {e : TypeId} {B n : Nat} {xs : List Value} {v : Value} {W W' : World} (h : OwnN e B n xs v W) (hB : Below W.heap.size W W') : OwnN e B n xs v W' := owns_only (S := []) h (Only.of hB) (by simp)
theorem grown_up {a b c : World} {r : Option Nat} (h : a.grownBy b r) (h2 : Below b.heap.size b c) : a.grownBy c r := ⟨h2.os.trans h.os, h2.tape.trans h.tape, h2.output.trans h.output, Nat.le_trans h.size h2.size, fun k hk hr => (h2.block k (Nat.lt_of_lt_of_le hk h.size)).trans (h.block k hk hr)⟩
theorem below_grown {a b : World} (r : Option Nat) (h : Below a.heap.size a b) : a.grownBy b r := ⟨h.os, h.tape, h.output, h.size, fun k hk _ => h.block k hk⟩
theorem grown_trans {a b c : World} {r : Option Nat} (h : a.grownBy b r) (h2 : b.grownBy c r) : a.grownBy c r := ⟨h2.os.trans h.os, h2.tape.trans h.tape, h2.output.trans h.output, Nat.le_trans h.size h2.size, fun k hk hr => (h2.block k (Nat.lt_of_lt_of_le hk h.size) hr).trans (h.block k hk hr)⟩
end Go.Proofs.Ytknadgffflhlgaa.Wd
