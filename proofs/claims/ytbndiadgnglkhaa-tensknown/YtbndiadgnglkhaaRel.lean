/- A region that draws its order, some of whose operations hand back values that differ from world to world (a new block's address): each such value is told by what stays true of it; walked once, in the order of the text. -/
import Derived.Test.YtbndiadgnglkhaaFlow
namespace Go.Proofs.Ytbndiadgnglkhaa.Wd
open Go.RowKit
set_option linter.unusedVariables false
set_option linter.unusedSimpArgs false
section
variable {P : Program} {ops : Array Oper} {Q : Exit → Act → World → Prop}
/-- What the operation number k hands back, and what stays true of it. -/
structure Told where
  k : Nat
  t : Tmp
  φ : Value → World → Prop
/-- The frame G with the told values in their slots. -/
def putsK (ks : List Told) (x : Nat → Value) (G : Act) : Act := ks.foldl (fun a e => a.put (some e.t) (x e.k)) G
theorem putsK_size (x : Nat → Value) : ∀ (ks : List Told) (G : Act), (putsK ks x G).tmps.size = G.tmps.size
  | [], _ => rfl
  | e :: ks, G => by rw [putsK, List.foldl_cons]; exact (putsK_size x ks _).trans (put_size _ _ _)
theorem putsK_defs (x : Nat → Value) : ∀ (ks : List Told) (G : Act), (putsK ks x G).defers = G.defers
  | [], _ => rfl
  | e :: ks, G => by rw [putsK, List.foldl_cons]; exact (putsK_defs x ks _).trans (put_defs _ _ _)
theorem putsK_off (x : Nat → Value) (t : Tmp) : ∀ (ks : List Told) (G : Act), (∀ e, e ∈ ks → e.t ≠ t) → (putsK ks x G).tmps[t]? = G.tmps[t]?
  | [], _, _ => rfl
  | e :: ks, G, h => by
    rw [putsK, List.foldl_cons]
    refine (putsK_off x t ks _ fun e he => h e (List.mem_cons_of_mem _ he)).trans (put_off fun hh => h e List.mem_cons_self (Option.some.inj hh))
theorem putsK_at (x : Nat → Value) : ∀ (ks : List Told) (G : Act), (ks.map (·.t)).Nodup → ∀ e, e ∈ ks → e.t < G.tmps.size → (putsK ks x G).tmps[e.t]? = some (x e.k)
  | [], _, _, e, he, _ => by cases he
  | f :: ks, G, hn, e, he, hlt => by
    rw [List.map_cons, List.nodup_cons] at hn
    rw [putsK, List.foldl_cons]
    rcases List.mem_cons.1 he with rfl | he
    · refine (putsK_off x e.t ks _ fun g hg hh => hn.1 (List.mem_map.2 ⟨g, hg, hh⟩)).trans (put_on hlt)
    · exact putsK_at x ks _ hn.2 e he (by rw [put_size]; exact hlt)
/-- Another value for one of them. -/
def upd (x : Nat → Value) (k : Nat) (v : Value) : Nat → Value := fun j => if j = k then v else x j
theorem putsK_upd (x : Nat → Value) (k : Nat) (v : Value) (t : Tmp) : ∀ (ks : List Told) (G G' : Act), G'.tmps[t]? = G.tmps[t]? → G'.tmps.size = G.tmps.size → (∀ e, e ∈ ks → e.k = k → e.t ≠ t) → (putsK ks (upd x k v) G').tmps[t]? = (putsK ks x G).tmps[t]?
  | [], _, _, h, _, _ => h
  | e :: ks, G, G', h, hs, hk => by
    rw [putsK, putsK, List.foldl_cons, List.foldl_cons]
    refine putsK_upd x k v t ks _ _ ?_ (by rw [put_size, put_size]; exact hs) fun e he => hk e (List.mem_cons_of_mem _ he)
    by_cases c : e.t = t
    · have hne : e.k ≠ k := fun h => hk e List.mem_cons_self h c
      have e1 : upd x k v e.k = x e.k := if_neg hne
      rw [e1]
      subst c
      by_cases d : e.t < G.tmps.size
      · rw [put_on d, put_on (by rw [hs]; exact d)]
      · rw [Array.getElem?_eq_none (by rw [put_size, hs]; exact Nat.le_of_not_lt d), Array.getElem?_eq_none (by rw [put_size]; exact Nat.le_of_not_lt d)]
    · rw [put_off (fun hh => c (Option.some.inj hh)), put_off (fun hh => c (Option.some.inj hh))]
      exact h
def toldAt (ks : List Told) (i : Nat) : Option Told := ks.find? fun e => e.k == i
/-- What is known, at an operation, of the told values that it looks at. -/
def Facts (ops : Array Oper) (ks : List Told) (o : Oper) (x : Nat → Value) (F : World → World) : Prop := ∀ e, e ∈ ks → (o.looksAt ops).contains e.t = true → ∀ d, e.φ (x e.k) (F d)
/-- The operation yields a value of which φ holds, and keeps what stood. -/
def yieldsUpon (P : Program) (φ : Value → World → Prop) (W : World) : Result Next → Prop
  | .ok (.value u) W' => φ u W' ∧ Below W.heap.size W W'
  | .ok .skip W' => φ undef W' ∧ Below W.heap.size W W'
  | .ok (.enter f args) W' => W' = W ∧ Calls P f args W (fun e W'' => ∃ v, e = .returned v ∧ φ v W'' ∧ Below W.heap.size W W'')
  | _ => False
def yieldsR (P : Program) (o : Oper) (a : Act) (W : World) (φ : Value → World → Prop) : Prop := yieldsUpon P φ W ((execOp a.eval o).run P W)
/-- The walk in the order of the text. -/
def relWalk (P : Program) (ops : Array Oper) (w : World) (ks : List Told) (x : Nat → Value) (G : Act) : Nat → List Oper → Act → Prop
  | _, [], a => a = G
  | i, o :: l, a => match toldAt ks i with
    | none => ∃ v, (∀ F, Fam w F → Facts ops ks o x F → if Region.wanted o (yielded ops a.tmps) = true then ∀ K : Act → Prop, K (a.put o.dst v) → o.quiet P a (fun W => ∃ d, W = F d) K else v = undef) ∧ relWalk P ops w ks x G (i + 1) l (a.put o.dst v)
    | some e => (∀ F, Fam w F → Facts ops ks o x F → Region.wanted o (yielded ops a.tmps) = true ∧ ∀ d, yieldsR P o a (F d) e.φ) ∧ relWalk P ops w ks x G (i + 1) l (a.put (some e.t) (x e.k))
/-- The dumps' shape, for a list of told operations: each is among the first m, writes the slot that it names; no two of them write one slot. -/
def toldB (ops : Array Oper) (ks : List Told) (m n : Nat) : Bool :=
  (ks.all fun e => decide (e.k < m) && decide (e.t < n) && (((ops[e.k]?).bind (·.dst)) == some e.t)) && decide (ks.map (·.t)).Nodup && decide (ks.map (·.k)).Nodup
theorem toldAt_some {ks : List Told} {i : Nat} {e : Told} (h : toldAt ks i = some e) : e ∈ ks ∧ e.k = i := by
  unfold toldAt at h
  exact ⟨List.mem_of_find?_eq_some h, by simpa using List.find?_some h⟩
theorem toldAt_none {ks : List Told} {i : Nat} (h : toldAt ks i = none) : ∀ e, e ∈ ks → e.k ≠ i := by
  unfold toldAt at h
  intro e he hk
  have := List.find?_eq_none.1 h e he
  simp [hk] at this
theorem rel_off {w : World} {ks : List Told} {x : Nat → Value} {G : Act} : ∀ (l : List Oper) (i : Nat) (a : Act), (∀ j e, toldAt ks (i + j) = some e → ∀ o, l[j]? = some o → o.dst = some e.t) → relWalk P ops w ks x G i l a →
    G.tmps.size = a.tmps.size ∧ G.defers = a.defers ∧ ∀ t, t ∉ dsts l → G.tmps[t]? = a.tmps[t]?
  | [], i, a, _, h => by
    obtain rfl : a = G := h
    exact ⟨rfl, rfl, fun _ _ => rfl⟩
  | o :: l, i, a, hk, h => by
    obtain ⟨v, hv⟩ : ∃ v, relWalk P ops w ks x G (i + 1) l (a.put o.dst v) := by
      rw [relWalk] at h
      split at h
      · obtain ⟨v, _, h2⟩ := h
        exact ⟨v, h2⟩
      · rename_i e he
        have := hk 0 e he o rfl
        rw [this]
        exact ⟨_, h.2⟩
    obtain ⟨h1, h2, h3⟩ := rel_off l (i + 1) _ (fun j e he o ho => hk (j + 1) e (by rw [show i + (j + 1) = i + 1 + j by omega]; exact he) o (by simpa using ho)) hv
    refine ⟨by rw [h1, put_size], by rw [h2, put_defs], fun t ht => ?_⟩
    rw [h3 t (fun hm => ht (by
      obtain ⟨x, hx, hd⟩ := List.mem_filterMap.1 hm
      exact List.mem_filterMap.2 ⟨x, List.mem_cons_of_mem _ hx, hd⟩)), put_off (fun hd => ht (List.mem_filterMap.2 ⟨o, List.mem_cons_self, hd⟩))]
/-- What an operation yields in the last frame G, in the families of whose worlds the facts hold. -/
def RelFit (P : Program) (ops : Array Oper) (w : World) (ks : List Told) (x : Nat → Value) (G : Act) (i : Nat) (o : Oper) : Prop :=
  ∀ F, Fam w F → Facts ops ks o x F → match toldAt ks i with
    | none => (Region.wanted o (yielded ops G.tmps) = true ∧ ∃ v, (∀ t, o.dst = some t → G.tmps[t]? = some v) ∧ ∀ d, o.quietAt P G (fun W => ∃ d, W = F d) (F d) v) ∨ (Region.wanted o (yielded ops G.tmps) = false ∧ ∀ t, o.dst = some t → G.tmps[t]? = some undef)
    | some e => Region.wanted o (yielded ops G.tmps) = true ∧ ∀ d, yieldsR P o G (F d) e.φ
theorem rel_fit {w : World} {ks : List Told} {x : Nat → Value} {G : Act} (n : Nat) : ∀ (l : List Oper) (i : Nat) (a : Act), a.tmps.size = n → (∀ o, o ∈ l → ∀ cs b, o.op ≠ .select cs b) → lexOk ops n l = true →
    (∀ j e, toldAt ks (i + j) = some e → ∀ o, l[j]? = some o → o.dst = some e.t) → relWalk P ops w ks x G i l a → ∀ j o, l[j]? = some o → RelFit P ops w ks x G (i + j) o
  | [], _, _, _, _, _, _, _, j, o, ho => by simp at ho
  | o :: l, i, a, hn, hs, hl, hk, h, j, p, hp => by
    have off := rel_off (o :: l) i a hk h
    rw [lexOk, Bool.and_eq_true, Bool.and_eq_true] at hl
    obtain ⟨⟨hd, hlook⟩, hl⟩ := hl
    have look : ∀ t, t ∈ o.looksAt ops → G.tmps[t]? = a.tmps[t]? := fun t ht => off.2.2 t (fun hm => by
      have := List.all_eq_true.1 hlook t hm
      simp at this
      exact this ht)
    have he := exec_same (ops := ops) (hs o List.mem_cons_self) look
    have hw := wanted_same look
    have hk' : ∀ j e, toldAt ks (i + 1 + j) = some e → ∀ o, l[j]? = some o → o.dst = some e.t := fun j e he o ho => hk (j + 1) e (by rw [show i + (j + 1) = i + 1 + j by omega]; exact he) o (by simpa using ho)
    have next : ∀ v, relWalk P ops w ks x G (i + 1) l (a.put o.dst v) → ∀ j p, (o :: l)[j + 1]? = some p → RelFit P ops w ks x G (i + (j + 1)) p := fun v hv j p hp => by
      have := rel_fit n l (i + 1) (a.put o.dst v) (by rw [put_size]; exact hn) (fun o ho => hs o (List.mem_cons_of_mem _ ho)) hl hk' hv j p (by simpa using hp)
      rw [show i + (j + 1) = i + 1 + j by omega]
      exact this
    have later : ∀ v, relWalk P ops w ks x G (i + 1) l (a.put o.dst v) → ∀ t, o.dst = some t → G.tmps[t]? = some v := by
      intro v hv t ht
      rw [ht] at hd hv
      simp at hd
      rw [(rel_off l (i + 1) _ hk' hv).2.2 t hd.2, put_on (by rw [hn]; exact hd.1)]
    rw [relWalk] at h
    cases hc : toldAt ks i with
    | none =>
      rw [hc] at h
      obtain ⟨v, h1, h2⟩ := h
      cases j with
      | succ j => exact next v h2 j p hp
      | zero =>
        simp only [List.getElem?_cons_zero, Option.some.injEq] at hp
        subst hp
        intro F hF hf
        rw [Nat.add_zero, hc]
        have h3 := h1 F hF hf
        by_cases c : Region.wanted o (yielded ops a.tmps) = true
        · rw [if_pos c] at h3
          obtain ⟨u, hu, hK⟩ := h3 (fun a' => a' = a.put o.dst v) rfl
          left
          refine ⟨hw.trans c, u, ?_, fun d => ?_⟩
          · intro t ht
            rw [later v h2 t ht]
            rw [ht] at hK hd
            simp at hd
            have e1 : (a.put (some t) u).tmps[t]? = (a.put (some t) v).tmps[t]? := congrArg (fun a => a.tmps[t]?) hK
            rw [put_on (by rw [hn]; exact hd.1), put_on (by rw [hn]; exact hd.1)] at e1
            exact e1.symm
          · have := hu _ ⟨d, rfl⟩
            unfold Oper.quietAt at *
            rw [he]
            exact this
        · rw [if_neg c] at h3
          right
          refine ⟨hw.trans (by simpa using c), fun t ht => ?_⟩
          rw [later v h2 t ht, h3]
    | some e =>
      rw [hc] at h
      have hde := hk 0 e hc o rfl
      cases j with
      | succ j => exact next (x e.k) (by rw [hde]; exact h.2) j p hp
      | zero =>
        simp only [List.getElem?_cons_zero, Option.some.injEq] at hp
        subst hp
        intro F hF hf
        rw [Nat.add_zero, hc]
        have h3 := h.1 F hF hf
        refine ⟨hw.trans h3.1, fun d => ?_⟩
        have := h3.2 d
        unfold yieldsR at *
        rw [he]
        exact this
theorem toldAt_mem : ∀ (ks : List Told), (ks.map (·.k)).Nodup → ∀ e, e ∈ ks → toldAt ks e.k = some e
  | [], _, e, he => by cases he
  | f :: ks, hn, e, he => by
    rw [List.map_cons, List.nodup_cons] at hn
    unfold toldAt
    rw [List.find?_cons]
    rcases List.mem_cons.1 he with rfl | he
    · simp
    · have hne : f.k ≠ e.k := fun h => hn.1 (List.mem_map.2 ⟨e, he, h.symm⟩)
      have : (f.k == e.k) = false := by simpa using hne
      rw [this]
      exact toldAt_mem ks hn.2 e he
structure InvR (ops : Array Oper) (w : World) (ks : List Told) (m : Nat) (G : Act) (listed : Array Bool) (s : Act) (W : World) (x : Nat → Value) : Prop where
  size : listed.size = ops.size
  head : ∀ j, m ≤ j → j < ops.size → listed.getD j true = false
  fsize : s.tmps.size = G.tmps.size
  fdef : s.defers = G.defers
  slot : ∀ t, (∀ j o, j < m → ops[j]? = some o → o.dst = some t → listed.getD j false = true) → s.tmps[t]? = G.tmps[t]?
  below : Below w.heap.size w W
  told : ∀ e, e ∈ ks → listed.getD e.k false = true → e.φ (x e.k) W
  closed : ∀ j o, ops[j]? = some o → listed.getD j false = true → ∀ e ∈ o.after, Region.binds .any e = true → listed.getD e.on false = true
theorem InvR.all {w W : World} {ks : List Told} {m : Nat} {G s : Act} {listed : Array Bool} {x : Nat → Value} (hI : InvR ops w ks m G listed s W x) (h : ∀ j, j < m → listed.getD j false = true) : s = G := by
  have h1 : s.tmps = G.tmps := Array.ext_getElem? fun t => hI.slot t fun j _ hj _ _ => h j hj
  have h2 := hI.fdef
  cases s
  cases G
  simp only at h1 h2
  rw [h1, h2]
theorem rel_any {w : World} {ks : List Told} {m n : Nat} {G : (Nat → Value) → Act} {G0 : Act} (hB : flowB ops m m = true) (hK : toldB ops ks m n = true)
    (hφ : ∀ e, e ∈ ks → ∀ v W W', e.φ v W → Below W.heap.size W W' → e.φ v W') (hG : ∀ x, G x = putsK ks x G0) (hn : G0.tmps.size = n)
    (hfit : ∀ x i o, i < m → ops[i]? = some o → RelFit P ops w ks x (G x) i o)
    (ht : ∀ W x, Below w.heap.size w W → (∀ e, e ∈ ks → e.φ (x e.k) W) → wpList P ops Q (ops.toList.drop m) (G x) W) :
    ∀ (fuel : Nat) (listed : Array Bool) (s : Act) (W : World) (x : Nat → Value), listed.toList.count false = fuel → InvR ops w ks m (G x) listed s W x → wpAny P .any ops Q fuel listed s W := by
  simp only [flowB, Bool.and_eq_true, decide_eq_true_eq] at hB
  obtain ⟨⟨⟨⟨hm, hsel⟩, hback⟩, hsink⟩, hX⟩ := hB
  simp only [toldB, Bool.and_eq_true, decide_eq_true_eq] at hK
  obtain ⟨⟨hK, hKt⟩, hKk⟩ := hK
  have hK' : ∀ e, e ∈ ks → e.k < m ∧ e.t < n ∧ (ops[e.k]?).bind (·.dst) = some e.t := by
    intro e he
    have := List.all_eq_true.1 hK e he
    simp only [Bool.and_eq_true, decide_eq_true_eq, beq_iff_eq] at this
    exact ⟨this.1.1, this.1.2, this.2⟩
  have hb : ∀ i o, ops[i]? = some o → ∀ e ∈ o.after, Region.binds .any e = true → e.on < i := by
    intro i o ho e he hbi
    have := List.all_eq_true.1 hback i (List.mem_range.2 (Array.getElem?_eq_some_iff.1 ho).1)
    simp only [ho, Bool.and_eq_true] at this
    have h1 := Array.all_eq_true_iff_forall_mem.1 this.1 e he
    simpa [hbi] using h1
  have hT : ∀ i o, ops[i]? = some o → ∀ j, m ≤ j → j < i → waits o j = true := by
    intro i o ho j hj hji
    have := List.all_eq_true.1 hback i (List.mem_range.2 (Array.getElem?_eq_some_iff.1 ho).1)
    simp only [ho, Bool.and_eq_true] at this
    have := List.all_eq_true.1 this.2 j (List.mem_range.2 hji)
    simp only [Bool.or_eq_true, decide_eq_true_eq] at this
    rcases this with h | h
    · omega
    · exact h
  have hS : m < ops.size → ∀ j, j < m → ∃ k o, j < k ∧ k ≤ m ∧ ops[k]? = some o ∧ waits o j = true := by
    intro hlt j hj
    rw [Bool.or_eq_true] at hsink
    rcases hsink with h | h
    · simp at h; omega
    · obtain ⟨k, hk, h1⟩ := List.any_eq_true.1 (List.all_eq_true.1 h j (List.mem_range.2 hj))
      simp only [Bool.and_eq_true, decide_eq_true_eq] at h1
      have hk' : k < ops.size := by have := List.mem_range.1 hk; omega
      have ho : ops[k]? = some ops[k] := Array.getElem?_eq_getElem hk'
      rw [ho] at h1
      exact ⟨k, _, h1.1, by have := List.mem_range.1 hk; omega, ho, h1.2⟩
  have hX' : ∀ i o, i < m → ops[i]? = some o → ∀ j t, j < m → (ops[j]?).bind (·.dst) = some t → (t ∈ o.looksAt ops → waits o j = true) ∧ (i ≠ j → o.dst ≠ some t) := by
    intro i o hi ho j t hj hd
    have := List.all_eq_true.1 hX i (List.mem_range.2 hi)
    simp only [ho] at this
    have := List.all_eq_true.1 this j (List.mem_range.2 hj)
    simp only [hd, Bool.and_eq_true, Bool.or_eq_true, bne_iff_ne, beq_iff_eq, Bool.not_eq_true', List.contains_eq_mem, decide_eq_false_iff_not] at this
    refine ⟨fun hl => ?_, fun hne => ?_⟩
    · rcases this.1 with h | h
      · exact absurd hl h
      · exact h.1
    · rcases this.2 with h | h
      · exact absurd h hne
      · exact h
  have gsize : ∀ x, (G x).tmps.size = n := fun x => by rw [hG, putsK_size]; exact hn
  have gat : ∀ x e, e ∈ ks → (G x).tmps[e.t]? = some (x e.k) := fun x e he => by
    rw [hG]
    exact putsK_at x ks G0 hKt e he (by rw [hn]; exact (hK' e he).2.1)
  intro fuel
  induction fuel with
  | zero =>
    intro listed s W x hc hI
    have hm' : m = ops.size := by
      rcases Nat.lt_or_ge m ops.size with c | c
      · exact absurd (hI.head m (Nat.le_refl _) c) (count_none hc m)
      · omega
    have hall : ∀ j, j < m → listed.getD j false = true := fun j hj => listed_of (by rw [hI.size]; omega) (count_none hc j)
    rw [hI.all hall]
    have h := ht W x hI.below (fun e he => hI.told e he (hall _ (hK' e he).1))
    rw [List.drop_eq_nil_of_le (by simp; omega)] at h
    refine ⟨?_, h⟩
    refine List.eq_nil_iff_forall_not_mem.2 fun i hi => ?_
    exact count_none hc i (mem_ready.1 hi).1
  | succ fuel ih =>
    intro listed s W x hc hI
    refine ⟨fun hr => by
      obtain ⟨i, hi⟩ := count_some hc
      exact absurd hr (first_ready hI.size hb i hi), fun i hi => ?_⟩
    obtain ⟨hun, o, ho, hall⟩ := mem_ready.1 hi
    have hilt : i < ops.size := (Array.getElem?_eq_some_iff.1 ho).1
    rcases Nat.lt_or_ge i m with him | him
    · have look : ∀ t, t ∈ o.looksAt ops → s.tmps[t]? = (G x).tmps[t]? := fun t htl =>
        hI.slot t fun j oj hj hoj hd => waits_listed ((hX' i o him ho j t hj (by rw [hoj]; exact hd)).1 htl) hall
      have he := exec_same (ops := ops) (Region.noSelect_spec hsel i o · · ho) look
      have hwt := wanted_same look
      have facts : Facts ops ks o x (onTop W) := fun e hek htl d => by
        obtain ⟨h1, _, h3⟩ := hK' e hek
        have hl := waits_listed ((hX' i o him ho e.k e.t h1 h3).1 (by simpa using htl)) hall
        exact hφ e hek _ _ _ (hI.told e hek hl) (onTop_below W d)
      have fit := hfit x i o him ho (onTop W) (fam_top hI.below) facts
      obtain ⟨d0, hd0⟩ := of_below (Below.refl W.heap.size W)
      have other : ∀ e, e ∈ ks → e.k ≠ i → (listed.setIfInBounds i true).getD e.k false = true → listed.getD e.k false = true := fun e _ hne h => by
        rw [getD_set_ne false (Ne.symm hne)] at h; exact h
      unfold wpOp
      simp only [ho]
      cases hc1 : toldAt ks i with
      | none =>
        rw [hc1] at fit
        have hnk := toldAt_none hc1
        have next : ∀ (v : Value) (W' : World), (∀ t, o.dst = some t → (G x).tmps[t]? = some v) → Below W.heap.size W W' → wpAny P .any ops Q fuel (listed.setIfInBounds i true) (s.put o.dst v) W' := by
          intro v W' hv hbW
          refine ih _ _ W' x (count_listed hun hc) ⟨by simpa using hI.size, fun j hj hj' => by rw [getD_set_ne true (by omega)]; exact hI.head j hj hj', by rw [put_size]; exact hI.fsize, by rw [put_defs]; exact hI.fdef, fun t hcond => ?_, hI.below.trans (hbW.mono hI.below.size), fun e hek hl => hφ e hek _ _ _ (hI.told e hek (other e hek (hnk e hek) hl)) hbW, closed_set ho hall hI.closed⟩
          by_cases hd : o.dst = some t
          · rw [hv t hd, hd]
            exact put_on (by rw [hI.fsize]; exact (Array.getElem?_eq_some_iff.1 (hv t hd)).1)
          · rw [put_off hd]
            refine hI.slot t fun j oj hj hoj hdj => ?_
            have := hcond j oj hj hoj hdj
            by_cases c : i = j
            · subst c
              rw [ho] at hoj
              cases hoj
              exact absurd hdj hd
            · rw [getD_set_ne false c] at this
              exact this
        rcases fit with ⟨hw, v, hv, hq⟩ | ⟨hw, hu⟩
        · rw [if_pos (hwt.trans hw)]
          left
          have hq := hq d0
          rw [← hd0] at hq
          unfold Oper.wp
          unfold Oper.quietAt at hq
          rw [he]
          generalize (execOp (G x).eval o).run P W = r at hq
          cases r with
          | halt x w' => exact hq.elim
          | ok n w' =>
            cases n <;> simp only [Oper.quietUpon] at hq <;> simp only [Oper.upon]
            case value u =>
              obtain ⟨e1, e2⟩ := hq
              rw [e1, e2]
              exact next v W hv (Below.refl _ _)
            case skip =>
              obtain ⟨e1, e2⟩ := hq
              rw [e1, ← e2]
              exact next v W hv (Below.refl _ _)
            case enter f args =>
              obtain ⟨e1, hc⟩ := hq
              rw [e1]
              exact hc.mono fun e w'' ⟨he, d, hw''⟩ => by subst he; rw [hw'']; exact next v _ hv (onTop_below W d)
        · rw [if_neg (by rw [hwt, hw]; exact Bool.false_ne_true)]
          exact next undef W hu (Below.refl _ _)
      | some e =>
        rw [hc1] at fit
        obtain ⟨hek, hei⟩ := toldAt_some hc1
        subst hei
        have hod : o.dst = some e.t := by have := (hK' e hek).2.2; rw [ho] at this; exact this
        have uniq : ∀ e', e' ∈ ks → e'.k = e.k → e' = e := fun e' he' hk => by
          have h1 := toldAt_mem ks hKk e' he'
          rw [hk, hc1] at h1
          exact (Option.some.inj h1).symm
        have next : ∀ (v : Value) (W' : World), e.φ v W' → Below W.heap.size W W' → wpAny P .any ops Q fuel (listed.setIfInBounds e.k true) (s.put o.dst v) W' := by
          intro v W' hv hbW
          refine ih _ _ W' (upd x e.k v) (count_listed hun hc) ⟨by simpa using hI.size, fun j hj hj' => by rw [getD_set_ne true (by omega)]; exact hI.head j hj hj', by rw [put_size, hI.fsize, gsize, gsize], by rw [put_defs, hI.fdef, hG, hG, putsK_defs, putsK_defs], fun t hcond => ?_, hI.below.trans (hbW.mono hI.below.size), fun e' hek' hl => ?_, closed_set ho hall hI.closed⟩
          · by_cases hd : o.dst = some t
            · rw [hd]
              obtain rfl : e.t = t := by rw [hod] at hd; exact Option.some.inj hd
              rw [gat _ e hek, put_on (by rw [hI.fsize, gsize]; exact (hK' e hek).2.1)]
              show some v = some (if e.k = e.k then v else x e.k)
              rw [if_pos rfl]
            · rw [put_off hd, hG, putsK_upd x e.k v t ks G0 G0 rfl rfl (fun e' he' hk' hh => hd (by rw [hod, ← hh, uniq e' he' hk'])), ← hG]
              refine hI.slot t fun j oj hj hoj hdj => ?_
              have := hcond j oj hj hoj hdj
              by_cases c : e.k = j
              · subst c
                rw [ho] at hoj
                cases hoj
                exact absurd hdj hd
              · rw [getD_set_ne false c] at this
                exact this
          · by_cases c : e'.k = e.k
            · obtain rfl := uniq e' hek' c
              show e'.φ (if e'.k = e'.k then v else x e'.k) W'
              rw [if_pos rfl]
              exact hv
            · show e'.φ (if e'.k = e.k then v else x e'.k) W'
              rw [if_neg c]
              exact hφ e' hek' _ _ _ (hI.told e' hek' (other e' hek' c hl)) hbW
        obtain ⟨hw, hy⟩ := fit
        rw [if_pos (hwt.trans hw)]
        left
        have hy := hy d0
        rw [← hd0] at hy
        unfold Oper.wp
        unfold yieldsR at hy
        rw [he]
        generalize (execOp (G x).eval o).run P W = r at hy
        cases r with
        | halt x w' => exact hy.elim
        | ok n w' =>
          cases n <;> simp only [yieldsUpon] at hy <;> simp only [Oper.upon]
          case value u => exact next u w' hy.1 hy.2
          case skip => exact next undef w' hy.1 hy.2
          case enter f args =>
            obtain ⟨e1, hc⟩ := hy
            rw [e1]
            exact hc.mono fun e' w'' ⟨v, he', h1, h2⟩ => by subst he'; exact next v w'' h1 h2
    · obtain rfl : i = m := by
        rcases Nat.lt_or_ge m i with c | c
        · have h1 := waits_listed (hT i o ho m (Nat.le_refl _) c) hall
          have h2 := (unlisted (hI.head m (Nat.le_refl _) (by omega))).2
          rw [h1] at h2; cases h2
        · omega
      have hl : ∀ d j, i - j = d → j < i → listed.getD j false = true := by
        intro d
        induction d using Nat.strongRecOn with
        | _ d ihd =>
          intro j hd hj
          obtain ⟨k, ok, hjk, hk, hok, hwk⟩ := hS hilt j hj
          rcases Nat.lt_or_ge k i with c | c
          · have := ihd (i - k) (by omega) k rfl c
            exact waits_listed hwk (hI.closed k ok hok this)
          · obtain rfl : k = i := by omega
            rw [ho] at hok
            cases hok
            exact waits_listed hwk hall
      have hl := fun j hj => hl (i - j) j rfl hj
      have hs := hI.all hl
      have h := ht W x hI.below (fun e he => hI.told e he (hl _ (hK' e he).1))
      rw [← hs] at h
      exact (tail_any (P := P) (Q := Q) hb hT (fuel + 1) i listed s W hI.size (Nat.le_refl _) hc hl hI.head h).2 i hi
theorem relQuiet {w : World} {ks : List Told} {x : Nat → Value} {G a : Act} {i : Nat} {o : Oper} {l : List Oper} (hk : toldAt ks i = none) (hw : Region.wanted o (yielded ops a.tmps) = true)
    (h : ∃ v, (∀ F, Fam w F → Facts ops ks o x F → ∀ K : Act → Prop, K (a.put o.dst v) → o.quiet P a (fun W => ∃ d, W = F d) K) ∧ relWalk P ops w ks x G (i + 1) l (a.put o.dst v)) : relWalk P ops w ks x G i (o :: l) a := by
  rw [relWalk, hk]
  obtain ⟨v, h1, h2⟩ := h
  exact ⟨v, fun F hF hf => by rw [if_pos hw]; exact h1 F hF hf, h2⟩
theorem relSkip {w : World} {ks : List Told} {x : Nat → Value} {G a : Act} {i : Nat} {o : Oper} {l : List Oper} (hk : toldAt ks i = none) (hw : Region.wanted o (yielded ops a.tmps) = false)
    (h : relWalk P ops w ks x G (i + 1) l (a.put o.dst undef)) : relWalk P ops w ks x G i (o :: l) a := by
  rw [relWalk, hk]
  exact ⟨undef, fun F hF hf => by rw [if_neg (by rw [hw]; exact Bool.false_ne_true)], h⟩
theorem relTold {w : World} {ks : List Told} {x : Nat → Value} {G a : Act} {i : Nat} {o : Oper} {l : List Oper} {e : Told} (hk : toldAt ks i = some e) (hw : Region.wanted o (yielded ops a.tmps) = true)
    (h1 : ∀ F, Fam w F → Facts ops ks o x F → ∀ d, yieldsR P o a (F d) e.φ) (h2 : relWalk P ops w ks x G (i + 1) l (a.put (some e.t) (x e.k))) : relWalk P ops w ks x G i (o :: l) a := by
  rw [relWalk, hk]
  exact ⟨fun F hF hf => ⟨hw, h1 F hF hf⟩, h2⟩
/-- THE LAW: the first m operations read, call, or make memory; those that are told (ks) hand back what differs from world to world; the rest waits for all. -/
theorem rel {id : Nat} {a : Act} {w : World} {l : List Oper} (ks : List Told) (m n : Nat) (hm : P.follows .mixedOrders = true) (hn : a.tmps.size = n) (hl : l = ops.toList.take m) (hB : (flowB ops m m && lexOk ops n l) = true) (hK : toldB ops ks m n = true)
    (hφ : ∀ e, e ∈ ks → ∀ v W W', e.φ v W → Below W.heap.size W W' → e.φ v W')
    (h : ∃ G : (Nat → Value) → Act, (∀ x, relWalk P ops w ks x (G x) 0 l a) ∧ (∀ x, G x = putsK ks x (G fun _ => undef)) ∧
      ∀ W x, Below w.heap.size w W → (∀ e, e ∈ ks → e.φ (x e.k) W) → wpList P ops Q (ops.toList.drop m) (G x) W) : (Code.region id ops true).wp P Q a w := by
  obtain ⟨G, h1, h2, h3⟩ := h
  rw [Bool.and_eq_true] at hB
  have hB' := hB.1
  simp only [flowB, Bool.and_eq_true, decide_eq_true_eq] at hB'
  have hK2 := hK
  simp only [toldB, Bool.and_eq_true, decide_eq_true_eq] at hK2
  have hk : ∀ j e, toldAt ks (0 + j) = some e → ∀ o, l[j]? = some o → o.dst = some e.t := by
    intro j e he o ho
    obtain ⟨hek, hej⟩ := toldAt_some he
    have := List.all_eq_true.1 hK2.1.1 e hek
    simp only [Bool.and_eq_true, decide_eq_true_eq, beq_iff_eq] at this
    have hjm : j < m := by rw [Nat.zero_add] at hej; rw [← hej]; exact this.1.1
    rw [hl, List.getElem?_take_of_lt hjm] at ho
    have h4 := this.2
    rw [hej, Nat.zero_add, show ops[j]? = some o by simpa using ho] at h4
    exact h4
  have hsel : ∀ o, o ∈ l → ∀ cs b, o.op ≠ .select cs b := by
    intro o ho cs b
    rw [hl] at ho
    obtain ⟨j, hj, e⟩ := List.getElem_of_mem (List.mem_of_mem_take ho)
    exact Region.noSelect_spec hB'.1.1.1.2 j o cs b (by rw [← e]; simp at hj ⊢)
  have hsz : ∀ x, (G x).tmps.size = n := fun x => by rw [(rel_off l 0 a hk (h1 x)).1, hn]
  have off := rel_off l 0 a hk (h1 fun _ => undef)
  refine wp_region_any hm (rel_any (w := w) (ks := ks) (m := m) (n := n) (G := G) (G0 := G fun _ => undef) hB.1 hK hφ h2 (hsz _) (fun x i o hi ho => ?_) h3 _ _ _ _ (fun _ => undef) ?_ ⟨by simp, fun j _ hj => by simp [hj], off.1.symm, off.2.1.symm, fun t hc => ?_, ⟨rfl, rfl, rfl, Nat.le_refl _, fun _ _ => rfl⟩, fun e he hl => ?_, fun j o ho hl => ?_⟩)
  · have := rel_fit n l 0 a hn hsel hB.2 hk (h1 x) i o (by rw [hl, List.getElem?_take_of_lt hi]; simpa using ho)
    rw [Nat.zero_add] at this
    exact this
  · simp
  · refine (off.2.2 t fun hm' => ?_).symm
    obtain ⟨o, ho, hd⟩ := List.mem_filterMap.1 hm'
    rw [hl] at ho
    obtain ⟨j, hj, e⟩ := List.getElem_of_mem ho
    simp at hj e
    have hlt : j < ops.size := by omega
    have := hc j o (by omega) (by rw [Array.getElem?_eq_getElem hlt, e]) hd
    simp [hlt] at this
  · have := List.all_eq_true.1 hK2.1.1 e he
    simp only [Bool.and_eq_true, decide_eq_true_eq, beq_iff_eq] at this
    have hlt : e.k < ops.size := by have := this.1.1; omega
    simp [hlt] at hl
  · have hlt : j < ops.size := (Array.getElem?_eq_some_iff.1 ho).1
    simp [hlt] at hl
theorem relEnd {w : World} {ks : List Told} {x : Nat → Value} {G a : Act} {i : Nat} (h : a = G) : relWalk P ops w ks x G i [] a := h
end
end Go.Proofs.Ytbndiadgnglkhaa.Wd
