/- A region that draws its order, cut into segments: what stands behind a cut waits for all ahead of it; in a segment at most one operation writes what stood (a call of any kind), the others read, call or make memory; each segment is walked once, in the order of the text. -/
import Derived.Test.YthmpfdkbpdbhnaaFlow
namespace Go.Proofs.Ythmpfdkbpdbhnaa.Wd
open Go.RowKit
set_option linter.unusedVariables false
set_option linter.unusedSimpArgs false
section
variable {P : Program} {ops : Array Oper} {Q : Exit → Act → World → Prop}
/-- The first m of n have come up. -/
def upTo (n m : Nat) : Array Bool := Array.replicate m true ++ Array.replicate (n - m) false
theorem upTo_size {n m : Nat} (h : m ≤ n) : (upTo n m).size = n := by simp [upTo]; omega
theorem upTo_lt {n m j : Nat} (h : j < m) (b : Bool) : (upTo n m).getD j b = true := by
  simp [upTo, Array.getD_eq_getD_getElem?, Array.getElem?_append, h]
theorem upTo_ge {n m j : Nat} (h : m ≤ j) (hj : j < n) (b : Bool) : (upTo n m).getD j b = false := by
  simp [upTo, Array.getD_eq_getD_getElem?, Array.getElem?_append, Nat.not_lt.2 h, Array.getElem?_replicate]
  rw [if_pos (by omega)]
  rfl
theorem upTo_out {n m j : Nat} (h : m ≤ n) (hj : n ≤ j) (b : Bool) : (upTo n m).getD j b = b := by
  simp [upTo, Array.getD_eq_getD_getElem?, Array.getElem?_append, Nat.not_lt.2 (Nat.le_trans h hj), Array.getElem?_replicate]
  rw [if_neg (by omega)]
  rfl
theorem upTo_count {n m : Nat} (h : m ≤ n) : (upTo n m).toList.count false = n - m := by
  simp [upTo, List.count_replicate]
theorem upTo_eq {n m : Nat} {l : Array Bool} (hs : l.size = n) (hm : m ≤ n) (h1 : ∀ j, j < m → l.getD j false = true) (h2 : ∀ j, m ≤ j → j < n → l.getD j true = false) : l = upTo n m := by
  refine Array.ext (by rw [hs, upTo_size hm]) fun j hj hj' => ?_
  have hjn : j < n := by omega
  rcases Nat.lt_or_ge j m with c | c
  · have e1 := h1 j c
    have e2 := upTo_lt (n := n) c false
    simp only [Array.getD_eq_getD_getElem?, Array.getElem?_eq_getElem hj, Array.getElem?_eq_getElem hj', Option.getD_some] at e1 e2
    rw [e1, e2]
  · have e1 := h2 j c hjn
    have e2 := upTo_ge c hjn true
    simp only [Array.getD_eq_getD_getElem?, Array.getElem?_eq_getElem hj, Array.getElem?_eq_getElem hj', Option.getD_some] at e1 e2
    rw [e1, e2]
/-- The region from operation number m on, in any order that it may take. -/
def wpFrom (P : Program) (ops : Array Oper) (Q : Exit → Act → World → Prop) (m : Nat) (a : Act) (w : World) : Prop := wpAny P .any ops Q (ops.size - m) (upTo ops.size m) a w
theorem from_end {a : Act} {w : World} (m : Nat) (hm : m = ops.size) (h : Q .normal a w) : wpFrom P ops Q m a w := by
  subst hm
  unfold wpFrom
  rw [Nat.sub_self]
  refine ⟨List.eq_nil_iff_forall_not_mem.2 fun i hi => ?_, h⟩
  exact count_none (by rw [upTo_count (Nat.le_refl _), Nat.sub_self]) i (mem_ready.1 hi).1
theorem from_region {id : Nat} {a : Act} {w : World} (hm : P.follows .mixedOrders = true) (h : wpFrom P ops Q 0 a { w with drawn := w.drawn + 1 }) : (Code.region id ops true).wp P Q a w := by
  refine wp_region_any hm ?_
  unfold wpFrom at h
  have : upTo ops.size 0 = Array.replicate ops.size false := by simp [upTo]
  rw [this, Nat.sub_zero] at h
  exact h
/-- The rest is in the order of the text. -/
def tailB (ops : Array Oper) (m : Nat) : Bool :=
  decide (m ≤ ops.size) && ((List.range ops.size).all fun i => match ops[i]? with
    | none => false
    | some o => (o.after.all fun e => !Region.binds .any e || decide (e.on < i)) && (List.range i).all fun j => decide (j < m) || waits o j)
theorem from_list {a : Act} {w : World} (m : Nat) (hB : tailB ops m = true) (h : wpList P ops Q (ops.toList.drop m) a w) : wpFrom P ops Q m a w := by
  simp only [tailB, Bool.and_eq_true, decide_eq_true_eq] at hB
  obtain ⟨hm, hback⟩ := hB
  have hb : ∀ i o, ops[i]? = some o → ∀ e ∈ o.after, Region.binds .any e = true → e.on < i := by
    intro i o ho e he hbi
    have := List.all_eq_true.1 hback i (List.mem_range.2 (Array.getElem?_eq_some_iff.1 ho).1)
    simp only [ho, Bool.and_eq_true] at this
    have h1 := Array.all_eq_true_iff_forall_mem.1 this.1 e he
    simpa [hbi] using h1
  have hT : ∀ i o, ops[i]? = some o → ∀ j, m ≤ j → j < i → waits o j = true := by
    intro i o ho j hj hji
    have := List.all_eq_true.1 hback i (List.mem_range.2 (Array.getElem?_eq_some_iff.1 ho).1)
    simp only [ho, Bool.and_eq_true] at this
    have := List.all_eq_true.1 this.2 j (List.mem_range.2 hji)
    simp only [Bool.or_eq_true, decide_eq_true_eq] at this
    rcases this with h | h
    · omega
    · exact h
  exact tail_any hb hT _ m _ a w (upTo_size hm) (Nat.le_refl _) (upTo_count hm) (fun j hj => upTo_lt hj false) (fun j h1 h2 => upTo_ge h1 h2 true) h
/-- A family of worlds of a class, which holds with each world all that keep what stood in it. -/
structure FamC (C : World → Prop) (F : World → World) : Prop where
  cls : ∀ d, C (F d)
  on : ∀ d W, Below (F d).heap.size (F d) W → ∃ d', W = F d'
theorem famC_top {C : World → Prop} (hC : ∀ W W', C W → Below W.heap.size W W' → C W') {W : World} (h : C W) : FamC C (onTop W) :=
  ⟨fun d => hC _ _ h (onTop_below W d), fun d W' hb => of_below ((onTop_below W d).trans (hb.mono (onTop_below W d).size))⟩
theorem FamC.call {C : World → Prop} {F : World → World} (hF : FamC C F) {P : Program} {f : FuncId} {args : Array Value} {d : World} {v : Value}
    (h : Calls P f args (F d) fun e w' => e = .returned v ∧ Below (F d).heap.size (F d) w') : Calls P f args (F d) fun e w'' => e = .returned v ∧ ∃ d', w'' = F d' :=
  h.mono fun _ _ ⟨he, hb⟩ => ⟨he, hF.on d _ hb⟩
theorem FamC.same {C : World → Prop} {F : World → World} (hF : FamC C F) {P : Program} {f : FuncId} {args : Array Value} {d : World} {v : Value}
    (h : Calls P f args (F d) fun e w' => e = .returned v ∧ w' = F d) : Calls P f args (F d) fun e w'' => e = .returned v ∧ ∃ d', w'' = F d' :=
  h.mono fun _ _ ⟨he, hb⟩ => ⟨he, d, hb⟩
/-- The walk of a segment in the order of the text; operation number c is the one that may write (none, if c is not among the told). -/
def segWalk (P : Program) (ops : Array Oper) (C : Bool → World → Prop) (T : World → World → Prop) (c : Nat) (ks : List Told) (x : Nat → Value) (G : Act) : Nat → List Oper → Act → Prop
  | _, [], a => a = G
  | i, o :: l, a => match toldAt ks i with
    | none => ∃ v, (∀ b F, FamC (C b) F → Facts ops ks o x F → if Region.wanted o (yielded ops a.tmps) = true then ∀ K : Act → Prop, K (a.put o.dst v) → o.quiet P a (fun W => ∃ d, W = F d) K else v = undef) ∧ segWalk P ops C T c ks x G (i + 1) l (a.put o.dst v)
    | some e => (Region.wanted o (yielded ops a.tmps) = true ∧ (i ≠ c → ∀ b F, FamC (C b) F → Facts ops ks o x F → ∀ d, yieldsR P o a (F d) e.φ) ∧ (i = c → ∀ W, C false W → Facts ops ks o x (fun _ => W) → leavesR P o a W (fun v W' => e.φ v W' ∧ C true W' ∧ T W W'))) ∧ segWalk P ops C T c ks x G (i + 1) l (a.put (some e.t) (x e.k))
theorem put_out {a : Act} {t : Nat} {v : Value} (h : a.tmps.size ≤ t) : a.put (some t) v = a := by
  cases a
  simp only at h
  simp [Act.put, Array.setIfInBounds, Nat.not_lt.2 h]
/-- The slot that an operation writes; one beyond the frame's where it writes none (a store). -/
def dstOf (n : Nat) (o : Oper) (t : Tmp) : Prop := o.dst = some t ∨ (o.dst = none ∧ n ≤ t)
theorem dstOf.put {n : Nat} {o : Oper} {t : Tmp} (h : dstOf n o t) {a : Act} (hn : a.tmps.size = n) (v : Value) : a.put (some t) v = a.put o.dst v := by
  rcases h with h | ⟨h, h2⟩
  · rw [h]
  · rw [h, put_out (by omega)]
    rfl
theorem seg_off {C : Bool → World → Prop} {T : World → World → Prop} {c : Nat} {ks : List Told} {x : Nat → Value} {G : Act} {n : Nat} : ∀ (l : List Oper) (i : Nat) (a : Act), a.tmps.size = n → (∀ j e, toldAt ks (i + j) = some e → ∀ o, l[j]? = some o → dstOf n o e.t) → segWalk P ops C T c ks x G i l a →
    G.tmps.size = a.tmps.size ∧ G.defers = a.defers ∧ ∀ t, t ∉ dsts l → G.tmps[t]? = a.tmps[t]?
  | [], i, a, _, _, h => by
    obtain rfl : a = G := h
    exact ⟨rfl, rfl, fun _ _ => rfl⟩
  | o :: l, i, a, hn, hk, h => by
    obtain ⟨v, hv⟩ : ∃ v, segWalk P ops C T c ks x G (i + 1) l (a.put o.dst v) := by
      rw [segWalk] at h
      split at h
      · obtain ⟨v, _, h2⟩ := h
        exact ⟨v, h2⟩
      · rename_i e he
        have := hk 0 e he o rfl
        exact ⟨_, by rw [← this.put hn]; exact h.2⟩
    obtain ⟨h1, h2, h3⟩ := seg_off l (i + 1) _ (by rw [put_size]; exact hn) (fun j e he o ho => hk (j + 1) e (by rw [show i + (j + 1) = i + 1 + j by omega]; exact he) o (by simpa using ho)) hv
    refine ⟨by rw [h1, put_size], by rw [h2, put_defs], fun t ht => ?_⟩
    rw [h3 t (fun hm => ht (by
      obtain ⟨x, hx, hd⟩ := List.mem_filterMap.1 hm
      exact List.mem_filterMap.2 ⟨x, List.mem_cons_of_mem _ hx, hd⟩)), put_off (fun hd => ht (List.mem_filterMap.2 ⟨o, List.mem_cons_self, hd⟩))]
/-- What an operation yields in the last frame G. -/
def SegFit (P : Program) (ops : Array Oper) (C : Bool → World → Prop) (T : World → World → Prop) (c : Nat) (ks : List Told) (x : Nat → Value) (G : Act) (i : Nat) (o : Oper) : Prop :=
  match toldAt ks i with
    | none => ∀ b F, FamC (C b) F → Facts ops ks o x F → (Region.wanted o (yielded ops G.tmps) = true ∧ ∃ v, (∀ t, o.dst = some t → G.tmps[t]? = some v) ∧ ∀ d, o.quietAt P G (fun W => ∃ d, W = F d) (F d) v) ∨ (Region.wanted o (yielded ops G.tmps) = false ∧ ∀ t, o.dst = some t → G.tmps[t]? = some undef)
    | some e => Region.wanted o (yielded ops G.tmps) = true ∧ (i ≠ c → ∀ b F, FamC (C b) F → Facts ops ks o x F → ∀ d, yieldsR P o G (F d) e.φ) ∧ (i = c → ∀ W, C false W → Facts ops ks o x (fun _ => W) → leavesR P o G W (fun v W' => e.φ v W' ∧ C true W' ∧ T W W'))
theorem seg_fit {C : Bool → World → Prop} {T : World → World → Prop} {c : Nat} {ks : List Told} {x : Nat → Value} {G : Act} (n : Nat) : ∀ (l : List Oper) (i : Nat) (a : Act), a.tmps.size = n → (∀ o, o ∈ l → ∀ cs b, o.op ≠ .select cs b) → lexOk ops n l = true →
    (∀ j e, toldAt ks (i + j) = some e → ∀ o, l[j]? = some o → dstOf n o e.t) → segWalk P ops C T c ks x G i l a → ∀ j o, l[j]? = some o → SegFit P ops C T c ks x G (i + j) o
  | [], _, _, _, _, _, _, _, j, o, ho => by simp at ho
  | o :: l, i, a, hn, hs, hl, hk, h, j, p, hp => by
    have off := seg_off (o :: l) i a hn hk h
    rw [lexOk, Bool.and_eq_true, Bool.and_eq_true] at hl
    obtain ⟨⟨hd, hlook⟩, hl⟩ := hl
    have look : ∀ t, t ∈ o.looksAt ops → G.tmps[t]? = a.tmps[t]? := fun t ht => off.2.2 t (fun hm => by
      have := List.all_eq_true.1 hlook t hm
      simp at this
      exact this ht)
    have he := exec_same (ops := ops) (hs o List.mem_cons_self) look
    have hw := wanted_same look
    have hk' : ∀ j e, toldAt ks (i + 1 + j) = some e → ∀ o, l[j]? = some o → dstOf n o e.t := fun j e he o ho => hk (j + 1) e (by rw [show i + (j + 1) = i + 1 + j by omega]; exact he) o (by simpa using ho)
    have next : ∀ v, segWalk P ops C T c ks x G (i + 1) l (a.put o.dst v) → ∀ j p, (o :: l)[j + 1]? = some p → SegFit P ops C T c ks x G (i + (j + 1)) p := fun v hv j p hp => by
      have := seg_fit n l (i + 1) (a.put o.dst v) (by rw [put_size]; exact hn) (fun o ho => hs o (List.mem_cons_of_mem _ ho)) hl hk' hv j p (by simpa using hp)
      rw [show i + (j + 1) = i + 1 + j by omega]
      exact this
    have later : ∀ v, segWalk P ops C T c ks x G (i + 1) l (a.put o.dst v) → ∀ t, o.dst = some t → G.tmps[t]? = some v := by
      intro v hv t ht
      rw [ht] at hd hv
      simp at hd
      rw [(seg_off l (i + 1) _ (by rw [put_size]; exact hn) hk' hv).2.2 t hd.2, put_on (by rw [hn]; exact hd.1)]
    rw [segWalk] at h
    cases hc : toldAt ks i with
    | none =>
      rw [hc] at h
      obtain ⟨v, h1, h2⟩ := h
      cases j with
      | succ j => exact next v h2 j p hp
      | zero =>
        simp only [List.getElem?_cons_zero, Option.some.injEq] at hp
        subst hp
        unfold SegFit
        rw [Nat.add_zero, hc]
        intro b F hF hf
        have h3 := h1 b F hF hf
        by_cases c : Region.wanted o (yielded ops a.tmps) = true
        · rw [if_pos c] at h3
          obtain ⟨u, hu, hK⟩ := h3 (fun a' => a' = a.put o.dst v) rfl
          left
          refine ⟨hw.trans c, u, ?_, fun d => ?_⟩
          · intro t ht
            rw [later v h2 t ht]
            rw [ht] at hK hd
            simp at hd
            have e1 : (a.put (some t) u).tmps[t]? = (a.put (some t) v).tmps[t]? := congrArg (fun a => a.tmps[t]?) hK
            rw [put_on (by rw [hn]; exact hd.1), put_on (by rw [hn]; exact hd.1)] at e1
            exact e1.symm
          · have := hu _ ⟨d, rfl⟩
            unfold Oper.quietAt at *
            rw [he]
            exact this
        · rw [if_neg c] at h3
          right
          refine ⟨hw.trans (by simpa using c), fun t ht => ?_⟩
          rw [later v h2 t ht, h3]
    | some e =>
      rw [hc] at h
      have hde := hk 0 e hc o rfl
      cases j with
      | succ j => exact next (x e.k) (by rw [← hde.put hn]; exact h.2) j p hp
      | zero =>
        simp only [List.getElem?_cons_zero, Option.some.injEq] at hp
        subst hp
        unfold SegFit
        rw [Nat.add_zero, hc]
        obtain ⟨g1, g2, g3⟩ := h.1
        refine ⟨hw.trans g1, fun hne b F hF hf d => ?_, fun heq W hW hf => ?_⟩
        · have := g2 hne b F hF hf d
          unfold yieldsR at *
          rw [he]
          exact this
        · have := g3 heq W hW hf
          unfold leavesR at *
          rw [he]
          exact this
/-- The shape of the segment from k to m: what stands from m on waits for all of it. -/
def segB (ops : Array Oper) (k m : Nat) : Bool :=
  decide (m ≤ ops.size) && Region.noSelect ops &&
  ((List.range ops.size).all fun i => match ops[i]? with
    | none => false
    | some o => (o.after.all fun e => !Region.binds .any e || decide (e.on < i)) && (decide (i ≤ m) || (List.range i).any fun j => decide (m ≤ j) && waits o j)) &&
  (decide (ops.size ≤ m) || (List.range m).all fun j => decide (j < k) || (List.range (m + 1)).any fun n => decide (j < n) && match ops[n]? with
    | none => false
    | some o => waits o j) &&
  ((List.range m).all fun i => decide (i < k) || match ops[i]? with
    | none => false
    | some o => (List.range m).all fun j => decide (j < k) || match (ops[j]?).bind (·.dst) with
      | none => true
      | some t => (!(o.looksAt ops).contains t || waits o j) && (i == j || o.dst != some t))
/-- Each told operation is in the segment and writes the slot that it names; no two of them write one slot. -/
def toldS (ops : Array Oper) (ks : List Told) (k m n : Nat) : Bool :=
  (ks.all fun e => decide (k ≤ e.k) && decide (e.k < m) && (decide (e.t < n) && (((ops[e.k]?).bind (·.dst)) == some e.t) || decide (n ≤ e.t) && (((ops[e.k]?).bind (·.dst)) == none) && ops.toList.all fun o => !(o.looksAt ops).contains e.t)) && decide (ks.map (·.t)).Nodup && decide (ks.map (·.k)).Nodup
structure InvS (ops : Array Oper) (C : Bool → World → Prop) (c : Nat) (ks : List Told) (k m : Nat) (G : Act) (listed : Array Bool) (s : Act) (W : World) (x : Nat → Value) : Prop where
  size : listed.size = ops.size
  done : ∀ j, j < k → listed.getD j false = true
  head : ∀ j, m ≤ j → j < ops.size → listed.getD j true = false
  fsize : s.tmps.size = G.tmps.size
  fdef : s.defers = G.defers
  slot : ∀ t, (∀ j o, k ≤ j → j < m → ops[j]? = some o → o.dst = some t → listed.getD j false = true) → s.tmps[t]? = G.tmps[t]?
  cls : C (listed.getD c false) W
  told : ∀ e, e ∈ ks → listed.getD e.k false = true → e.φ (x e.k) W
  closed : ∀ j o, ops[j]? = some o → listed.getD j false = true → ∀ e ∈ o.after, Region.binds .any e = true → listed.getD e.on false = true
theorem InvS.all {C : Bool → World → Prop} {c : Nat} {W : World} {ks : List Told} {k m : Nat} {G s : Act} {listed : Array Bool} {x : Nat → Value} (hI : InvS ops C c ks k m G listed s W x) (h : ∀ j, j < m → listed.getD j false = true) : s = G := by
  have h1 : s.tmps = G.tmps := Array.ext_getElem? fun t => hI.slot t fun j _ _ hj _ _ => h j hj
  have h2 := hI.fdef
  cases s
  cases G
  simp only at h1 h2
  rw [h1, h2]
theorem seg_any {C : Bool → World → Prop} {T : World → World → Prop} {c : Nat} {ks : List Told} {k m n : Nat} {G : (Nat → Value) → Act} {G0 : Act} (hB : segB ops k m = true) (hK : toldS ops ks k m n = true) (hkm : k ≤ m)
    (hC : ∀ b W W', C b W → Below W.heap.size W W' → C b W')
    (hcc : (∃ e, e ∈ ks ∧ e.k = c) ∨ m ≤ c)
    (hφ : ∀ e, e ∈ ks → ∀ v W W', e.φ v W → Below W.heap.size W W' → e.φ v W')
    (hT : ∀ e, e ∈ ks → e.k ≠ c → ∀ v W W', e.φ v W → C false W → T W W' → e.φ v W')
    (hG : ∀ x, G x = putsK ks x G0) (hn : G0.tmps.size = n)
    (hfit : ∀ x i o, k ≤ i → i < m → ops[i]? = some o → SegFit P ops C T c ks x (G x) i o)
    (ht : ∀ W x, C (decide (c < m)) W → (∀ e, e ∈ ks → e.φ (x e.k) W) → wpFrom P ops Q m (G x) W) :
    ∀ (fuel : Nat) (listed : Array Bool) (s : Act) (W : World) (x : Nat → Value), listed.toList.count false = fuel → InvS ops C c ks k m (G x) listed s W x → wpAny P .any ops Q fuel listed s W := by
  simp only [segB, Bool.and_eq_true, decide_eq_true_eq] at hB
  obtain ⟨⟨⟨⟨hm, hsel⟩, hback⟩, hsink⟩, hX⟩ := hB
  simp only [toldS, Bool.and_eq_true, decide_eq_true_eq] at hK
  obtain ⟨⟨hK, hKt⟩, hKk⟩ := hK
  have hK' : ∀ e, e ∈ ks → (k ≤ e.k ∧ e.k < m) ∧ ((e.t < n ∧ (ops[e.k]?).bind (·.dst) = some e.t) ∨ ((n ≤ e.t ∧ (ops[e.k]?).bind (·.dst) = none) ∧ ∀ o, o ∈ ops → (o.looksAt ops).contains e.t = false)) := by
    intro e he
    have := List.all_eq_true.1 hK e he
    simp only [Bool.and_eq_true, Bool.or_eq_true, decide_eq_true_eq, beq_iff_eq] at this
    refine ⟨this.1, this.2.imp id fun h => ⟨h.1, fun o ho => ?_⟩⟩
    have := List.all_eq_true.1 h.2 o (Array.mem_toList_iff.2 ho)
    simpa using this
  have hb : ∀ i o, ops[i]? = some o → ∀ e ∈ o.after, Region.binds .any e = true → e.on < i := by
    intro i o ho e he hbi
    have := List.all_eq_true.1 hback i (List.mem_range.2 (Array.getElem?_eq_some_iff.1 ho).1)
    simp only [ho, Bool.and_eq_true] at this
    have h1 := Array.all_eq_true_iff_forall_mem.1 this.1 e he
    simpa [hbi] using h1
  have hT' : ∀ i o, ops[i]? = some o → m < i → ∃ j, m ≤ j ∧ j < i ∧ waits o j = true := by
    intro i o ho hj
    have := List.all_eq_true.1 hback i (List.mem_range.2 (Array.getElem?_eq_some_iff.1 ho).1)
    simp only [ho, Bool.and_eq_true] at this
    have := this.2
    simp only [Bool.or_eq_true, decide_eq_true_eq] at this
    rcases this with h | h
    · omega
    · obtain ⟨j, hj1, hj2⟩ := List.any_eq_true.1 h
      simp only [Bool.and_eq_true, decide_eq_true_eq] at hj2
      exact ⟨j, hj2.1, List.mem_range.1 hj1, hj2.2⟩
  have hS : m < ops.size → ∀ j, k ≤ j → j < m → ∃ n o, j < n ∧ n ≤ m ∧ ops[n]? = some o ∧ waits o j = true := by
    intro hlt j hkj hj
    rw [Bool.or_eq_true] at hsink
    rcases hsink with h | h
    · simp at h; omega
    · have h0 := List.all_eq_true.1 h j (List.mem_range.2 hj)
      rw [Bool.or_eq_true] at h0
      rcases h0 with h0 | h0
      · simp at h0; omega
      · obtain ⟨n, hk, h1⟩ := List.any_eq_true.1 h0
        simp only [Bool.and_eq_true, decide_eq_true_eq] at h1
        have hk' : n < ops.size := by have := List.mem_range.1 hk; omega
        have ho : ops[n]? = some ops[n] := Array.getElem?_eq_getElem hk'
        rw [ho] at h1
        exact ⟨n, _, h1.1, by have := List.mem_range.1 hk; omega, ho, h1.2⟩
  have hX' : ∀ i o, k ≤ i → i < m → ops[i]? = some o → ∀ j t, k ≤ j → j < m → (ops[j]?).bind (·.dst) = some t → (t ∈ o.looksAt ops → waits o j = true) ∧ (i ≠ j → o.dst ≠ some t) := by
    intro i o hki hi ho j t hkj hj hd
    have h0 := List.all_eq_true.1 hX i (List.mem_range.2 hi)
    rw [Bool.or_eq_true] at h0
    have h0 : _ := h0.resolve_left (by simp; omega)
    simp only [ho] at h0
    have h1 := List.all_eq_true.1 h0 j (List.mem_range.2 hj)
    rw [Bool.or_eq_true] at h1
    have this := h1.resolve_left (by simp; omega)
    simp only [hd, Bool.and_eq_true, Bool.or_eq_true, bne_iff_ne, beq_iff_eq, Bool.not_eq_true', List.contains_eq_mem, decide_eq_false_iff_not] at this
    refine ⟨fun hl => ?_, fun hne => ?_⟩
    · rcases this.1 with h | h
      · exact absurd hl h
      · exact h
    · rcases this.2 with h | h
      · exact absurd h hne
      · exact h
  have gsize : ∀ x, (G x).tmps.size = n := fun x => by rw [hG, putsK_size]; exact hn
  have gat : ∀ x e, e ∈ ks → e.t < n → (G x).tmps[e.t]? = some (x e.k) := fun x e he hlt => by
    rw [hG]
    exact putsK_at x ks G0 hKt e he (by rw [hn]; exact hlt)
  have finish : ∀ (listed : Array Bool) (s : Act) (W : World) (x : Nat → Value), InvS ops C c ks k m (G x) listed s W x → (∀ j, j < m → listed.getD j false = true) → wpAny P .any ops Q (listed.toList.count false) listed s W := by
    intro listed s W x hI hall
    have hs := hI.all hall
    have hl := upTo_eq hI.size hm hall hI.head
    have hcl : listed.getD c false = decide (c < m) := by
      rw [hl]
      rcases Nat.lt_or_ge c m with h | h
      · rw [upTo_lt h]; simp [h]
      · have : decide (c < m) = false := by simp; omega
        rw [this]
        rcases Nat.lt_or_ge c ops.size with h' | h'
        · exact upTo_ge h h' _
        · exact upTo_out hm h' _
    have h := ht W x (by rw [← hcl]; exact hI.cls) (fun e he => hI.told e he (hall _ (hK' e he).1.2))
    unfold wpFrom at h
    rw [hl, upTo_count hm, hs]
    exact h
  intro fuel
  induction fuel with
  | zero =>
    intro listed s W x hc hI
    have hall : ∀ j, j < m → listed.getD j false = true := fun j hj => listed_of (by rw [hI.size]; omega) (count_none hc j)
    have := finish listed s W x hI hall
    rw [hc] at this
    exact this
  | succ fuel ih =>
    intro listed s W x hc hI
    refine ⟨fun hr => by
      obtain ⟨i, hi⟩ := count_some hc
      exact absurd hr (first_ready hI.size hb i hi), fun i hi => ?_⟩
    obtain ⟨hun, o, ho, hall⟩ := mem_ready.1 hi
    have hilt : i < ops.size := (Array.getElem?_eq_some_iff.1 ho).1
    have hki : k ≤ i := by
      rcases Nat.lt_or_ge i k with h | h
      · have h1 := hI.done i h
        have h2 := (unlisted hun).2
        rw [h1] at h2; cases h2
      · exact h
    rcases Nat.lt_or_ge i m with him | him
    · have look : ∀ t, t ∈ o.looksAt ops → s.tmps[t]? = (G x).tmps[t]? := fun t htl =>
        hI.slot t fun j oj hkj hj hoj hd => waits_listed ((hX' i o hki him ho j t hkj hj (by rw [hoj]; exact hd)).1 htl) hall
      have he := exec_same (ops := ops) (Region.noSelect_spec hsel i o · · ho) look
      have hwt := wanted_same look
      have told_at : ∀ e, e ∈ ks → (o.looksAt ops).contains e.t = true → listed.getD e.k false = true := fun e hek htl => by
        obtain ⟨h1, ⟨_, h3⟩ | h3⟩ := hK' e hek
        · exact waits_listed ((hX' i o hki him ho e.k e.t h1.1 h1.2 h3).1 (by simpa using htl)) hall
        · have := h3.2 o (Array.mem_of_getElem? ho)
          rw [htl] at this
          cases this
      have facts : Facts ops ks o x (onTop W) := fun e hek htl d => hφ e hek _ _ _ (hI.told e hek (told_at e hek htl)) (onTop_below W d)
      have fit := hfit x i o hki him ho
      unfold SegFit at fit
      have fam := famC_top (hC (listed.getD c false)) hI.cls
      obtain ⟨d0, hd0⟩ := of_below (Below.refl W.heap.size W)
      have other : ∀ e, e ∈ ks → e.k ≠ i → (listed.setIfInBounds i true).getD e.k false = true → listed.getD e.k false = true := fun e _ hne h => by
        rw [getD_set_ne false (Ne.symm hne)] at h; exact h
      have done' : ∀ j, j < k → (listed.setIfInBounds i true).getD j false = true := fun j hj => by rw [getD_set_ne false (by omega)]; exact hI.done j hj
      unfold wpOp
      simp only [ho]
      cases hc1 : toldAt ks i with
      | none =>
        rw [hc1] at fit
        have fit := fit _ _ fam facts
        have hnk := toldAt_none hc1
        have hic : i ≠ c := by
          rcases hcc with ⟨e, he1, he2⟩ | h
          · rw [← he2]; exact fun h => hnk e he1 h.symm
          · omega
        have next : ∀ (v : Value) (W' : World), (∀ t, o.dst = some t → (G x).tmps[t]? = some v) → Below W.heap.size W W' → wpAny P .any ops Q fuel (listed.setIfInBounds i true) (s.put o.dst v) W' := by
          intro v W' hv hbW
          refine ih _ _ W' x (count_listed hun hc) ⟨by simpa using hI.size, done', fun j hj hj' => by rw [getD_set_ne true (by omega)]; exact hI.head j hj hj', by rw [put_size]; exact hI.fsize, by rw [put_defs]; exact hI.fdef, fun t hcond => ?_, by rw [getD_set_ne false hic]; exact hC _ _ _ hI.cls hbW, fun e hek hl => hφ e hek _ _ _ (hI.told e hek (other e hek (hnk e hek) hl)) hbW, closed_set ho hall hI.closed⟩
          by_cases hd : o.dst = some t
          · rw [hv t hd, hd]
            exact put_on (by rw [hI.fsize]; exact (Array.getElem?_eq_some_iff.1 (hv t hd)).1)
          · rw [put_off hd]
            refine hI.slot t fun j oj hkj hj hoj hdj => ?_
            have := hcond j oj hkj hj hoj hdj
            by_cases c : i = j
            · subst c
              rw [ho] at hoj
              cases hoj
              exact absurd hdj hd
            · rw [getD_set_ne false c] at this
              exact this
        rcases fit with ⟨hw, v, hv, hq⟩ | ⟨hw, hu⟩
        · rw [if_pos (hwt.trans hw)]
          left
          have hq := hq d0
          rw [← hd0] at hq
          unfold Oper.wp
          unfold Oper.quietAt at hq
          rw [he]
          generalize (execOp (G x).eval o).run P W = r at hq
          cases r with
          | halt x w' => exact hq.elim
          | ok n w' =>
            cases n <;> simp only [Oper.quietUpon] at hq <;> simp only [Oper.upon]
            case value u =>
              obtain ⟨e1, e2⟩ := hq
              rw [e1, e2]
              exact next v W hv (Below.refl _ _)
            case skip =>
              obtain ⟨e1, e2⟩ := hq
              rw [e1, ← e2]
              exact next v W hv (Below.refl _ _)
            case enter f args =>
              obtain ⟨e1, hc⟩ := hq
              rw [e1]
              exact hc.mono fun e w'' ⟨he, d, hw''⟩ => by subst he; rw [hw'']; exact next v _ hv (onTop_below W d)
        · rw [if_neg (by rw [hwt, hw]; exact Bool.false_ne_true)]
          exact next undef W hu (Below.refl _ _)
      | some e =>
        rw [hc1] at fit
        obtain ⟨hek, hei⟩ := toldAt_some hc1
        subst hei
        have hod : (e.t < n ∧ o.dst = some e.t) ∨ (n ≤ e.t ∧ o.dst = none) := by
          have := (hK' e hek).2
          rw [ho] at this
          exact this.imp id fun h => h.1
        have uniq : ∀ e', e' ∈ ks → e'.k = e.k → e' = e := fun e' he' hk => by
          have h1 := toldAt_mem ks hKk e' he'
          rw [hk, hc1] at h1
          exact (Option.some.inj h1).symm
        have next : ∀ (v : Value) (W' : World), e.φ v W' → C ((listed.setIfInBounds e.k true).getD c false) W' → (∀ e', e' ∈ ks → e'.k ≠ e.k → ∀ u, listed.getD e'.k false = true → e'.φ u W → e'.φ u W') → wpAny P .any ops Q fuel (listed.setIfInBounds e.k true) (s.put o.dst v) W' := by
          intro v W' hv hcls hkeep
          refine ih _ _ W' (upd x e.k v) (count_listed hun hc) ⟨by simpa using hI.size, done', fun j hj hj' => by rw [getD_set_ne true (by omega)]; exact hI.head j hj hj', by rw [put_size, hI.fsize, gsize, gsize], by rw [put_defs, hI.fdef, hG, hG, putsK_defs, putsK_defs], fun t hcond => ?_, hcls, fun e' hek' hl => ?_, closed_set ho hall hI.closed⟩
          · by_cases hd : o.dst = some t
            · rw [hd]
              rcases hod with ⟨hlt, hod⟩ | ⟨_, hod⟩
              case inr => rw [hod] at hd; cases hd
              obtain rfl : e.t = t := by rw [hod] at hd; exact Option.some.inj hd
              rw [gat _ e hek hlt, put_on (by rw [hI.fsize, gsize]; exact hlt)]
              show some v = some (if e.k = e.k then v else x e.k)
              rw [if_pos rfl]
            · by_cases hnt : n ≤ t
              · rw [put_off hd, Array.getElem?_eq_none (by rw [hI.fsize, gsize]; exact hnt), Array.getElem?_eq_none (by rw [gsize]; exact hnt)]
              rw [put_off hd, hG, putsK_upd x e.k v t ks G0 G0 rfl rfl (fun e' he' hk' hh => by
                have hh2 : e.t = t := by rw [← uniq e' he' hk']; exact hh
                rcases hod with ⟨_, hod⟩ | ⟨hge, _⟩
                · exact hd (by rw [hod, hh2])
                · exact hnt (hh2 ▸ hge)), ← hG]
              refine hI.slot t fun j oj hkj hj hoj hdj => ?_
              have := hcond j oj hkj hj hoj hdj
              by_cases c : e.k = j
              · subst c
                rw [ho] at hoj
                cases hoj
                exact absurd hdj hd
              · rw [getD_set_ne false c] at this
                exact this
          · by_cases c : e'.k = e.k
            · obtain rfl := uniq e' hek' c
              show e'.φ (if e'.k = e'.k then v else x e'.k) W'
              rw [if_pos rfl]
              exact hv
            · show e'.φ (if e'.k = e.k then v else x e'.k) W'
              rw [if_neg c]
              have hl' := other e' hek' c hl
              exact hkeep e' hek' c _ hl' (hI.told e' hek' hl')
        obtain ⟨hw, hy, hz⟩ := fit
        rw [if_pos (hwt.trans hw)]
        left
        by_cases hec : e.k = c
        · have hcl : listed.getD c false = false := by rw [← hec]; exact (unlisted hun).2
          have hcs := hI.cls
          rw [hcl] at hcs
          have hy := hz hec W hcs (fun e' hek' htl _ => hI.told e' hek' (told_at e' hek' htl))
          have hc2 : (listed.setIfInBounds e.k true).getD c false = true := by
            rw [hec] at hun ⊢
            have := (unlisted hun).1
            simp [this]
          have next' : ∀ (v : Value) (W' : World), (e.φ v W' ∧ C true W' ∧ T W W') → wpAny P .any ops Q fuel (listed.setIfInBounds e.k true) (s.put o.dst v) W' := fun v W' ⟨h1, h2, h3⟩ =>
            next v W' h1 (by rw [hc2]; exact h2) (fun e' he' hne u _ hu => hT e' he' (by rw [← hec]; exact hne) u W W' hu hcs h3)
          unfold Oper.wp
          unfold leavesR at hy
          rw [he]
          generalize (execOp (G x).eval o).run P W = r at hy
          cases r with
          | halt x w' => exact hy.elim
          | ok n w' =>
            cases n <;> simp only [leavesUpon] at hy <;> simp only [Oper.upon]
            case value u => exact next' u w' hy
            case skip => exact next' undef w' hy
            case enter f args =>
              obtain ⟨e1, hc⟩ := hy
              rw [e1]
              exact hc.mono fun e' w'' ⟨v, he', h1⟩ => by subst he'; exact next' v w'' h1
        · have hy := hy hec _ _ fam facts d0
          rw [← hd0] at hy
          have next' : ∀ (v : Value) (W' : World), e.φ v W' → Below W.heap.size W W' → wpAny P .any ops Q fuel (listed.setIfInBounds e.k true) (s.put o.dst v) W' := fun v W' h1 h2 =>
            next v W' h1 (by rw [getD_set_ne false hec]; exact hC _ _ _ hI.cls h2) (fun e' he' _ u _ hu => hφ e' he' u W W' hu h2)
          unfold Oper.wp
          unfold yieldsR at hy
          rw [he]
          generalize (execOp (G x).eval o).run P W = r at hy
          cases r with
          | halt x w' => exact hy.elim
          | ok n w' =>
            cases n <;> simp only [yieldsUpon] at hy <;> simp only [Oper.upon]
            case value u => exact next' u w' hy.1 hy.2
            case skip => exact next' undef w' hy.1 hy.2
            case enter f args =>
              obtain ⟨e1, hc⟩ := hy
              rw [e1]
              exact hc.mono fun e' w'' ⟨v, he', h1, h2⟩ => by subst he'; exact next' v w'' h1 h2
    · obtain rfl : i = m := by
        rcases Nat.lt_or_ge m i with c | c
        · obtain ⟨j, h0, h1, h2⟩ := hT' i o ho c
          have h3 := waits_listed h2 hall
          have h4 := (unlisted (hI.head j h0 (by omega))).2
          rw [h3] at h4; cases h4
        · omega
      have hl : ∀ d j, i - j = d → k ≤ j → j < i → listed.getD j false = true := by
        intro d
        induction d using Nat.strongRecOn with
        | _ d ihd =>
          intro j hd hkj hj
          obtain ⟨n, on, hjn, hn, hon, hwn⟩ := hS hilt j hkj hj
          rcases Nat.lt_or_ge n i with c | c
          · have := ihd (i - n) (by omega) n rfl (by omega) c
            exact waits_listed hwn (hI.closed n on hon this)
          · obtain rfl : n = i := by omega
            rw [ho] at hon
            cases hon
            exact waits_listed hwn hall
      have hl' : ∀ j, j < i → listed.getD j false = true := fun j hj => by
        rcases Nat.lt_or_ge j k with c | c
        · exact hI.done j c
        · exact hl (i - j) j rfl c hj
      have h := finish listed s W x hI hl'
      rw [hc] at h
      exact h.2 i hi
/-- THE LAW of one segment, from k to m. -/
theorem seg {a : Act} {w : World} {l : List Oper} (C : Bool → World → Prop) (T : World → World → Prop) (c : Nat) (ks : List Told) (k m n : Nat) (hn : a.tmps.size = n) (hl : l = (ops.toList.drop k).take (m - k)) (hB : (decide (k ≤ m) && segB ops k m && lexOk ops n l) = true) (hK : toldS ops ks k m n = true)
    (hC : ∀ b W W', C b W → Below W.heap.size W W' → C b W') (hw : C false w)
    (hcc : (∃ e, e ∈ ks ∧ e.k = c) ∨ m ≤ c)
    (hφ : ∀ e, e ∈ ks → ∀ v W W', e.φ v W → Below W.heap.size W W' → e.φ v W')
    (hT : ∀ e, e ∈ ks → e.k ≠ c → ∀ v W W', e.φ v W → C false W → T W W' → e.φ v W')
    (h : ∃ G : (Nat → Value) → Act, (∀ x, segWalk P ops C T c ks x (G x) k l a) ∧ (∀ x, G x = putsK ks x (G fun _ => undef)) ∧
      ∀ W x, C (decide (c < m)) W → (∀ e, e ∈ ks → e.φ (x e.k) W) → wpFrom P ops Q m (G x) W) : wpFrom P ops Q k a w := by
  obtain ⟨G, h1, h2, h3⟩ := h
  simp only [Bool.and_eq_true, decide_eq_true_eq] at hB
  obtain ⟨⟨hkm, hB1⟩, hlex⟩ := hB
  have hB' := hB1
  simp only [segB, Bool.and_eq_true, decide_eq_true_eq] at hB'
  have hms := hB'.1.1.1.1
  have hK2 := hK
  simp only [toldS, Bool.and_eq_true, decide_eq_true_eq] at hK2
  have hKe : ∀ e, e ∈ ks → k ≤ e.k ∧ e.k < m := fun e hek => by
    have := List.all_eq_true.1 hK2.1.1 e hek
    simp only [Bool.and_eq_true, Bool.or_eq_true, decide_eq_true_eq, beq_iff_eq] at this
    exact this.1
  have at_ : ∀ j, k + j < m → l[j]? = ops[k + j]? := by
    intro j hj
    rw [hl, List.getElem?_take_of_lt (by omega), List.getElem?_drop]
    simp
  have hk : ∀ j e, toldAt ks (k + j) = some e → ∀ o, l[j]? = some o → dstOf n o e.t := by
    intro j e he o ho
    obtain ⟨hek, hej⟩ := toldAt_some he
    have := List.all_eq_true.1 hK2.1.1 e hek
    simp only [Bool.and_eq_true, Bool.or_eq_true, decide_eq_true_eq, beq_iff_eq] at this
    rw [at_ j (by rw [← hej]; exact this.1.2)] at ho
    have h4 := this.2
    rw [hej, ho] at h4
    exact h4.imp (fun h => h.2) fun h => ⟨h.1.2, h.1.1⟩
  have hsel : ∀ o, o ∈ l → ∀ cs b, o.op ≠ .select cs b := by
    intro o ho cs b
    rw [hl] at ho
    obtain ⟨j, hj, e⟩ := List.getElem_of_mem (List.mem_of_mem_drop (List.mem_of_mem_take ho))
    exact Region.noSelect_spec hB'.1.1.1.2 j o cs b (by rw [← e]; simp at hj ⊢)
  have hsz : ∀ x, (G x).tmps.size = n := fun x => by rw [(seg_off l k a hn hk (h1 x)).1, hn]
  have off := seg_off l k a hn hk (h1 fun _ => undef)
  unfold wpFrom
  refine seg_any (C := C) (T := T) (c := c) (ks := ks) (k := k) (m := m) (n := n) (G := G) (G0 := G fun _ => undef) hB1 hK hkm hC hcc hφ hT h2 (hsz _) (fun x i o hki hi ho => ?_) h3 _ _ _ _ (fun _ => undef) ?_ ⟨upTo_size (Nat.le_trans hkm hms), fun j hj => upTo_lt hj _, fun j hj hj' => upTo_ge (Nat.le_trans hkm hj) hj' _, off.1.symm, off.2.1.symm, fun t hc => ?_, ?_, fun e he hl => ?_, fun j o ho hl e he hbi => ?_⟩
  · have := seg_fit n l k a hn hsel hlex hk (h1 x) (i - k) o (by rw [at_ (i - k) (by omega), show k + (i - k) = i by omega]; exact ho)
    rw [show k + (i - k) = i by omega] at this
    exact this
  · exact upTo_count (Nat.le_trans hkm hms)
  · refine (off.2.2 t fun hm' => ?_).symm
    obtain ⟨o, ho, hd⟩ := List.mem_filterMap.1 hm'
    obtain ⟨j, hj, e⟩ := List.getElem_of_mem ho
    have hjl : j < m - k := by rw [hl] at hj; simp at hj; omega
    have ho' : ops[k + j]? = some o := by rw [← at_ j (by omega), List.getElem?_eq_getElem hj, e]
    have hlt : k + j < ops.size := (Array.getElem?_eq_some_iff.1 ho').1
    have := hc (k + j) o (by omega) (by omega) ho' hd
    rw [upTo_ge (by omega) hlt] at this
    cases this
  · have : (upTo ops.size k).getD c false = false := by
      have hkc : k ≤ c := by
        rcases hcc with ⟨e, he1, he2⟩ | h
        · rw [← he2]; exact (hKe e he1).1
        · omega
      rcases Nat.lt_or_ge c ops.size with h | h
      · exact upTo_ge hkc h _
      · exact upTo_out (Nat.le_trans hkm hms) h _
    rw [this]
    exact hw
  · obtain ⟨h4, h5⟩ := hKe e he
    rw [upTo_ge h4 (by omega)] at hl
    cases hl
  · have hlt : j < ops.size := (Array.getElem?_eq_some_iff.1 ho).1
    have hjk : j < k := by
      rcases Nat.lt_or_ge j k with h | h
      · exact h
      · rw [upTo_ge h hlt] at hl; cases hl
    have h6 := List.all_eq_true.1 hB'.1.1.2 j (List.mem_range.2 hlt)
    simp only [ho, Bool.and_eq_true] at h6
    have h7 := Array.all_eq_true_iff_forall_mem.1 h6.1 e he
    have h8 : e.on < j := by simpa [hbi] using h7
    exact upTo_lt (by omega) _
/-- The same where nothing that stood is written. -/
theorem segR {a : Act} {w : World} {l : List Oper} (C : World → Prop) (ks : List Told) (k m n : Nat) (hn : a.tmps.size = n) (hl : l = (ops.toList.drop k).take (m - k)) (hB : (decide (k ≤ m) && segB ops k m && lexOk ops n l) = true) (hK : toldS ops ks k m n = true)
    (hC : ∀ W W', C W → Below W.heap.size W W' → C W') (hw : C w)
    (hφ : ∀ e, e ∈ ks → ∀ v W W', e.φ v W → Below W.heap.size W W' → e.φ v W')
    (h : ∃ G : (Nat → Value) → Act, (∀ x, segWalk P ops (fun _ => C) (fun _ _ => False) m ks x (G x) k l a) ∧ (∀ x, G x = putsK ks x (G fun _ => undef)) ∧
      ∀ W x, C W → (∀ e, e ∈ ks → e.φ (x e.k) W) → wpFrom P ops Q m (G x) W) : wpFrom P ops Q k a w :=
  seg (fun _ => C) (fun _ _ => False) m ks k m n hn hl hB hK (fun _ => hC) hw (.inr (Nat.le_refl _)) hφ (fun _ _ _ _ _ _ _ _ h => h.elim) h
theorem segQuiet {C : Bool → World → Prop} {T : World → World → Prop} {c : Nat} {ks : List Told} {x : Nat → Value} {G a : Act} {i : Nat} {o : Oper} {l : List Oper} (hk : toldAt ks i = none) (hw : Region.wanted o (yielded ops a.tmps) = true)
    (h : ∃ v, (∀ b F, FamC (C b) F → Facts ops ks o x F → ∀ K : Act → Prop, K (a.put o.dst v) → o.quiet P a (fun W => ∃ d, W = F d) K) ∧ segWalk P ops C T c ks x G (i + 1) l (a.put o.dst v)) : segWalk P ops C T c ks x G i (o :: l) a := by
  rw [segWalk, hk]
  obtain ⟨v, h1, h2⟩ := h
  exact ⟨v, fun b F hF hf => by rw [if_pos hw]; exact h1 b F hF hf, h2⟩
theorem segSkip {C : Bool → World → Prop} {T : World → World → Prop} {c : Nat} {ks : List Told} {x : Nat → Value} {G a : Act} {i : Nat} {o : Oper} {l : List Oper} (hk : toldAt ks i = none) (hw : Region.wanted o (yielded ops a.tmps) = false)
    (h : segWalk P ops C T c ks x G (i + 1) l (a.put o.dst undef)) : segWalk P ops C T c ks x G i (o :: l) a := by
  rw [segWalk, hk]
  exact ⟨undef, fun b F hF hf => by rw [if_neg (by rw [hw]; exact Bool.false_ne_true)], h⟩
theorem segTold {C : Bool → World → Prop} {T : World → World → Prop} {c : Nat} {ks : List Told} {x : Nat → Value} {G a : Act} {i : Nat} {o : Oper} {l : List Oper} {e : Told} (hk : toldAt ks i = some e) (hi : i ≠ c) (hw : Region.wanted o (yielded ops a.tmps) = true)
    (h1 : ∀ b F, FamC (C b) F → Facts ops ks o x F → ∀ d, yieldsR P o a (F d) e.φ) (h2 : segWalk P ops C T c ks x G (i + 1) l (a.put (some e.t) (x e.k))) : segWalk P ops C T c ks x G i (o :: l) a := by
  rw [segWalk, hk]
  exact ⟨⟨hw, fun _ => h1, fun h => absurd h hi⟩, h2⟩
theorem segBusy {C : Bool → World → Prop} {T : World → World → Prop} {c : Nat} {ks : List Told} {x : Nat → Value} {G a : Act} {i : Nat} {o : Oper} {l : List Oper} {e : Told} (hk : toldAt ks i = some e) (hi : i = c) (hw : Region.wanted o (yielded ops a.tmps) = true)
    (h1 : ∀ W, C false W → Facts ops ks o x (fun _ => W) → leavesR P o a W (fun v W' => e.φ v W' ∧ C true W' ∧ T W W')) (h2 : segWalk P ops C T c ks x G (i + 1) l (a.put (some e.t) (x e.k))) : segWalk P ops C T c ks x G i (o :: l) a := by
  rw [segWalk, hk]
  exact ⟨⟨hw, fun h => absurd hi h, fun _ => h1⟩, h2⟩
theorem segStore {C : Bool → World → Prop} {T : World → World → Prop} {c : Nat} {ks : List Told} {x : Nat → Value} {G a : Act} {i : Nat} {o : Oper} {l : List Oper} {e : Told} (hk : toldAt ks i = some e) (hi : i = c) (hw : Region.wanted o (yielded ops a.tmps) = true) (hout : a.tmps.size ≤ e.t)
    (h1 : ∀ W, C false W → Facts ops ks o x (fun _ => W) → leavesR P o a W (fun v W' => e.φ v W' ∧ C true W' ∧ T W W')) (h2 : segWalk P ops C T c ks x G (i + 1) l a) : segWalk P ops C T c ks x G i (o :: l) a := by
  rw [segWalk, hk]
  exact ⟨⟨hw, fun h => absurd hi h, fun _ => h1⟩, by rw [put_out hout]; exact h2⟩
theorem segEnd {C : Bool → World → Prop} {T : World → World → Prop} {c : Nat} {ks : List Told} {x : Nat → Value} {G a : Act} {i : Nat} (h : a = G) : segWalk P ops C T c ks x G i [] a := h
end
end Go.Proofs.Ythmpfdkbpdbhnaa.Wd
