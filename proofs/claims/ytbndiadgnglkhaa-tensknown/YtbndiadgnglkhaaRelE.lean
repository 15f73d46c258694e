/- The law of Rel.lean, where one operation (number i0) hands back a value in whatever world, and the rest need not wait for it: it is taken as soon as it may come up. Nothing of the program is named here. -/
import Derived.Test.YtbndiadgnglkhaaRel
namespace Go.Proofs.Ytbndiadgnglkhaa.Wd
open Go.RowKit
set_option linter.unusedVariables false
set_option linter.unusedSimpArgs false
section
variable {P : Program} {ops : Array Oper} {Q : Exit → Act → World → Prop}
def flowE (ops : Array Oper) (i0 m : Nat) : Bool :=
  decide (m ≤ ops.size) && Region.noSelect ops &&
  ((List.range ops.size).all fun i => match ops[i]? with
    | none => false
    | some o => (o.after.all fun e => !Region.binds .any e || decide (e.on < i)) && (List.range i).all fun j => decide (j < m) || waits o j) &&
  (decide (ops.size ≤ m) || (List.range m).all fun j => decide (j = i0) || (List.range (m + 1)).any fun k => decide (j < k) && decide (k ≠ i0) && match ops[k]? with
    | none => false
    | some o => waits o j) &&
  ((List.range m).all fun i => match ops[i]? with
    | none => false
    | some o => (List.range m).all fun j => match (ops[j]?).bind (·.dst) with
      | none => true
      | some t => (!(o.looksAt ops).contains t || (waits o j && j != m)) && (i == j || o.dst != some t))
def apartB (ops : Array Oper) (i0 : Nat) : Bool := (List.range ops.size).all fun j => j == i0 || match ops[j]?, ops[i0]? with
  | some oj, some o0 => waits o0 j || waits oj i0 || o0.apart ops oj
  | _, _ => false
theorem apart_of {i0 : Nat} {o0 : Oper} (ho0 : ops[i0]? = some o0) (h : apartB ops i0 = true) : ∀ j oj, ops[j]? = some oj → j ≠ i0 → waits o0 j = false → waits oj i0 = false → o0.apart ops oj = true := by
  intro j oj hj hne hw0 hw
  have h1 := List.all_eq_true.1 h j (List.mem_range.2 (Array.getElem?_eq_some_iff.1 hj).1)
  simp only [hj, ho0, hw0, hw, Bool.false_or, Bool.or_eq_true, beq_iff_eq, hne, false_or] at h1
  exact h1
theorem relE_any {w : World} {ks : List Told} {m n : Nat} {G : (Nat → Value) → Act} {G0 : Act} (i0 : Nat) (o0 : Oper) (ho0 : ops[i0]? = some o0) (hi0 : i0 < m) (hnt : toldAt ks i0 = none) (hB : flowE ops i0 m = true) (hAp : ∀ j oj, ops[j]? = some oj → j ≠ i0 → waits o0 j = false → waits oj i0 = false → o0.apart ops oj = true)
    (hQ : ∀ c a w v, Q (.panic c) (a.put o0.dst v) w → Q (.panic c) a w)
    (hY : ∀ x, (∀ e, e ∈ ks → (o0.looksAt ops).contains e.t = true → ∃ W, e.φ (x e.k) W) → ∃ v, (∀ t, o0.dst = some t → (G x).tmps[t]? = some v) ∧ Yields P ops o0 v (G x)) (hK : toldB ops ks m n = true)
    (hφ : ∀ e, e ∈ ks → ∀ v W W', e.φ v W → Below W.heap.size W W' → e.φ v W') (hG : ∀ x, G x = putsK ks x G0) (hn : G0.tmps.size = n)
    (hfit : ∀ x i o, i < m → ops[i]? = some o → RelFit P ops w ks x (G x) i o)
    (ht : ∀ W x, Below w.heap.size w W → (∀ e, e ∈ ks → e.φ (x e.k) W) → wpList P ops Q (ops.toList.drop m) (G x) W) :
    ∀ (fuel : Nat) (listed : Array Bool) (s : Act) (W : World) (x : Nat → Value), listed.toList.count false = fuel → InvR ops w ks m (G x) listed s W x → wpAny P .any ops Q fuel listed s W := by
  simp only [flowE, Bool.and_eq_true, decide_eq_true_eq] at hB
  obtain ⟨⟨⟨⟨hm, hsel⟩, hback⟩, hsink⟩, hX⟩ := hB
  simp only [toldB, Bool.and_eq_true, decide_eq_true_eq] at hK
  obtain ⟨⟨hK, hKt⟩, hKk⟩ := hK
  have hK' : ∀ e, e ∈ ks → e.k < m ∧ e.t < n ∧ (ops[e.k]?).bind (·.dst) = some e.t := by
    intro e he
    have := List.all_eq_true.1 hK e he
    simp only [Bool.and_eq_true, decide_eq_true_eq, beq_iff_eq] at this
    exact ⟨this.1.1, this.1.2, this.2⟩
  have hb : ∀ i o, ops[i]? = some o → ∀ e ∈ o.after, Region.binds .any e = true → e.on < i := by
    intro i o ho e he hbi
    have := List.all_eq_true.1 hback i (List.mem_range.2 (Array.getElem?_eq_some_iff.1 ho).1)
    simp only [ho, Bool.and_eq_true] at this
    have h1 := Array.all_eq_true_iff_forall_mem.1 this.1 e he
    simpa [hbi] using h1
  have hT : ∀ i o, ops[i]? = some o → ∀ j, m ≤ j → j < i → waits o j = true := by
    intro i o ho j hj hji
    have := List.all_eq_true.1 hback i (List.mem_range.2 (Array.getElem?_eq_some_iff.1 ho).1)
    simp only [ho, Bool.and_eq_true] at this
    have := List.all_eq_true.1 this.2 j (List.mem_range.2 hji)
    simp only [Bool.or_eq_true, decide_eq_true_eq] at this
    rcases this with h | h
    · omega
    · exact h
  have hS : m < ops.size → ∀ j, j < m → j ≠ i0 → ∃ k o, j < k ∧ k ≤ m ∧ k ≠ i0 ∧ ops[k]? = some o ∧ waits o j = true := by
    intro hlt j hj hji0
    rw [Bool.or_eq_true] at hsink
    rcases hsink with h | h
    · simp at h; omega
    · have h0 := List.all_eq_true.1 h j (List.mem_range.2 hj)
      rw [Bool.or_eq_true] at h0
      have h0 := h0.resolve_left (by simpa using hji0)
      obtain ⟨k, hk, h1⟩ := List.any_eq_true.1 h0
      simp only [Bool.and_eq_true, decide_eq_true_eq] at h1
      have hk' : k < ops.size := by have := List.mem_range.1 hk; omega
      have ho : ops[k]? = some ops[k] := Array.getElem?_eq_getElem hk'
      rw [ho] at h1
      exact ⟨k, _, h1.1.1, by have := List.mem_range.1 hk; omega, h1.1.2, ho, h1.2⟩
  have hX' : ∀ i o, i < m → ops[i]? = some o → ∀ j t, j < m → (ops[j]?).bind (·.dst) = some t → (t ∈ o.looksAt ops → waits o j = true) ∧ (i ≠ j → o.dst ≠ some t) := by
    intro i o hi ho j t hj hd
    have := List.all_eq_true.1 hX i (List.mem_range.2 hi)
    simp only [ho] at this
    have := List.all_eq_true.1 this j (List.mem_range.2 hj)
    simp only [hd, Bool.and_eq_true, Bool.or_eq_true, bne_iff_ne, beq_iff_eq, Bool.not_eq_true', List.contains_eq_mem, decide_eq_false_iff_not] at this
    refine ⟨fun hl => ?_, fun hne => ?_⟩
    · rcases this.1 with h | h
      · exact absurd hl h
      · exact h.1
    · rcases this.2 with h | h
      · exact absurd h hne
      · exact h
  have gsize : ∀ x, (G x).tmps.size = n := fun x => by rw [hG, putsK_size]; exact hn
  have gat : ∀ x e, e ∈ ks → (G x).tmps[e.t]? = some (x e.k) := fun x e he => by
    rw [hG]
    exact putsK_at x ks G0 hKt e he (by rw [hn]; exact (hK' e he).2.1)
  intro fuel
  induction fuel with
  | zero =>
    intro listed s W x hc hI
    have hm' : m = ops.size := by
      rcases Nat.lt_or_ge m ops.size with c | c
      · exact absurd (hI.head m (Nat.le_refl _) c) (count_none hc m)
      · omega
    have hall : ∀ j, j < m → listed.getD j false = true := fun j hj => listed_of (by rw [hI.size]; omega) (count_none hc j)
    rw [hI.all hall]
    have h := ht W x hI.below (fun e he => hI.told e he (hall _ (hK' e he).1))
    rw [List.drop_eq_nil_of_le (by simp; omega)] at h
    refine ⟨?_, h⟩
    refine List.eq_nil_iff_forall_not_mem.2 fun i hi => ?_
    exact count_none hc i (mem_ready.1 hi).1
  | succ fuel ih =>
    intro listed s W x hc hI
    by_cases hE : i0 ∈ Region.ready .any ops listed
    · obtain ⟨hun, o, ho, hall⟩ := mem_ready.1 hE
      rw [ho0] at ho
      cases ho
      have look : ∀ t, t ∈ o0.looksAt ops → s.tmps[t]? = (G x).tmps[t]? := fun t htl =>
        hI.slot t fun j oj hj hoj hd => waits_listed ((hX' i0 o0 hi0 ho0 j t hj (by rw [hoj]; exact hd)).1 htl) hall
      have he := exec_same (ops := ops) (Region.noSelect_spec hsel i0 o0 · · ho0) look
      have hwt := wanted_same look
      obtain ⟨v, hv, hy⟩ := hY x fun e hek htl => by
        obtain ⟨h1, _, h3⟩ := hK' e hek
        exact ⟨W, hI.told e hek (waits_listed ((hX' i0 o0 hi0 ho0 e.k e.t h1 h3).1 (by simpa using htl)) hall)⟩
      have hy' : Yields P ops o0 v s := by
        rcases hy with ⟨h1, h2⟩ | ⟨h1, h2⟩
        · exact .inl ⟨hwt.trans h1, fun w => by rw [he]; exact h2 w⟩
        · exact .inr ⟨hwt.trans h1, h2⟩
      refine wpAny_first (md := .any) ho0 (Region.noSelect_spec hsel) (fun c a w h => hQ c a w v h) fuel listed s W (fun j oj hj hne hunj hno => hAp j oj hj hne (by
        cases hwj : waits o0 j with
        | false => rfl
        | true =>
          have h1 := waits_listed hwj hall
          have h2 := (unlisted hunj).2
          rw [h1] at h2; cases h2) (by
        cases hwj : waits oj i0 with
        | false => rfl
        | true =>
          unfold waits at hwj
          obtain ⟨e, he1, he2⟩ := Array.any_eq_true'.1 hwj
          simp only [Bool.and_eq_true, beq_iff_eq] at he2
          exact absurd he2.2 (hno e he1 he2.1))) hE hy' ?_
      have hnk := toldAt_none hnt
      have other : ∀ e, e ∈ ks → e.k ≠ i0 → (listed.setIfInBounds i0 true).getD e.k false = true → listed.getD e.k false = true := fun e _ hne h => by
        rw [getD_set_ne false (Ne.symm hne)] at h; exact h
      refine ih _ _ W x (count_listed hun hc) ⟨by simpa using hI.size, fun j hj hj' => by rw [getD_set_ne true (by omega)]; exact hI.head j hj hj', by rw [put_size]; exact hI.fsize, by rw [put_defs]; exact hI.fdef, fun t hcond => ?_, hI.below, fun e hek hl => hI.told e hek (other e hek (hnk e hek) hl), closed_set ho0 hall hI.closed⟩
      by_cases hd : o0.dst = some t
      · rw [hv t hd, hd]
        exact put_on (by rw [hI.fsize]; exact (Array.getElem?_eq_some_iff.1 (hv t hd)).1)
      · rw [put_off hd]
        refine hI.slot t fun j oj hj hoj hdj => ?_
        have := hcond j oj hj hoj hdj
        by_cases c : i0 = j
        · subst c
          rw [ho0] at hoj
          cases hoj
          exact absurd hdj hd
        · rw [getD_set_ne false c] at this
          exact this
    refine ⟨fun hr => by
      obtain ⟨i, hi⟩ := count_some hc
      exact absurd hr (first_ready hI.size hb i hi), fun i hi => ?_⟩
    obtain ⟨hun, o, ho, hall⟩ := mem_ready.1 hi
    have hilt : i < ops.size := (Array.getElem?_eq_some_iff.1 ho).1
    rcases Nat.lt_or_ge i m with him | him
    · have look : ∀ t, t ∈ o.looksAt ops → s.tmps[t]? = (G x).tmps[t]? := fun t htl =>
        hI.slot t fun j oj hj hoj hd => waits_listed ((hX' i o him ho j t hj (by rw [hoj]; exact hd)).1 htl) hall
      have he := exec_same (ops := ops) (Region.noSelect_spec hsel i o · · ho) look
      have hwt := wanted_same look
      have facts : Facts ops ks o x (onTop W) := fun e hek htl d => by
        obtain ⟨h1, _, h3⟩ := hK' e hek
        have hl := waits_listed ((hX' i o him ho e.k e.t h1 h3).1 (by simpa using htl)) hall
        exact hφ e hek _ _ _ (hI.told e hek hl) (onTop_below W d)
      have fit := hfit x i o him ho (onTop W) (fam_top hI.below) facts
      obtain ⟨d0, hd0⟩ := of_below (Below.refl W.heap.size W)
      have other : ∀ e, e ∈ ks → e.k ≠ i → (listed.setIfInBounds i true).getD e.k false = true → listed.getD e.k false = true := fun e _ hne h => by
        rw [getD_set_ne false (Ne.symm hne)] at h; exact h
      unfold wpOp
      simp only [ho]
      cases hc1 : toldAt ks i with
      | none =>
        rw [hc1] at fit
        have hnk := toldAt_none hc1
        have next : ∀ (v : Value) (W' : World), (∀ t, o.dst = some t → (G x).tmps[t]? = some v) → Below W.heap.size W W' → wpAny P .any ops Q fuel (listed.setIfInBounds i true) (s.put o.dst v) W' := by
          intro v W' hv hbW
          refine ih _ _ W' x (count_listed hun hc) ⟨by simpa using hI.size, fun j hj hj' => by rw [getD_set_ne true (by omega)]; exact hI.head j hj hj', by rw [put_size]; exact hI.fsize, by rw [put_defs]; exact hI.fdef, fun t hcond => ?_, hI.below.trans (hbW.mono hI.below.size), fun e hek hl => hφ e hek _ _ _ (hI.told e hek (other e hek (hnk e hek) hl)) hbW, closed_set ho hall hI.closed⟩
          by_cases hd : o.dst = some t
          · rw [hv t hd, hd]
            exact put_on (by rw [hI.fsize]; exact (Array.getElem?_eq_some_iff.1 (hv t hd)).1)
          · rw [put_off hd]
            refine hI.slot t fun j oj hj hoj hdj => ?_
            have := hcond j oj hj hoj hdj
            by_cases c : i = j
            · subst c
              rw [ho] at hoj
              cases hoj
              exact absurd hdj hd
            · rw [getD_set_ne false c] at this
              exact this
        rcases fit with ⟨hw, v, hv, hq⟩ | ⟨hw, hu⟩
        · rw [if_pos (hwt.trans hw)]
          left
          have hq := hq d0
          rw [← hd0] at hq
          unfold Oper.wp
          unfold Oper.quietAt at hq
          rw [he]
          generalize (execOp (G x).eval o).run P W = r at hq
          cases r with
          | halt x w' => exact hq.elim
          | ok n w' =>
            cases n <;> simp only [Oper.quietUpon] at hq <;> simp only [Oper.upon]
            case value u =>
              obtain ⟨e1, e2⟩ := hq
              rw [e1, e2]
              exact next v W hv (Below.refl _ _)
            case skip =>
              obtain ⟨e1, e2⟩ := hq
              rw [e1, ← e2]
              exact next v W hv (Below.refl _ _)
            case enter f args =>
              obtain ⟨e1, hc⟩ := hq
              rw [e1]
              exact hc.mono fun e w'' ⟨he, d, hw''⟩ => by subst he; rw [hw'']; exact next v _ hv (onTop_below W d)
        · rw [if_neg (by rw [hwt, hw]; exact Bool.false_ne_true)]
          exact next undef W hu (Below.refl _ _)
      | some e =>
        rw [hc1] at fit
        obtain ⟨hek, hei⟩ := toldAt_some hc1
        subst hei
        have hod : o.dst = some e.t := by have := (hK' e hek).2.2; rw [ho] at this; exact this
        have uniq : ∀ e', e' ∈ ks → e'.k = e.k → e' = e := fun e' he' hk => by
          have h1 := toldAt_mem ks hKk e' he'
          rw [hk, hc1] at h1
          exact (Option.some.inj h1).symm
        have next : ∀ (v : Value) (W' : World), e.φ v W' → Below W.heap.size W W' → wpAny P .any ops Q fuel (listed.setIfInBounds e.k true) (s.put o.dst v) W' := by
          intro v W' hv hbW
          refine ih _ _ W' (upd x e.k v) (count_listed hun hc) ⟨by simpa using hI.size, fun j hj hj' => by rw [getD_set_ne true (by omega)]; exact hI.head j hj hj', by rw [put_size, hI.fsize, gsize, gsize], by rw [put_defs, hI.fdef, hG, hG, putsK_defs, putsK_defs], fun t hcond => ?_, hI.below.trans (hbW.mono hI.below.size), fun e' hek' hl => ?_, closed_set ho hall hI.closed⟩
          · by_cases hd : o.dst = some t
            · rw [hd]
              obtain rfl : e.t = t := by rw [hod] at hd; exact Option.some.inj hd
              rw [gat _ e hek, put_on (by rw [hI.fsize, gsize]; exact (hK' e hek).2.1)]
              show some v = some (if e.k = e.k then v else x e.k)
              rw [if_pos rfl]
            · rw [put_off hd, hG, putsK_upd x e.k v t ks G0 G0 rfl rfl (fun e' he' hk' hh => hd (by rw [hod, ← hh, uniq e' he' hk'])), ← hG]
              refine hI.slot t fun j oj hj hoj hdj => ?_
              have := hcond j oj hj hoj hdj
              by_cases c : e.k = j
              · subst c
                rw [ho] at hoj
                cases hoj
                exact absurd hdj hd
              · rw [getD_set_ne false c] at this
                exact this
          · by_cases c : e'.k = e.k
            · obtain rfl := uniq e' hek' c
              show e'.φ (if e'.k = e'.k then v else x e'.k) W'
              rw [if_pos rfl]
              exact hv
            · show e'.φ (if e'.k = e.k then v else x e'.k) W'
              rw [if_neg c]
              exact hφ e' hek' _ _ _ (hI.told e' hek' (other e' hek' c hl)) hbW
        obtain ⟨hw, hy⟩ := fit
        rw [if_pos (hwt.trans hw)]
        left
        have hy := hy d0
        rw [← hd0] at hy
        unfold Oper.wp
        unfold yieldsR at hy
        rw [he]
        generalize (execOp (G x).eval o).run P W = r at hy
        cases r with
        | halt x w' => exact hy.elim
        | ok n w' =>
          cases n <;> simp only [yieldsUpon] at hy <;> simp only [Oper.upon]
          case value u => exact next u w' hy.1 hy.2
          case skip => exact next undef w' hy.1 hy.2
          case enter f args =>
            obtain ⟨e1, hc⟩ := hy
            rw [e1]
            exact hc.mono fun e' w'' ⟨v, he', h1, h2⟩ => by subst he'; exact next v w'' h1 h2
    · obtain rfl : i = m := by
        rcases Nat.lt_or_ge m i with c | c
        · have h1 := waits_listed (hT i o ho m (Nat.le_refl _) c) hall
          have h2 := (unlisted (hI.head m (Nat.le_refl _) (by omega))).2
          rw [h1] at h2; cases h2
        · omega
      have hl0 : ∀ d j, i - j = d → j < i → j ≠ i0 → listed.getD j false = true := by
        intro d
        induction d using Nat.strongRecOn with
        | _ d ihd =>
          intro j hd hj hji
          obtain ⟨k, ok, hjk, hk, hki, hok, hwk⟩ := hS hilt j hj hji
          rcases Nat.lt_or_ge k i with c | c
          · have := ihd (i - k) (by omega) k rfl c hki
            exact waits_listed hwk (hI.closed k ok hok this)
          · obtain rfl : k = i := by omega
            rw [ho] at hok
            cases hok
            exact waits_listed hwk hall
      have hl1 : listed.getD i0 false = true := by
        rcases Bool.eq_false_or_eq_true (listed.getD i0 false) with h | h
        · exact h
        · exfalso
          apply hE
          refine mem_ready.2 ⟨?_, o0, ho0, fun e he hbe => hl0 _ e.on rfl (by have := hb i0 o0 ho0 e he hbe; omega) (by have := hb i0 o0 ho0 e he hbe; omega)⟩
          have hlt : i0 < listed.size := by rw [hI.size]; omega
          rw [Array.getD_eq_getD_getElem?, Array.getElem?_eq_getElem hlt] at h ⊢
          exact h
      have hl : ∀ j, j < i → listed.getD j false = true := fun j hj => by
        by_cases c : j = i0
        · rw [c]; exact hl1
        · exact hl0 _ j rfl hj c
      have hs := hI.all hl
      have h := ht W x hI.below (fun e he => hI.told e he (hl _ (hK' e he).1))
      rw [← hs] at h
      exact (tail_any (P := P) (Q := Q) hb hT (fuel + 1) i listed s W hI.size (Nat.le_refl _) hc hl hI.head h).2 i hi
/-- THE LAW: the first m operations read, call, or make memory; those that are told (ks) hand back what differs from world to world; the rest waits for all. -/
theorem relE {id : Nat} {a : Act} {w : World} {l : List Oper} (ks : List Told) (m n : Nat) (hm : P.follows .mixedOrders = true) (hn : a.tmps.size = n) (hl : l = ops.toList.take m) (i0 : Nat) (o0 : Oper) (ho0 : ops[i0]? = some o0) (hi0 : i0 < m) (hnt : toldAt ks i0 = none) (hB : (flowE ops i0 m && lexOk ops n l) = true) (hAB : apartB ops i0 = true)
    (hQ : ∀ c a w v, Q (.panic c) (a.put o0.dst v) w → Q (.panic c) a w) (hK : toldB ops ks m n = true)
    (hφ : ∀ e, e ∈ ks → ∀ v W W', e.φ v W → Below W.heap.size W W' → e.φ v W')
    (h : ∃ G : (Nat → Value) → Act, (∀ x, (∀ e, e ∈ ks → (o0.looksAt ops).contains e.t = true → ∃ W, e.φ (x e.k) W) → ∃ v, (∀ t, o0.dst = some t → (G x).tmps[t]? = some v) ∧ Yields P ops o0 v (G x)) ∧ (∀ x, relWalk P ops w ks x (G x) 0 l a) ∧ (∀ x, G x = putsK ks x (G fun _ => undef)) ∧
      ∀ W x, Below w.heap.size w W → (∀ e, e ∈ ks → e.φ (x e.k) W) → wpList P ops Q (ops.toList.drop m) (G x) W) : (Code.region id ops true).wp P Q a w := by
  obtain ⟨G, hY, h1, h2, h3⟩ := h
  rw [Bool.and_eq_true] at hB
  have hB' := hB.1
  simp only [flowE, Bool.and_eq_true, decide_eq_true_eq] at hB'
  have hK2 := hK
  simp only [toldB, Bool.and_eq_true, decide_eq_true_eq] at hK2
  have hk : ∀ j e, toldAt ks (0 + j) = some e → ∀ o, l[j]? = some o → o.dst = some e.t := by
    intro j e he o ho
    obtain ⟨hek, hej⟩ := toldAt_some he
    have := List.all_eq_true.1 hK2.1.1 e hek
    simp only [Bool.and_eq_true, decide_eq_true_eq, beq_iff_eq] at this
    have hjm : j < m := by rw [Nat.zero_add] at hej; rw [← hej]; exact this.1.1
    rw [hl, List.getElem?_take_of_lt hjm] at ho
    have h4 := this.2
    rw [hej, Nat.zero_add, show ops[j]? = some o by simpa using ho] at h4
    exact h4
  have hsel : ∀ o, o ∈ l → ∀ cs b, o.op ≠ .select cs b := by
    intro o ho cs b
    rw [hl] at ho
    obtain ⟨j, hj, e⟩ := List.getElem_of_mem (List.mem_of_mem_take ho)
    exact Region.noSelect_spec hB'.1.1.1.2 j o cs b (by rw [← e]; simp at hj ⊢)
  have hsz : ∀ x, (G x).tmps.size = n := fun x => by rw [(rel_off l 0 a hk (h1 x)).1, hn]
  have off := rel_off l 0 a hk (h1 fun _ => undef)
  refine wp_region_any hm (relE_any (w := w) (ks := ks) (m := m) (n := n) (G := G) (G0 := G fun _ => undef) i0 o0 ho0 hi0 hnt hB.1 (apart_of ho0 hAB) hQ hY hK hφ h2 (hsz _) (fun x i o hi ho => ?_) h3 _ _ _ _ (fun _ => undef) ?_ ⟨by simp, fun j _ hj => by simp [hj], off.1.symm, off.2.1.symm, fun t hc => ?_, ⟨rfl, rfl, rfl, Nat.le_refl _, fun _ _ => rfl⟩, fun e he hl => ?_, fun j o ho hl => ?_⟩)
  · have := rel_fit n l 0 a hn hsel hB.2 hk (h1 x) i o (by rw [hl, List.getElem?_take_of_lt hi]; simpa using ho)
    rw [Nat.zero_add] at this
    exact this
  · simp
  · refine (off.2.2 t fun hm' => ?_).symm
    obtain ⟨o, ho, hd⟩ := List.mem_filterMap.1 hm'
    rw [hl] at ho
    obtain ⟨j, hj, e⟩ := List.getElem_of_mem ho
    simp at hj e
    have hlt : j < ops.size := by omega
    have := hc j o (by omega) (by rw [Array.getElem?_eq_getElem hlt, e]) hd
    simp [hlt] at this
  · have := List.all_eq_true.1 hK2.1.1 e he
    simp only [Bool.and_eq_true, decide_eq_true_eq, beq_iff_eq] at this
    have hlt : e.k < ops.size := by have := this.1.1; omega
    simp [hlt] at hl
  · have hlt : j < ops.size := (Array.getElem?_eq_some_iff.1 ho).1
    simp [hlt] at hl
end
end Go.Proofs.Ytbndiadgnglkhaa.Wd
