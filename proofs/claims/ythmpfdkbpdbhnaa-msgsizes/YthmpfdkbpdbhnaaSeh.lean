/- A region that draws its order: a segment in which several operations write what stood, one behind another (each waits for the one ahead of it); else as Seg. -/
import Derived.Test.YthmpfdkbpdbhnaaSeg
namespace Go.Proofs.Ythmpfdkbpdbhnaa.Wd
open Go.RowKit
set_option linter.unusedVariables false
set_option linter.unusedSimpArgs false
section
variable {P : Program} {ops : Array Oper} {Q : Exit → Act → World → Prop}
/-- How many of these have come up. -/
def stH (cs : List Nat) (l : Array Bool) : Nat := cs.countP fun c => l.getD c false
/-- Each waits for the one ahead. -/
def chainB (ops : Array Oper) : List Nat → Bool
  | a :: b :: l => (match ops[b]? with
    | none => false
    | some o => waits o a) && chainB ops (b :: l)
  | _ => true
theorem chain_at : ∀ (cs : List Nat), chainB ops cs = true → ∀ j a b, cs[j]? = some a → cs[j + 1]? = some b → ∃ o, ops[b]? = some o ∧ waits o a = true
  | [], _, j, a, b, h, _ => by simp at h
  | [c], _, j, a, b, _, h => by simp at h
  | c :: d :: l, hQ, j, a, b, h1, h2 => by
    rw [chainB, Bool.and_eq_true] at hQ
    cases j with
    | zero =>
      simp only [List.getElem?_cons_zero, Option.some.injEq, List.getElem?_cons_succ] at h1 h2
      subst h1 h2
      cases ho : ops[d]? with
      | none => have := hQ.1; rw [ho] at this; cases this
      | some o => have := hQ.1; rw [ho] at this; exact ⟨o, rfl, this⟩
    | succ j => exact chain_at (d :: l) hQ.2 j a b (by simpa using h1) (by simpa using h2)
theorem count_cut (f : Nat → Bool) : ∀ (cs : List Nat) (j : Nat), j ≤ cs.length → (∀ j' a, j' < j → cs[j']? = some a → f a = true) → (∀ j' a, j ≤ j' → cs[j']? = some a → f a = false) → cs.countP f = j
  | [], j, h, _, _ => by simp at h; simp [h]
  | c :: cs, 0, _, h1, h2 => by
    rw [List.countP_cons_of_neg (by rw [h2 0 c (Nat.le_refl _) rfl]; exact Bool.false_ne_true)]
    exact count_cut f cs 0 (Nat.zero_le _) (fun j a h => by omega) (fun j a _ ha => h2 (j + 1) a (Nat.zero_le _) (by simpa using ha))
  | c :: cs, j + 1, h, h1, h2 => by
    rw [List.countP_cons_of_pos (h1 0 c (Nat.succ_pos _) rfl), count_cut f cs j (by simp at h; omega) (fun j' a hj ha => h1 (j' + 1) a (by omega) (by simpa using ha)) (fun j' a hj ha => h2 (j' + 1) a (by omega) (by simpa using ha))]
theorem stH_off {cs : List Nat} {l : Array Bool} {i : Nat} (h : i ∉ cs) : stH cs (l.setIfInBounds i true) = stH cs l :=
  List.countP_congr fun c hc => by rw [getD_set_ne false (fun e => h (by rw [e]; exact hc))]
theorem unl_from {cs : List Nat} {f : Nat → Bool} (mono : ∀ j a b, cs[j]? = some a → cs[j + 1]? = some b → f b = true → f a = true) {j0 i : Nat} (h0 : cs[j0]? = some i) (hu : f i = false) : ∀ j a, j0 ≤ j → cs[j]? = some a → f a = false := by
  intro j
  induction j with
  | zero =>
    intro a h ha
    obtain rfl : j0 = 0 := by omega
    rw [h0] at ha
    cases ha
    exact hu
  | succ j ih =>
    intro a h ha
    rcases Nat.lt_or_ge j j0 with c | c
    · obtain rfl : j0 = j + 1 := by omega
      rw [h0] at ha
      cases ha
      exact hu
    · have hj : j < cs.length := by have := (List.getElem?_eq_some_iff.1 ha).1; omega
      have hb : cs[j]? = some cs[j] := List.getElem?_eq_getElem hj
      have h2 := ih _ c hb
      cases hf : f a with
      | false => rfl
      | true => rw [mono j _ a hb ha hf] at h2; cases h2
theorem lst_to {cs : List Nat} {f : Nat → Bool} (mono : ∀ j a b, cs[j]? = some a → cs[j + 1]? = some b → f b = true → f a = true) : ∀ (j0 : Nat), j0 ≤ cs.length → (∀ j, j + 1 = j0 → ∀ a, cs[j]? = some a → f a = true) → ∀ j a, j < j0 → cs[j]? = some a → f a = true
  | 0, _, _, j, a, h, _ => by omega
  | j0 + 1, hl, h0, j, a, h, ha => by
    rcases Nat.lt_succ_iff_lt_or_eq.1 h with c | rfl
    · refine lst_to mono j0 (by omega) (fun j' hj' a' ha' => ?_) j a c ha
      subst hj'
      have hb : cs[j' + 1]? = some cs[j' + 1] := List.getElem?_eq_getElem (by omega)
      exact mono j' a' _ ha' hb (h0 (j' + 1) rfl _ hb)
    · exact h0 j rfl a ha
theorem up_from {cs : List Nat} (grow : ∀ j a b, cs[j]? = some a → cs[j + 1]? = some b → a < b) {j0 i : Nat} (h0 : cs[j0]? = some i) : ∀ j a, j0 < j → cs[j]? = some a → i < a := by
  intro j
  induction j with
  | zero => intro a h; omega
  | succ j ih =>
    intro a h ha
    have hj : j < cs.length := by have := (List.getElem?_eq_some_iff.1 ha).1; omega
    have hb : cs[j]? = some cs[j] := List.getElem?_eq_getElem hj
    have hlt := grow j _ a hb ha
    rcases Nat.lt_succ_iff_lt_or_eq.1 h with c | rfl
    · have := ih _ c hb; omega
    · rw [h0] at hb
      cases hb
      exact hlt
theorem stH_at {cs : List Nat} {l : Array Bool} (mono : ∀ j a b, cs[j]? = some a → cs[j + 1]? = some b → l.getD b false = true → l.getD a false = true) (grow : ∀ j a b, cs[j]? = some a → cs[j + 1]? = some b → a < b) {j0 i : Nat} (h0 : cs[j0]? = some i) (hi : i < l.size) (hu : l.getD i false = false) (ha : ∀ j, j + 1 = j0 → ∀ a, cs[j]? = some a → l.getD a false = true) :
    stH cs l = j0 ∧ stH cs (l.setIfInBounds i true) = j0 + 1 := by
  have hl : j0 < cs.length := (List.getElem?_eq_some_iff.1 h0).1
  have h1 := lst_to (f := fun a => l.getD a false) mono j0 (Nat.le_of_lt hl) ha
  have h2 := unl_from (f := fun a => l.getD a false) mono h0 hu
  have hset : (l.setIfInBounds i true).getD i false = true := by simp [hi]
  refine ⟨count_cut _ cs j0 (Nat.le_of_lt hl) h1 h2, count_cut _ cs (j0 + 1) hl (fun j a hj hja => ?_) (fun j a hj hja => ?_)⟩
  · show (l.setIfInBounds i true).getD a false = true
    by_cases c : i = a
    · rw [← c]; exact hset
    · rw [getD_set_ne false c]
      rcases Nat.lt_succ_iff_lt_or_eq.1 hj with d | rfl
      · exact h1 j a d hja
      · rw [h0] at hja
        exact absurd (Option.some.inj hja) c
  · show (l.setIfInBounds i true).getD a false = false
    have := up_from grow h0 j a (by omega) hja
    rw [getD_set_ne false (by omega)]
    exact h2 j a (by omega) hja
/-- The walk of a segment in the order of the text; operations number cs are those that may write. -/
def sehWalk (P : Program) (ops : Array Oper) (C : Nat → World → Prop) (T : Nat → World → World → Prop) (cs : List Nat) (ks : List Told) (x : Nat → Value) (G : Act) : Nat → List Oper → Act → Prop
  | _, [], a => a = G
  | i, o :: l, a => match toldAt ks i with
    | none => ∃ v, (∀ b F, FamC (C b) F → Facts ops ks o x F → if Region.wanted o (yielded ops a.tmps) = true then ∀ K : Act → Prop, K (a.put o.dst v) → o.quiet P a (fun W => ∃ d, W = F d) K else v = undef) ∧ sehWalk P ops C T cs ks x G (i + 1) l (a.put o.dst v)
    | some e => (Region.wanted o (yielded ops a.tmps) = true ∧ (i ∉ cs → ∀ b F, FamC (C b) F → Facts ops ks o x F → ∀ d, yieldsR P o a (F d) e.φ) ∧ (∀ j, cs[j]? = some i → ∀ W, C j W → Facts ops ks o x (fun _ => W) → leavesR P o a W (fun v W' => e.φ v W' ∧ C (j + 1) W' ∧ T j W W'))) ∧ sehWalk P ops C T cs ks x G (i + 1) l (a.put (some e.t) (x e.k))
theorem seh_off {C : Nat → World → Prop} {T : Nat → World → World → Prop} {cs : List Nat} {ks : List Told} {x : Nat → Value} {G : Act} {n : Nat} : ∀ (l : List Oper) (i : Nat) (a : Act), a.tmps.size = n → (∀ j e, toldAt ks (i + j) = some e → ∀ o, l[j]? = some o → dstOf n o e.t) → sehWalk P ops C T cs ks x G i l a →
    G.tmps.size = a.tmps.size ∧ G.defers = a.defers ∧ ∀ t, t ∉ dsts l → G.tmps[t]? = a.tmps[t]?
  | [], i, a, _, _, h => by
    obtain rfl : a = G := h
    exact ⟨rfl, rfl, fun _ _ => rfl⟩
  | o :: l, i, a, hn, hk, h => by
    obtain ⟨v, hv⟩ : ∃ v, sehWalk P ops C T cs ks x G (i + 1) l (a.put o.dst v) := by
      rw [sehWalk] at h
      split at h
      · obtain ⟨v, _, h2⟩ := h
        exact ⟨v, h2⟩
      · rename_i e he
        have := hk 0 e he o rfl
        exact ⟨_, by rw [← this.put hn]; exact h.2⟩
    obtain ⟨h1, h2, h3⟩ := seh_off l (i + 1) _ (by rw [put_size]; exact hn) (fun j e he o ho => hk (j + 1) e (by rw [show i + (j + 1) = i + 1 + j by omega]; exact he) o (by simpa using ho)) hv
    refine ⟨by rw [h1, put_size], by rw [h2, put_defs], fun t ht => ?_⟩
    rw [h3 t (fun hm => ht (by
      obtain ⟨x, hx, hd⟩ := List.mem_filterMap.1 hm
      exact List.mem_filterMap.2 ⟨x, List.mem_cons_of_mem _ hx, hd⟩)), put_off (fun hd => ht (List.mem_filterMap.2 ⟨o, List.mem_cons_self, hd⟩))]
/-- What an operation yields in the last frame G. -/
def SehFit (P : Program) (ops : Array Oper) (C : Nat → World → Prop) (T : Nat → World → World → Prop) (cs : List Nat) (ks : List Told) (x : Nat → Value) (G : Act) (i : Nat) (o : Oper) : Prop :=
  match toldAt ks i with
    | none => ∀ b F, FamC (C b) F → Facts ops ks o x F → (Region.wanted o (yielded ops G.tmps) = true ∧ ∃ v, (∀ t, o.dst = some t → G.tmps[t]? = some v) ∧ ∀ d, o.quietAt P G (fun W => ∃ d, W = F d) (F d) v) ∨ (Region.wanted o (yielded ops G.tmps) = false ∧ ∀ t, o.dst = some t → G.tmps[t]? = some undef)
    | some e => Region.wanted o (yielded ops G.tmps) = true ∧ (i ∉ cs → ∀ b F, FamC (C b) F → Facts ops ks o x F → ∀ d, yieldsR P o G (F d) e.φ) ∧ (∀ j, cs[j]? = some i → ∀ W, C j W → Facts ops ks o x (fun _ => W) → leavesR P o G W (fun v W' => e.φ v W' ∧ C (j + 1) W' ∧ T j W W'))
theorem seh_fit {C : Nat → World → Prop} {T : Nat → World → World → Prop} {cs : List Nat} {ks : List Told} {x : Nat → Value} {G : Act} (n : Nat) : ∀ (l : List Oper) (i : Nat) (a : Act), a.tmps.size = n → (∀ o, o ∈ l → ∀ cs b, o.op ≠ .select cs b) → lexOk ops n l = true →
    (∀ j e, toldAt ks (i + j) = some e → ∀ o, l[j]? = some o → dstOf n o e.t) → sehWalk P ops C T cs ks x G i l a → ∀ j o, l[j]? = some o → SehFit P ops C T cs ks x G (i + j) o
  | [], _, _, _, _, _, _, _, j, o, ho => by simp at ho
  | o :: l, i, a, hn, hs, hl, hk, h, j, p, hp => by
    have off := seh_off (o :: l) i a hn hk h
    rw [lexOk, Bool.and_eq_true, Bool.and_eq_true] at hl
    obtain ⟨⟨hd, hlook⟩, hl⟩ := hl
    have look : ∀ t, t ∈ o.looksAt ops → G.tmps[t]? = a.tmps[t]? := fun t ht => off.2.2 t (fun hm => by
      have := List.all_eq_true.1 hlook t hm
      simp at this
      exact this ht)
    have he := exec_same (ops := ops) (hs o List.mem_cons_self) look
    have hw := wanted_same look
    have hk' : ∀ j e, toldAt ks (i + 1 + j) = some e → ∀ o, l[j]? = some o → dstOf n o e.t := fun j e he o ho => hk (j + 1) e (by rw [show i + (j + 1) = i + 1 + j by omega]; exact he) o (by simpa using ho)
    have next : ∀ v, sehWalk P ops C T cs ks x G (i + 1) l (a.put o.dst v) → ∀ j p, (o :: l)[j + 1]? = some p → SehFit P ops C T cs ks x G (i + (j + 1)) p := fun v hv j p hp => by
      have := seh_fit n l (i + 1) (a.put o.dst v) (by rw [put_size]; exact hn) (fun o ho => hs o (List.mem_cons_of_mem _ ho)) hl hk' hv j p (by simpa using hp)
      rw [show i + (j + 1) = i + 1 + j by omega]
      exact this
    have later : ∀ v, sehWalk P ops C T cs ks x G (i + 1) l (a.put o.dst v) → ∀ t, o.dst = some t → G.tmps[t]? = some v := by
      intro v hv t ht
      rw [ht] at hd hv
      simp at hd
      rw [(seh_off l (i + 1) _ (by rw [put_size]; exact hn) hk' hv).2.2 t hd.2, put_on (by rw [hn]; exact hd.1)]
    rw [sehWalk] at h
    cases hc : toldAt ks i with
    | none =>
      rw [hc] at h
      obtain ⟨v, h1, h2⟩ := h
      cases j with
      | succ j => exact next v h2 j p hp
      | zero =>
        simp only [List.getElem?_cons_zero, Option.some.injEq] at hp
        subst hp
        unfold SehFit
        rw [Nat.add_zero, hc]
        intro b F hF hf
        have h3 := h1 b F hF hf
        by_cases c : Region.wanted o (yielded ops a.tmps) = true
        · rw [if_pos c] at h3
          obtain ⟨u, hu, hK⟩ := h3 (fun a' => a' = a.put o.dst v) rfl
          left
          refine ⟨hw.trans c, u, ?_, fun d => ?_⟩
          · intro t ht
            rw [later v h2 t ht]
            rw [ht] at hK hd
            simp at hd
            have e1 : (a.put (some t) u).tmps[t]? = (a.put (some t) v).tmps[t]? := congrArg (fun a => a.tmps[t]?) hK
            rw [put_on (by rw [hn]; exact hd.1), put_on (by rw [hn]; exact hd.1)] at e1
            exact e1.symm
          · have := hu _ ⟨d, rfl⟩
            unfold Oper.quietAt at *
            rw [he]
            exact this
        · rw [if_neg c] at h3
          right
          refine ⟨hw.trans (by simpa using c), fun t ht => ?_⟩
          rw [later v h2 t ht, h3]
    | some e =>
      rw [hc] at h
      have hde := hk 0 e hc o rfl
      cases j with
      | succ j => exact next (x e.k) (by rw [← hde.put hn]; exact h.2) j p hp
      | zero =>
        simp only [List.getElem?_cons_zero, Option.some.injEq] at hp
        subst hp
        unfold SehFit
        rw [Nat.add_zero, hc]
        obtain ⟨g1, g2, g3⟩ := h.1
        refine ⟨hw.trans g1, fun hne b F hF hf d => ?_, fun j heq W hW hf => ?_⟩
        · have := g2 hne b F hF hf d
          unfold yieldsR at *
          rw [he]
          exact this
        · have := g3 j heq W hW hf
          unfold leavesR at *
          rw [he]
          exact this
structure InvH (ops : Array Oper) (C : Nat → World → Prop) (cs : List Nat) (ks : List Told) (k m : Nat) (G : Act) (listed : Array Bool) (s : Act) (W : World) (x : Nat → Value) : Prop where
  size : listed.size = ops.size
  done : ∀ j, j < k → listed.getD j false = true
  head : ∀ j, m ≤ j → j < ops.size → listed.getD j true = false
  fsize : s.tmps.size = G.tmps.size
  fdef : s.defers = G.defers
  slot : ∀ t, (∀ j o, k ≤ j → j < m → ops[j]? = some o → o.dst = some t → listed.getD j false = true) → s.tmps[t]? = G.tmps[t]?
  cls : C (stH cs listed) W
  told : ∀ e, e ∈ ks → listed.getD e.k false = true → e.φ (x e.k) W
  closed : ∀ j o, ops[j]? = some o → listed.getD j false = true → ∀ e ∈ o.after, Region.binds .any e = true → listed.getD e.on false = true
theorem InvH.all {C : Nat → World → Prop} {cs : List Nat} {W : World} {ks : List Told} {k m : Nat} {G s : Act} {listed : Array Bool} {x : Nat → Value} (hI : InvH ops C cs ks k m G listed s W x) (h : ∀ j, j < m → listed.getD j false = true) : s = G := by
  have h1 : s.tmps = G.tmps := Array.ext_getElem? fun t => hI.slot t fun j _ _ hj _ _ => h j hj
  have h2 := hI.fdef
  cases s
  cases G
  simp only at h1 h2
  rw [h1, h2]
theorem seh_any {C : Nat → World → Prop} {T : Nat → World → World → Prop} {cs : List Nat} {ks : List Told} {k m n : Nat} {G : (Nat → Value) → Act} {G0 : Act} (hB : segB ops k m = true) (hK : toldS ops ks k m n = true) (hkm : k ≤ m)
    (hC : ∀ b W W', C b W → Below W.heap.size W W' → C b W')
    (hQ : chainB ops cs = true) (hcc : ∀ c, c ∈ cs → ∃ e, e ∈ ks ∧ e.k = c)
    (hφ : ∀ e, e ∈ ks → ∀ v W W', e.φ v W → Below W.heap.size W W' → e.φ v W')
    (hT : ∀ j e, e ∈ ks → (∀ i, cs[i]? = some e.k → i < j) → ∀ v W W', e.φ v W → C j W → T j W W' → e.φ v W')
    (hG : ∀ x, G x = putsK ks x G0) (hn : G0.tmps.size = n)
    (hfit : ∀ x i o, k ≤ i → i < m → ops[i]? = some o → SehFit P ops C T cs ks x (G x) i o)
    (ht : ∀ W x, C cs.length W → (∀ e, e ∈ ks → e.φ (x e.k) W) → wpFrom P ops Q m (G x) W) :
    ∀ (fuel : Nat) (listed : Array Bool) (s : Act) (W : World) (x : Nat → Value), listed.toList.count false = fuel → InvH ops C cs ks k m (G x) listed s W x → wpAny P .any ops Q fuel listed s W := by
  simp only [segB, Bool.and_eq_true, decide_eq_true_eq] at hB
  obtain ⟨⟨⟨⟨hm, hsel⟩, hback⟩, hsink⟩, hX⟩ := hB
  simp only [toldS, Bool.and_eq_true, decide_eq_true_eq] at hK
  obtain ⟨⟨hK, hKt⟩, hKk⟩ := hK
  have hK' : ∀ e, e ∈ ks → (k ≤ e.k ∧ e.k < m) ∧ ((e.t < n ∧ (ops[e.k]?).bind (·.dst) = some e.t) ∨ ((n ≤ e.t ∧ (ops[e.k]?).bind (·.dst) = none) ∧ ∀ o, o ∈ ops → (o.looksAt ops).contains e.t = false)) := by
    intro e he
    have := List.all_eq_true.1 hK e he
    simp only [Bool.and_eq_true, Bool.or_eq_true, decide_eq_true_eq, beq_iff_eq] at this
    refine ⟨this.1, this.2.imp id fun h => ⟨h.1, fun o ho => ?_⟩⟩
    have := List.all_eq_true.1 h.2 o (Array.mem_toList_iff.2 ho)
    simpa using this
  have hb : ∀ i o, ops[i]? = some o → ∀ e ∈ o.after, Region.binds .any e = true → e.on < i := by
    intro i o ho e he hbi
    have := List.all_eq_true.1 hback i (List.mem_range.2 (Array.getElem?_eq_some_iff.1 ho).1)
    simp only [ho, Bool.and_eq_true] at this
    have h1 := Array.all_eq_true_iff_forall_mem.1 this.1 e he
    simpa [hbi] using h1
  have hT' : ∀ i o, ops[i]? = some o → m < i → ∃ j, m ≤ j ∧ j < i ∧ waits o j = true := by
    intro i o ho hj
    have := List.all_eq_true.1 hback i (List.mem_range.2 (Array.getElem?_eq_some_iff.1 ho).1)
    simp only [ho, Bool.and_eq_true] at this
    have := this.2
    simp only [Bool.or_eq_true, decide_eq_true_eq] at this
    rcases this with h | h
    · omega
    · obtain ⟨j, hj1, hj2⟩ := List.any_eq_true.1 h
      simp only [Bool.and_eq_true, decide_eq_true_eq] at hj2
      exact ⟨j, hj2.1, List.mem_range.1 hj1, hj2.2⟩
  have hS : m < ops.size → ∀ j, k ≤ j → j < m → ∃ n o, j < n ∧ n ≤ m ∧ ops[n]? = some o ∧ waits o j = true := by
    intro hlt j hkj hj
    rw [Bool.or_eq_true] at hsink
    rcases hsink with h | h
    · simp at h; omega
    · have h0 := List.all_eq_true.1 h j (List.mem_range.2 hj)
      rw [Bool.or_eq_true] at h0
      rcases h0 with h0 | h0
      · simp at h0; omega
      · obtain ⟨n, hk, h1⟩ := List.any_eq_true.1 h0
        simp only [Bool.and_eq_true, decide_eq_true_eq] at h1
        have hk' : n < ops.size := by have := List.mem_range.1 hk; omega
        have ho : ops[n]? = some ops[n] := Array.getElem?_eq_getElem hk'
        rw [ho] at h1
        exact ⟨n, _, h1.1, by have := List.mem_range.1 hk; omega, ho, h1.2⟩
  have hX' : ∀ i o, k ≤ i → i < m → ops[i]? = some o → ∀ j t, k ≤ j → j < m → (ops[j]?).bind (·.dst) = some t → (t ∈ o.looksAt ops → waits o j = true) ∧ (i ≠ j → o.dst ≠ some t) := by
    intro i o hki hi ho j t hkj hj hd
    have h0 := List.all_eq_true.1 hX i (List.mem_range.2 hi)
    rw [Bool.or_eq_true] at h0
    have h0 : _ := h0.resolve_left (by simp; omega)
    simp only [ho] at h0
    have h1 := List.all_eq_true.1 h0 j (List.mem_range.2 hj)
    rw [Bool.or_eq_true] at h1
    have this := h1.resolve_left (by simp; omega)
    simp only [hd, Bool.and_eq_true, Bool.or_eq_true, bne_iff_ne, beq_iff_eq, Bool.not_eq_true', List.contains_eq_mem, decide_eq_false_iff_not] at this
    refine ⟨fun hl => ?_, fun hne => ?_⟩
    · rcases this.1 with h | h
      · exact absurd hl h
      · exact h
    · rcases this.2 with h | h
      · exact absurd h hne
      · exact h
  have gsize : ∀ x, (G x).tmps.size = n := fun x => by rw [hG, putsK_size]; exact hn
  have gat : ∀ x e, e ∈ ks → e.t < n → (G x).tmps[e.t]? = some (x e.k) := fun x e he hlt => by
    rw [hG]
    exact putsK_at x ks G0 hKt e he (by rw [hn]; exact hlt)
  have finish : ∀ (listed : Array Bool) (s : Act) (W : World) (x : Nat → Value), InvH ops C cs ks k m (G x) listed s W x → (∀ j, j < m → listed.getD j false = true) → wpAny P .any ops Q (listed.toList.count false) listed s W := by
    intro listed s W x hI hall
    have hs := hI.all hall
    have hl := upTo_eq hI.size hm hall hI.head
    have hcl : stH cs listed = cs.length := count_cut _ cs _ (Nat.le_refl _) (fun j a _ ha => by
      obtain ⟨e, he, e2⟩ := hcc a (List.mem_of_getElem? ha)
      exact hall a (by rw [← e2]; exact (hK' e he).1.2)) (fun j a h ha => by
      have := (List.getElem?_eq_some_iff.1 ha).1
      omega)
    have h := ht W x (by rw [← hcl]; exact hI.cls) (fun e he => hI.told e he (hall _ (hK' e he).1.2))
    unfold wpFrom at h
    rw [hl, upTo_count hm, hs]
    exact h
  intro fuel
  induction fuel with
  | zero =>
    intro listed s W x hc hI
    have hall : ∀ j, j < m → listed.getD j false = true := fun j hj => listed_of (by rw [hI.size]; omega) (count_none hc j)
    have := finish listed s W x hI hall
    rw [hc] at this
    exact this
  | succ fuel ih =>
    intro listed s W x hc hI
    refine ⟨fun hr => by
      obtain ⟨i, hi⟩ := count_some hc
      exact absurd hr (first_ready hI.size hb i hi), fun i hi => ?_⟩
    obtain ⟨hun, o, ho, hall⟩ := mem_ready.1 hi
    have hilt : i < ops.size := (Array.getElem?_eq_some_iff.1 ho).1
    have hki : k ≤ i := by
      rcases Nat.lt_or_ge i k with h | h
      · have h1 := hI.done i h
        have h2 := (unlisted hun).2
        rw [h1] at h2; cases h2
      · exact h
    rcases Nat.lt_or_ge i m with him | him
    · have look : ∀ t, t ∈ o.looksAt ops → s.tmps[t]? = (G x).tmps[t]? := fun t htl =>
        hI.slot t fun j oj hkj hj hoj hd => waits_listed ((hX' i o hki him ho j t hkj hj (by rw [hoj]; exact hd)).1 htl) hall
      have he := exec_same (ops := ops) (Region.noSelect_spec hsel i o · · ho) look
      have hwt := wanted_same look
      have told_at : ∀ e, e ∈ ks → (o.looksAt ops).contains e.t = true → listed.getD e.k false = true := fun e hek htl => by
        obtain ⟨h1, ⟨_, h3⟩ | h3⟩ := hK' e hek
        · exact waits_listed ((hX' i o hki him ho e.k e.t h1.1 h1.2 h3).1 (by simpa using htl)) hall
        · have := h3.2 o (Array.mem_of_getElem? ho)
          rw [htl] at this
          cases this
      have facts : Facts ops ks o x (onTop W) := fun e hek htl d => hφ e hek _ _ _ (hI.told e hek (told_at e hek htl)) (onTop_below W d)
      have fit := hfit x i o hki him ho
      unfold SehFit at fit
      have fam := famC_top (hC (stH cs listed)) hI.cls
      obtain ⟨d0, hd0⟩ := of_below (Below.refl W.heap.size W)
      have other : ∀ e, e ∈ ks → e.k ≠ i → (listed.setIfInBounds i true).getD e.k false = true → listed.getD e.k false = true := fun e _ hne h => by
        rw [getD_set_ne false (Ne.symm hne)] at h; exact h
      have done' : ∀ j, j < k → (listed.setIfInBounds i true).getD j false = true := fun j hj => by rw [getD_set_ne false (by omega)]; exact hI.done j hj
      unfold wpOp
      simp only [ho]
      cases hc1 : toldAt ks i with
      | none =>
        rw [hc1] at fit
        have fit := fit _ _ fam facts
        have hnk := toldAt_none hc1
        have hic : i ∉ cs := fun h => by
          obtain ⟨e, he1, he2⟩ := hcc i h
          exact hnk e he1 he2
        have next : ∀ (v : Value) (W' : World), (∀ t, o.dst = some t → (G x).tmps[t]? = some v) → Below W.heap.size W W' → wpAny P .any ops Q fuel (listed.setIfInBounds i true) (s.put o.dst v) W' := by
          intro v W' hv hbW
          refine ih _ _ W' x (count_listed hun hc) ⟨by simpa using hI.size, done', fun j hj hj' => by rw [getD_set_ne true (by omega)]; exact hI.head j hj hj', by rw [put_size]; exact hI.fsize, by rw [put_defs]; exact hI.fdef, fun t hcond => ?_, by rw [stH_off hic]; exact hC _ _ _ hI.cls hbW, fun e hek hl => hφ e hek _ _ _ (hI.told e hek (other e hek (hnk e hek) hl)) hbW, closed_set ho hall hI.closed⟩
          by_cases hd : o.dst = some t
          · rw [hv t hd, hd]
            exact put_on (by rw [hI.fsize]; exact (Array.getElem?_eq_some_iff.1 (hv t hd)).1)
          · rw [put_off hd]
            refine hI.slot t fun j oj hkj hj hoj hdj => ?_
            have := hcond j oj hkj hj hoj hdj
            by_cases c : i = j
            · subst c
              rw [ho] at hoj
              cases hoj
              exact absurd hdj hd
            · rw [getD_set_ne false c] at this
              exact this
        rcases fit with ⟨hw, v, hv, hq⟩ | ⟨hw, hu⟩
        · rw [if_pos (hwt.trans hw)]
          left
          have hq := hq d0
          rw [← hd0] at hq
          unfold Oper.wp
          unfold Oper.quietAt at hq
          rw [he]
          generalize (execOp (G x).eval o).run P W = r at hq
          cases r with
          | halt x w' => exact hq.elim
          | ok n w' =>
            cases n <;> simp only [Oper.quietUpon] at hq <;> simp only [Oper.upon]
            case value u =>
              obtain ⟨e1, e2⟩ := hq
              rw [e1, e2]
              exact next v W hv (Below.refl _ _)
            case skip =>
              obtain ⟨e1, e2⟩ := hq
              rw [e1, ← e2]
              exact next v W hv (Below.refl _ _)
            case enter f args =>
              obtain ⟨e1, hc⟩ := hq
              rw [e1]
              exact hc.mono fun e w'' ⟨he, d, hw''⟩ => by subst he; rw [hw'']; exact next v _ hv (onTop_below W d)
        · rw [if_neg (by rw [hwt, hw]; exact Bool.false_ne_true)]
          exact next undef W hu (Below.refl _ _)
      | some e =>
        rw [hc1] at fit
        obtain ⟨hek, hei⟩ := toldAt_some hc1
        subst hei
        have hod : (e.t < n ∧ o.dst = some e.t) ∨ (n ≤ e.t ∧ o.dst = none) := by
          have := (hK' e hek).2
          rw [ho] at this
          exact this.imp id fun h => h.1
        have uniq : ∀ e', e' ∈ ks → e'.k = e.k → e' = e := fun e' he' hk => by
          have h1 := toldAt_mem ks hKk e' he'
          rw [hk, hc1] at h1
          exact (Option.some.inj h1).symm
        have next : ∀ (v : Value) (W' : World), e.φ v W' → C (stH cs (listed.setIfInBounds e.k true)) W' → (∀ e', e' ∈ ks → e'.k ≠ e.k → ∀ u, listed.getD e'.k false = true → e'.φ u W → e'.φ u W') → wpAny P .any ops Q fuel (listed.setIfInBounds e.k true) (s.put o.dst v) W' := by
          intro v W' hv hcls hkeep
          refine ih _ _ W' (upd x e.k v) (count_listed hun hc) ⟨by simpa using hI.size, done', fun j hj hj' => by rw [getD_set_ne true (by omega)]; exact hI.head j hj hj', by rw [put_size, hI.fsize, gsize, gsize], by rw [put_defs, hI.fdef, hG, hG, putsK_defs, putsK_defs], fun t hcond => ?_, hcls, fun e' hek' hl => ?_, closed_set ho hall hI.closed⟩
          · by_cases hd : o.dst = some t
            · rw [hd]
              rcases hod with ⟨hlt, hod⟩ | ⟨_, hod⟩
              case inr => rw [hod] at hd; cases hd
              obtain rfl : e.t = t := by rw [hod] at hd; exact Option.some.inj hd
              rw [gat _ e hek hlt, put_on (by rw [hI.fsize, gsize]; exact hlt)]
              show some v = some (if e.k = e.k then v else x e.k)
              rw [if_pos rfl]
            · by_cases hnt : n ≤ t
              · rw [put_off hd, Array.getElem?_eq_none (by rw [hI.fsize, gsize]; exact hnt), Array.getElem?_eq_none (by rw [gsize]; exact hnt)]
              rw [put_off hd, hG, putsK_upd x e.k v t ks G0 G0 rfl rfl (fun e' he' hk' hh => by
                have hh2 : e.t = t := by rw [← uniq e' he' hk']; exact hh
                rcases hod with ⟨_, hod⟩ | ⟨hge, _⟩
                · exact hd (by rw [hod, hh2])
                · exact hnt (hh2 ▸ hge)), ← hG]
              refine hI.slot t fun j oj hkj hj hoj hdj => ?_
              have := hcond j oj hkj hj hoj hdj
              by_cases c : e.k = j
              · subst c
                rw [ho] at hoj
                cases hoj
                exact absurd hdj hd
              · rw [getD_set_ne false c] at this
                exact this
          · by_cases c : e'.k = e.k
            · obtain rfl := uniq e' hek' c
              show e'.φ (if e'.k = e'.k then v else x e'.k) W'
              rw [if_pos rfl]
              exact hv
            · show e'.φ (if e'.k = e.k then v else x e'.k) W'
              rw [if_neg c]
              have hl' := other e' hek' c hl
              exact hkeep e' hek' c _ hl' (hI.told e' hek' hl')
        obtain ⟨hw, hy, hz⟩ := fit
        rw [if_pos (hwt.trans hw)]
        left
        by_cases hec : e.k ∈ cs
        · obtain ⟨j0, hj0⟩ := List.mem_iff_getElem?.1 hec
          have mono : ∀ j a b, cs[j]? = some a → cs[j + 1]? = some b → listed.getD b false = true → listed.getD a false = true := fun j a b ha hb' hl => by
            obtain ⟨o', ho', hw'⟩ := chain_at cs hQ j a b ha hb'
            exact waits_listed hw' (hI.closed b o' ho' hl)
          have grow : ∀ j a b, cs[j]? = some a → cs[j + 1]? = some b → a < b := fun j a b ha hb' => by
            obtain ⟨o', ho', hw'⟩ := chain_at cs hQ j a b ha hb'
            obtain ⟨e', he', hbe⟩ := Array.any_eq_true'.1 hw'
            simp only [Bool.and_eq_true, beq_iff_eq] at hbe
            have := hb b o' ho' e' he' hbe.1
            omega
          have un := (unlisted hun).2
          have ahead : ∀ j, j + 1 = j0 → ∀ a, cs[j]? = some a → listed.getD a false = true := fun j hj a ha => by
            obtain ⟨o', ho', hw'⟩ := chain_at cs hQ j a e.k ha (by rw [hj]; exact hj0)
            rw [ho] at ho'
            cases ho'
            exact waits_listed hw' hall
          have later := unl_from (f := fun a => listed.getD a false) mono hj0 un
          obtain ⟨hs1, hs2⟩ := stH_at mono grow hj0 (unlisted hun).1 un ahead
          have hcs := hI.cls
          rw [hs1] at hcs
          have hy := hz j0 hj0 W hcs (fun e' hek' htl _ => hI.told e' hek' (told_at e' hek' htl))
          have next' : ∀ (v : Value) (W' : World), (e.φ v W' ∧ C (j0 + 1) W' ∧ T j0 W W') → wpAny P .any ops Q fuel (listed.setIfInBounds e.k true) (s.put o.dst v) W' := fun v W' ⟨h1, h2, h3⟩ =>
            next v W' h1 (by rw [hs2]; exact h2) (fun e' he' hne u hl hu => hT j0 e' he' (fun i' hi' => by
              rcases Nat.lt_or_ge i' j0 with h | h
              · exact h
              · have := later i' e'.k h hi'
                rw [hl] at this
                cases this) u W W' hu hcs h3)
          unfold Oper.wp
          unfold leavesR at hy
          rw [he]
          generalize (execOp (G x).eval o).run P W = r at hy
          cases r with
          | halt x w' => exact hy.elim
          | ok n w' =>
            cases n <;> simp only [leavesUpon] at hy <;> simp only [Oper.upon]
            case value u => exact next' u w' hy
            case skip => exact next' undef w' hy
            case enter f args =>
              obtain ⟨e1, hc⟩ := hy
              rw [e1]
              exact hc.mono fun e' w'' ⟨v, he', h1⟩ => by subst he'; exact next' v w'' h1
        · have hy := hy hec _ _ fam facts d0
          rw [← hd0] at hy
          have next' : ∀ (v : Value) (W' : World), e.φ v W' → Below W.heap.size W W' → wpAny P .any ops Q fuel (listed.setIfInBounds e.k true) (s.put o.dst v) W' := fun v W' h1 h2 =>
            next v W' h1 (by rw [stH_off hec]; exact hC _ _ _ hI.cls h2) (fun e' he' _ u _ hu => hφ e' he' u W W' hu h2)
          unfold Oper.wp
          unfold yieldsR at hy
          rw [he]
          generalize (execOp (G x).eval o).run P W = r at hy
          cases r with
          | halt x w' => exact hy.elim
          | ok n w' =>
            cases n <;> simp only [yieldsUpon] at hy <;> simp only [Oper.upon]
            case value u => exact next' u w' hy.1 hy.2
            case skip => exact next' undef w' hy.1 hy.2
            case enter f args =>
              obtain ⟨e1, hc⟩ := hy
              rw [e1]
              exact hc.mono fun e' w'' ⟨v, he', h1, h2⟩ => by subst he'; exact next' v w'' h1 h2
    · obtain rfl : i = m := by
        rcases Nat.lt_or_ge m i with c | c
        · obtain ⟨j, h0, h1, h2⟩ := hT' i o ho c
          have h3 := waits_listed h2 hall
          have h4 := (unlisted (hI.head j h0 (by omega))).2
          rw [h3] at h4; cases h4
        · omega
      have hl : ∀ d j, i - j = d → k ≤ j → j < i → listed.getD j false = true := by
        intro d
        induction d using Nat.strongRecOn with
        | _ d ihd =>
          intro j hd hkj hj
          obtain ⟨n, on, hjn, hn, hon, hwn⟩ := hS hilt j hkj hj
          rcases Nat.lt_or_ge n i with c | c
          · have := ihd (i - n) (by omega) n rfl (by omega) c
            exact waits_listed hwn (hI.closed n on hon this)
          · obtain rfl : n = i := by omega
            rw [ho] at hon
            cases hon
            exact waits_listed hwn hall
      have hl' : ∀ j, j < i → listed.getD j false = true := fun j hj => by
        rcases Nat.lt_or_ge j k with c | c
        · exact hI.done j c
        · exact hl (i - j) j rfl c hj
      have h := finish listed s W x hI hl'
      rw [hc] at h
      exact h.2 i hi
/-- THE LAW of one segment, from k to m. -/
theorem seh {a : Act} {w : World} {l : List Oper} (C : Nat → World → Prop) (T : Nat → World → World → Prop) (cs : List Nat) (ks : List Told) (k m n : Nat) (hn : a.tmps.size = n) (hl : l = (ops.toList.drop k).take (m - k)) (hB : (decide (k ≤ m) && segB ops k m && lexOk ops n l) = true) (hK : toldS ops ks k m n = true)
    (hC : ∀ b W W', C b W → Below W.heap.size W W' → C b W') (hw : C 0 w)
    (hQ : chainB ops cs = true) (hcc : ∀ c, c ∈ cs → ∃ e, e ∈ ks ∧ e.k = c)
    (hφ : ∀ e, e ∈ ks → ∀ v W W', e.φ v W → Below W.heap.size W W' → e.φ v W')
    (hT : ∀ j e, e ∈ ks → (∀ i, cs[i]? = some e.k → i < j) → ∀ v W W', e.φ v W → C j W → T j W W' → e.φ v W')
    (h : ∃ G : (Nat → Value) → Act, (∀ x, sehWalk P ops C T cs ks x (G x) k l a) ∧ (∀ x, G x = putsK ks x (G fun _ => undef)) ∧
      ∀ W x, C cs.length W → (∀ e, e ∈ ks → e.φ (x e.k) W) → wpFrom P ops Q m (G x) W) : wpFrom P ops Q k a w := by
  obtain ⟨G, h1, h2, h3⟩ := h
  simp only [Bool.and_eq_true, decide_eq_true_eq] at hB
  obtain ⟨⟨hkm, hB1⟩, hlex⟩ := hB
  have hB' := hB1
  simp only [segB, Bool.and_eq_true, decide_eq_true_eq] at hB'
  have hms := hB'.1.1.1.1
  have hK2 := hK
  simp only [toldS, Bool.and_eq_true, decide_eq_true_eq] at hK2
  have hKe : ∀ e, e ∈ ks → k ≤ e.k ∧ e.k < m := fun e hek => by
    have := List.all_eq_true.1 hK2.1.1 e hek
    simp only [Bool.and_eq_true, Bool.or_eq_true, decide_eq_true_eq, beq_iff_eq] at this
    exact this.1
  have at_ : ∀ j, k + j < m → l[j]? = ops[k + j]? := by
    intro j hj
    rw [hl, List.getElem?_take_of_lt (by omega), List.getElem?_drop]
    simp
  have hk : ∀ j e, toldAt ks (k + j) = some e → ∀ o, l[j]? = some o → dstOf n o e.t := by
    intro j e he o ho
    obtain ⟨hek, hej⟩ := toldAt_some he
    have := List.all_eq_true.1 hK2.1.1 e hek
    simp only [Bool.and_eq_true, Bool.or_eq_true, decide_eq_true_eq, beq_iff_eq] at this
    rw [at_ j (by rw [← hej]; exact this.1.2)] at ho
    have h4 := this.2
    rw [hej, ho] at h4
    exact h4.imp (fun h => h.2) fun h => ⟨h.1.2, h.1.1⟩
  have hsel : ∀ o, o ∈ l → ∀ cs b, o.op ≠ .select cs b := by
    intro o ho cs b
    rw [hl] at ho
    obtain ⟨j, hj, e⟩ := List.getElem_of_mem (List.mem_of_mem_drop (List.mem_of_mem_take ho))
    exact Region.noSelect_spec hB'.1.1.1.2 j o cs b (by rw [← e]; simp at hj ⊢)
  have hsz : ∀ x, (G x).tmps.size = n := fun x => by rw [(seh_off l k a hn hk (h1 x)).1, hn]
  have off := seh_off l k a hn hk (h1 fun _ => undef)
  unfold wpFrom
  refine seh_any (C := C) (T := T) (cs := cs) (ks := ks) (k := k) (m := m) (n := n) (G := G) (G0 := G fun _ => undef) hB1 hK hkm hC hQ hcc hφ hT h2 (hsz _) (fun x i o hki hi ho => ?_) h3 _ _ _ _ (fun _ => undef) ?_ ⟨upTo_size (Nat.le_trans hkm hms), fun j hj => upTo_lt hj _, fun j hj hj' => upTo_ge (Nat.le_trans hkm hj) hj' _, off.1.symm, off.2.1.symm, fun t hc => ?_, ?_, fun e he hl => ?_, fun j o ho hl e he hbi => ?_⟩
  · have := seh_fit n l k a hn hsel hlex hk (h1 x) (i - k) o (by rw [at_ (i - k) (by omega), show k + (i - k) = i by omega]; exact ho)
    rw [show k + (i - k) = i by omega] at this
    exact this
  · exact upTo_count (Nat.le_trans hkm hms)
  · refine (off.2.2 t fun hm' => ?_).symm
    obtain ⟨o, ho, hd⟩ := List.mem_filterMap.1 hm'
    obtain ⟨j, hj, e⟩ := List.getElem_of_mem ho
    have hjl : j < m - k := by rw [hl] at hj; simp at hj; omega
    have ho' : ops[k + j]? = some o := by rw [← at_ j (by omega), List.getElem?_eq_getElem hj, e]
    have hlt : k + j < ops.size := (Array.getElem?_eq_some_iff.1 ho').1
    have := hc (k + j) o (by omega) (by omega) ho' hd
    rw [upTo_ge (by omega) hlt] at this
    cases this
  · have : stH cs (upTo ops.size k) = 0 := count_cut _ cs 0 (Nat.zero_le _) (fun j a h => by omega) (fun j a _ ha => by
      obtain ⟨e, he, e2⟩ := hcc a (List.mem_of_getElem? ha)
      have := hKe e he
      exact upTo_ge (by omega) (by omega) _)
    rw [this]
    exact hw
  · obtain ⟨h4, h5⟩ := hKe e he
    rw [upTo_ge h4 (by omega)] at hl
    cases hl
  · have hlt : j < ops.size := (Array.getElem?_eq_some_iff.1 ho).1
    have hjk : j < k := by
      rcases Nat.lt_or_ge j k with h | h
      · exact h
      · rw [upTo_ge h hlt] at hl; cases hl
    have h6 := List.all_eq_true.1 hB'.1.1.2 j (List.mem_range.2 hlt)
    simp only [ho, Bool.and_eq_true] at h6
    have h7 := Array.all_eq_true_iff_forall_mem.1 h6.1 e he
    have h8 : e.on < j := by simpa [hbi] using h7
    exact upTo_lt (by omega) _
theorem sehQuiet {C : Nat → World → Prop} {T : Nat → World → World → Prop} {cs : List Nat} {ks : List Told} {x : Nat → Value} {G a : Act} {i : Nat} {o : Oper} {l : List Oper} (hk : toldAt ks i = none) (hw : Region.wanted o (yielded ops a.tmps) = true)
    (h : ∃ v, (∀ b F, FamC (C b) F → Facts ops ks o x F → ∀ K : Act → Prop, K (a.put o.dst v) → o.quiet P a (fun W => ∃ d, W = F d) K) ∧ sehWalk P ops C T cs ks x G (i + 1) l (a.put o.dst v)) : sehWalk P ops C T cs ks x G i (o :: l) a := by
  rw [sehWalk, hk]
  obtain ⟨v, h1, h2⟩ := h
  exact ⟨v, fun b F hF hf => by rw [if_pos hw]; exact h1 b F hF hf, h2⟩
theorem sehSkip {C : Nat → World → Prop} {T : Nat → World → World → Prop} {cs : List Nat} {ks : List Told} {x : Nat → Value} {G a : Act} {i : Nat} {o : Oper} {l : List Oper} (hk : toldAt ks i = none) (hw : Region.wanted o (yielded ops a.tmps) = false)
    (h : sehWalk P ops C T cs ks x G (i + 1) l (a.put o.dst undef)) : sehWalk P ops C T cs ks x G i (o :: l) a := by
  rw [sehWalk, hk]
  exact ⟨undef, fun b F hF hf => by rw [if_neg (by rw [hw]; exact Bool.false_ne_true)], h⟩
theorem sehTold {C : Nat → World → Prop} {T : Nat → World → World → Prop} {cs : List Nat} {ks : List Told} {x : Nat → Value} {G a : Act} {i : Nat} {o : Oper} {l : List Oper} {e : Told} (hk : toldAt ks i = some e) (hi : i ∉ cs) (hw : Region.wanted o (yielded ops a.tmps) = true)
    (h1 : ∀ b F, FamC (C b) F → Facts ops ks o x F → ∀ d, yieldsR P o a (F d) e.φ) (h2 : sehWalk P ops C T cs ks x G (i + 1) l (a.put (some e.t) (x e.k))) : sehWalk P ops C T cs ks x G i (o :: l) a := by
  rw [sehWalk, hk]
  exact ⟨⟨hw, fun _ => h1, fun j h => absurd (List.mem_of_getElem? h) hi⟩, h2⟩
theorem sehBusy {C : Nat → World → Prop} {T : Nat → World → World → Prop} {cs : List Nat} {ks : List Told} {x : Nat → Value} {G a : Act} {i : Nat} {o : Oper} {l : List Oper} {e : Told} (hk : toldAt ks i = some e) (j : Nat) (hi : cs[j]? = some i) (hun : ∀ j', cs[j']? = some i → j' = j) (hw : Region.wanted o (yielded ops a.tmps) = true)
    (h1 : ∀ W, C j W → Facts ops ks o x (fun _ => W) → leavesR P o a W (fun v W' => e.φ v W' ∧ C (j + 1) W' ∧ T j W W')) (h2 : sehWalk P ops C T cs ks x G (i + 1) l (a.put (some e.t) (x e.k))) : sehWalk P ops C T cs ks x G i (o :: l) a := by
  rw [sehWalk, hk]
  exact ⟨⟨hw, fun h => absurd (List.mem_of_getElem? hi) h, fun j' hj => by rw [hun j' hj]; exact h1⟩, h2⟩
theorem sehStore {C : Nat → World → Prop} {T : Nat → World → World → Prop} {cs : List Nat} {ks : List Told} {x : Nat → Value} {G a : Act} {i : Nat} {o : Oper} {l : List Oper} {e : Told} (hk : toldAt ks i = some e) (j : Nat) (hi : cs[j]? = some i) (hun : ∀ j', cs[j']? = some i → j' = j) (hw : Region.wanted o (yielded ops a.tmps) = true) (hout : a.tmps.size ≤ e.t)
    (h1 : ∀ W, C j W → Facts ops ks o x (fun _ => W) → leavesR P o a W (fun v W' => e.φ v W' ∧ C (j + 1) W' ∧ T j W W')) (h2 : sehWalk P ops C T cs ks x G (i + 1) l a) : sehWalk P ops C T cs ks x G i (o :: l) a := by
  rw [sehWalk, hk]
  exact ⟨⟨hw, fun h => absurd (List.mem_of_getElem? hi) h, fun j' hj => by rw [hun j' hj]; exact h1⟩, by rw [put_out hout]; exact h2⟩
theorem sehEnd {C : Nat → World → Prop} {T : Nat → World → World → Prop} {cs : List Nat} {ks : List Told} {x : Nat → Value} {G a : Act} {i : Nat} (h : a = G) : sehWalk P ops C T cs ks x G i [] a := h
end
end Go.Proofs.Ythmpfdkbpdbhnaa.Wd
