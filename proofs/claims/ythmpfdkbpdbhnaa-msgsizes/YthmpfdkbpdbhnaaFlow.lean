/- A region that draws its order: its operations only read, its callees leave all that stood as it was, at most one operation makes a block, and the last ones (stores) wait for all others: walked once, in the order of the text. A region that draws its order, some of whose operations hand back values that differ from world to world (a new block's address): each such value is told by what stays true of it; walked once, in the order of the text. The law of Rel.lean, where one operation (number i0) hands back a value in whatever world, and the rest need not wait for it: it is taken as soon as it may come up. Nothing of the program is named here. -/
import Derived.Deep.QuietTactic
import Derived.BigQuiet
import Derived.Below
import Derived.Handy
namespace Go.Proofs.Ythmpfdkbpdbhnaa.Wd
open Go.RowKit
set_option linter.unusedVariables false
set_option linter.unusedSimpArgs false
/-- A world that keeps all that stood in w0. -/
def onTop (w0 d : World) : World := { d with heap := w0.heap ++ d.heap.extract w0.heap.size d.heap.size, os := w0.os, tape := w0.tape, output := w0.output }
theorem onTop_below (w0 d : World) : Below w0.heap.size w0 (onTop w0 d) :=
  ⟨rfl, rfl, rfl, by unfold onTop; simp, fun k hk => by unfold onTop; simp [Array.getElem?_append, hk]⟩
theorem of_below {w0 W : World} (h : Below w0.heap.size w0 W) : ∃ d, W = onTop w0 d := by
  refine ⟨W, ?_⟩
  obtain ⟨heap, tape, drawn, os, output⟩ := W
  obtain ⟨h1, h2, h3, h4, h5⟩ := h
  simp only at h1 h2 h3 h4 h5
  subst h1 h2 h3
  unfold onTop
  congr 1
  refine Array.ext_getElem? fun i => ?_
  rw [Array.getElem?_append]
  split
  · rename_i hi
    exact h5 i hi
  · rename_i hi
    rw [Array.getElem?_extract]
    show _ = if i - w0.heap.size < min heap.size heap.size - w0.heap.size then heap[w0.heap.size + (i - w0.heap.size)]? else none
    rw [Nat.min_self]
    by_cases c : i < heap.size
    · rw [if_pos (by omega), show w0.heap.size + (i - w0.heap.size) = i by omega]
    · rw [if_neg (by omega)]
      exact Array.getElem?_eq_none (by omega)
/-- A family of worlds on top of w, which holds with each world all that keep what stood in it. -/
structure Fam (w : World) (F : World → World) : Prop where
  below : ∀ d, Below w.heap.size w (F d)
  on : ∀ d W, Below (F d).heap.size (F d) W → ∃ d', W = F d'
theorem fam_top {w W : World} (h : Below w.heap.size w W) : Fam w (onTop W) :=
  ⟨fun d => h.trans ((onTop_below W d).mono h.size), fun d W' hb => of_below ((onTop_below W d).trans (hb.mono (onTop_below W d).size))⟩
theorem Fam.cell {w : World} {F : World → World} (h : Fam w F) (d : World) (b o : Nat) (hb : b < w.heap.size) : (F d).cell? ⟨b, o, none⟩ = w.cell? ⟨b, o, none⟩ := (h.below d).cell (p := ⟨b, o, none⟩) hb
theorem Fam.frozen {w : World} {F : World → World} (h : Fam w F) (d : World) (b o : Nat) (hb : b < w.heap.size) : (F d).frozen? ⟨b, o, none⟩ = w.frozen? ⟨b, o, none⟩ := (h.below d).frozen (p := ⟨b, o, none⟩) hb
theorem Fam.call {w : World} {F : World → World} (hF : Fam w F) {P : Program} {f : FuncId} {args : Array Value} {d : World} {v : Value}
    (h : Calls P f args (F d) fun e w' => e = .returned v ∧ Below (F d).heap.size (F d) w') : Calls P f args (F d) fun e w'' => e = .returned v ∧ ∃ d', w'' = F d' :=
  h.mono fun _ _ ⟨he, hb⟩ => ⟨he, hF.on d _ hb⟩
theorem Fam.same {w : World} {F : World → World} (hF : Fam w F) {P : Program} {f : FuncId} {args : Array Value} {d : World} {v : Value}
    (h : Calls P f args (F d) fun e w' => e = .returned v ∧ w' = F d) : Calls P f args (F d) fun e w'' => e = .returned v ∧ ∃ d', w'' = F d' :=
  h.mono fun _ _ ⟨he, hb⟩ => ⟨he, d, hb⟩
section
variable {P : Program} {ops : Array Oper} {Q : Exit → Act → World → Prop}
theorem put_off {a : Act} {dst : Option Tmp} {v : Value} {t : Nat} (h : dst ≠ some t) : (a.put dst v).tmps[t]? = a.tmps[t]? := by
  cases dst with
  | none => rfl
  | some d => exact Array.getElem?_setIfInBounds_ne (fun e => h (by rw [e]))
theorem put_on {a : Act} {t : Nat} {v : Value} (h : t < a.tmps.size) : (a.put (some t) v).tmps[t]? = some v := by
  simp [Act.put, h]
theorem put_size (a : Act) (dst : Option Tmp) (v : Value) : (a.put dst v).tmps.size = a.tmps.size := by cases dst <;> simp [Act.put]
theorem put_defs (a : Act) (dst : Option Tmp) (v : Value) : (a.put dst v).defers = a.defers := by cases dst <;> simp [Act.put]
theorem putL : (∀ (a : Act) (v : Value), a.put none v = a) ∧ (∀ (a : Act) (t : Tmp) (v : Value), a.put (some t) v = ⟨a.tmps.setIfInBounds t v, a.defers⟩) ∧ (∀ (l : List Value) (i : Nat) (x : Value), l.toArray.setIfInBounds i x = (l.set i x).toArray) ∧ (∀ (x y : Value) (l : List Value), (y :: l).set 0 x = x :: l) ∧ (∀ (x y : Value) (l : List Value) (i : Nat), (y :: l).set (i + 1) x = y :: l.set i x) :=
  ⟨fun _ _ => rfl, fun _ _ _ => rfl, fun _ _ _ => List.setIfInBounds_toArray .., fun _ _ _ => rfl, fun _ _ _ _ => rfl⟩
theorem hid2 {p q : Prop} (a : p) (b : q) : Hid (p ∧ q) := ⟨a, b⟩
theorem exec_same {o : Oper} (hs : ∀ cs b, o.op ≠ .select cs b) {a A : Act} (h : ∀ t, t ∈ o.looksAt ops → A.tmps[t]? = a.tmps[t]?) : execOp A.eval o = execOp a.eval o :=
  execOp_congr o hs fun x hx => by
    cases x with
    | tmp t =>
      have := h t (List.mem_append_left _ (List.mem_filterMap.2 ⟨.tmp t, by simpa using hx, rfl⟩))
      simp only [Act.eval, Array.getD_eq_getD_getElem?, this]
    | const v => rfl
    | global g => rfl
    | func f => rfl
theorem wanted_same {o : Oper} {a A : Act} (h : ∀ t, t ∈ o.looksAt ops → A.tmps[t]? = a.tmps[t]?) : Region.wanted o (yielded ops A.tmps) = Region.wanted o (yielded ops a.tmps) := by
  unfold Region.wanted
  cases hg : o.guard with
  | none => rfl
  | some gw =>
    obtain ⟨g, b⟩ := gw
    have : yielded ops A.tmps g = yielded ops a.tmps g := by
      unfold yielded
      cases hd : (ops[g]?).bind (·.dst) with
      | none => rfl
      | some d =>
        have := h d (List.mem_append_right _ (by simp [hg, hd]))
        simp only [Option.bind_some, this]
    simp only [this]
def dsts (l : List Oper) : List Tmp := l.filterMap (·.dst)
theorem quiet_off {C : World → Prop} {A : Act} : ∀ (l : List Oper) (a : Act), wpQuiet P ops C (fun a' => a' = A) l a →
    A.tmps.size = a.tmps.size ∧ A.defers = a.defers ∧ ∀ t, t ∉ dsts l → A.tmps[t]? = a.tmps[t]?
  | [], a, h => by
    obtain rfl : a = A := h
    exact ⟨rfl, rfl, fun _ _ => rfl⟩
  | o :: l, a, h => by
    obtain ⟨v, hv⟩ : ∃ v, wpQuiet P ops C (fun a' => a' = A) l (a.put o.dst v) := by
      rw [wpQuiet] at h
      split at h
      · obtain ⟨v, _, h⟩ := h
        exact ⟨v, h⟩
      · exact ⟨_, h⟩
    obtain ⟨h1, h2, h3⟩ := quiet_off l _ hv
    refine ⟨by rw [h1, put_size], by rw [h2, put_defs], fun t ht => ?_⟩
    rw [h3 t (fun hm => ht (by
      obtain ⟨x, hx, hd⟩ := List.mem_filterMap.1 hm
      exact List.mem_filterMap.2 ⟨x, List.mem_cons_of_mem _ hx, hd⟩)), put_off (fun hd => ht (List.mem_filterMap.2 ⟨o, List.mem_cons_self, hd⟩))]
def lexOk (ops : Array Oper) (n : Nat) : List Oper → Bool
  | [] => true
  | o :: l => (match o.dst with | some t => decide (t < n) && !(dsts l).contains t | none => true) && ((dsts (o :: l)).all fun t => !(o.looksAt ops).contains t) && lexOk ops n l
theorem fit_class {C : World → Prop} {A : Act} (n : Nat) : ∀ (l : List Oper) (a : Act), a.tmps.size = n → (∀ o, o ∈ l → ∀ cs b, o.op ≠ .select cs b) → lexOk ops n l = true →
    wpQuiet P ops C (fun a' => a' = A) l a → ∀ o, o ∈ l →
    (Region.wanted o (yielded ops A.tmps) = true ∧ ∃ v, (∀ t, o.dst = some t → A.tmps[t]? = some v) ∧ ∀ W, C W → o.quietAt P A C W v) ∨
    (Region.wanted o (yielded ops A.tmps) = false ∧ ∀ t, o.dst = some t → A.tmps[t]? = some undef)
  | [], _, _, _, _, _, o, ho => by cases ho
  | o :: l, a, hn, hs, hl, h, x, hx => by
    have off := quiet_off (o :: l) a h
    rw [lexOk, Bool.and_eq_true, Bool.and_eq_true] at hl
    obtain ⟨⟨hd, hlook⟩, hl⟩ := hl
    have look : ∀ t, t ∈ o.looksAt ops → A.tmps[t]? = a.tmps[t]? := fun t ht => off.2.2 t (fun hm => by
      have := List.all_eq_true.1 hlook t hm
      simp at this
      exact this ht)
    have he := exec_same (ops := ops) (hs o List.mem_cons_self) look
    have hw := wanted_same look
    have later : ∀ v, wpQuiet P ops C (fun a' => a' = A) l (a.put o.dst v) → ∀ t, o.dst = some t → A.tmps[t]? = some v := by
      intro v hv t ht
      rw [ht] at hd hv
      simp at hd
      rw [(quiet_off l _ hv).2.2 t hd.2, put_on (by rw [hn]; exact hd.1)]
    rw [wpQuiet] at h
    by_cases c : Region.wanted o (yielded ops a.tmps) = true
    · rw [if_pos c] at h
      obtain ⟨v, hq, hv⟩ := h
      rcases List.mem_cons.1 hx with rfl | hx
      · left
        refine ⟨hw.trans c, v, later v hv, fun W hW => ?_⟩
        have := hq W hW
        unfold Oper.quietAt at *
        rw [he]
        exact this
      · exact fit_class n l _ (by rw [put_size]; exact hn) (fun o ho => hs o (List.mem_cons_of_mem _ ho)) hl hv x hx
    · rw [if_neg c] at h
      rcases List.mem_cons.1 hx with rfl | hx
      · right
        exact ⟨hw.trans (by simpa using c), later _ h⟩
      · exact fit_class n l _ (by rw [put_size]; exact hn) (fun o ho => hs o (List.mem_cons_of_mem _ ho)) hl h x hx
theorem quietAt_mono {o : Oper} {a : Act} {C C' : World → Prop} {W : World} {v : Value} (h : ∀ W', C W' → C' W') (hq : o.quietAt P a C W v) : o.quietAt P a C' W v := by
  unfold Oper.quietAt at *
  generalize (execOp a.eval o).run P W = r at *
  cases r with
  | halt x w' => exact hq
  | ok n w' =>
    cases n <;> simp only [Oper.quietUpon] at hq ⊢
    case value u => exact hq
    case skip => exact hq
    case enter f args => exact ⟨hq.1, hq.2.mono fun e w'' ⟨he, hc⟩ => ⟨he, h _ hc⟩⟩
/-- The operation waits for the one with that number. -/
def waits (o : Oper) (j : Nat) : Bool := o.after.any fun e => Region.binds .any e && e.on == j
theorem waits_listed {o : Oper} {j : Nat} {listed : Array Bool} (h : waits o j = true) (hl : ∀ e ∈ o.after, Region.binds .any e = true → listed.getD e.on false = true) : listed.getD j false = true := by
  obtain ⟨e, he, hb⟩ := Array.any_eq_true'.1 h
  simp only [Bool.and_eq_true, beq_iff_eq] at hb
  rw [← hb.2]
  exact hl e he hb.1
theorem unlisted {listed : Array Bool} {j : Nat} (h : listed.getD j true = false) : j < listed.size ∧ listed.getD j false = false := by
  by_cases c : j < listed.size
  · refine ⟨c, ?_⟩
    simp [c] at h ⊢
    exact h
  · simp [c] at h
theorem listed_of {listed : Array Bool} {j : Nat} (hj : j < listed.size) (h : ¬ listed.getD j true = false) : listed.getD j false = true := by
  simp [hj] at h ⊢
  exact h
theorem count_listed {listed : Array Bool} {i n : Nat} (hi : listed.getD i true = false) (h : listed.toList.count false = n + 1) : (listed.setIfInBounds i true).toList.count false = n := by
  obtain ⟨h1, h2⟩ := unlisted hi
  have hl : i < listed.toList.length := by simpa using h1
  rw [Array.toList_setIfInBounds, List.count_set hl, h]
  have : listed.toList[i] = false := by simpa [h1] using h2
  simp [this]
theorem count_some {listed : Array Bool} {n : Nat} (h : listed.toList.count false = n + 1) : ∃ i, listed.getD i true = false := by
  have hm : false ∈ listed.toList := List.count_pos_iff.1 (by omega)
  obtain ⟨i, hi, e⟩ := List.getElem_of_mem hm
  refine ⟨i, ?_⟩
  have hi' : i < listed.size := by simpa using hi
  simp only [Array.getElem_toList] at e
  simp [hi', e]
theorem count_none {listed : Array Bool} (h : listed.toList.count false = 0) (j : Nat) : ¬ listed.getD j true = false := by
  intro hj
  obtain ⟨h1, h2⟩ := unlisted hj
  refine List.count_eq_zero.1 h ?_
  have : listed[j] = false := by simpa [h1] using h2
  rw [← this]
  simp
/-- Whoever is the first not yet come up is ready. -/
theorem first_ready {listed : Array Bool} (hsz : listed.size = ops.size) (hb : ∀ i o, ops[i]? = some o → ∀ e ∈ o.after, Region.binds .any e = true → e.on < i) :
    ∀ i, listed.getD i true = false → Region.ready .any ops listed ≠ [] := by
  intro i
  induction i using Nat.strongRecOn with
  | _ i ih =>
    intro hi hr
    obtain ⟨h1, h2⟩ := unlisted hi
    have ho : ops[i]? = some ops[i] := Array.getElem?_eq_getElem (by omega)
    have : i ∈ Region.ready .any ops listed := mem_ready.2 ⟨hi, _, ho, fun e he hbi => by
      have hlt := hb i _ ho e he hbi
      by_cases c : listed.getD e.on true = false
      · exact absurd hr (ih _ hlt c)
      · exact listed_of (by omega) c⟩
    rw [hr] at this
    cases this
theorem tail_any (hb : ∀ i o, ops[i]? = some o → ∀ e ∈ o.after, Region.binds .any e = true → e.on < i) {m : Nat} (hT : ∀ i o, ops[i]? = some o → ∀ j, m ≤ j → j < i → waits o j = true) :
    ∀ (fuel k : Nat) (listed : Array Bool) (s : Act) (W : World), listed.size = ops.size → m ≤ k → listed.toList.count false = fuel → (∀ j, j < k → listed.getD j false = true) → (∀ j, k ≤ j → j < ops.size → listed.getD j true = false) →
      wpList P ops Q (ops.toList.drop k) s W → wpAny P .any ops Q fuel listed s W := by
  intro fuel
  induction fuel with
  | zero =>
    intro k listed s W hsz hmk hk h1 h2 h
    have hk' : ops.size ≤ k := by
      rcases Nat.lt_or_ge k ops.size with c | c
      · exact absurd (h2 k (Nat.le_refl _) c) (count_none hk k)
      · exact c
    rw [List.drop_eq_nil_of_le (by simpa using hk')] at h
    refine ⟨?_, h⟩
    refine List.eq_nil_iff_forall_not_mem.2 fun i hi => ?_
    exact count_none hk i (mem_ready.1 hi).1
  | succ fuel ih =>
    intro k listed s W hsz hmk hk h1 h2 h
    have hlt : k < ops.size := by
      obtain ⟨i, hi⟩ := count_some hk
      obtain ⟨h3, h4⟩ := unlisted hi
      rcases Nat.lt_or_ge i k with c | c
      · rw [h1 i c] at h4; cases h4
      · omega
    refine ⟨fun hr => absurd hr (first_ready hsz hb k (h2 k (Nat.le_refl _) hlt)), fun i hi => ?_⟩
    obtain ⟨hun, o, ho, hall⟩ := mem_ready.1 hi
    obtain ⟨h3, h4⟩ := unlisted hun
    have hik : k ≤ i := by
      rcases Nat.lt_or_ge i k with c | c
      · rw [h1 i c] at h4; cases h4
      · exact c
    obtain rfl : i = k := by
      rcases Nat.lt_or_ge k i with c | c
      · have := waits_listed (hT i o ho k hmk c) hall
        have h5 := (unlisted (h2 k (Nat.le_refl _) hlt)).2
        rw [this] at h5; cases h5
      · omega
    rw [List.drop_eq_getElem_cons (by simpa using hlt)] at h
    have ho' : ops.toList[i]'(by simpa using hlt) = o := by
      have := Array.getElem?_eq_some_iff.1 ho
      simpa using this.2
    rw [ho', wpList] at h
    unfold wpOp
    simp only [ho]
    have go : ∀ a w, wpList P ops Q (ops.toList.drop (i + 1)) a w → wpAny P .any ops Q fuel (listed.setIfInBounds i true) a w := fun a w hw =>
      ih (i + 1) _ a w (by simpa using hsz) (by omega) (count_listed hun hk) (fun j hj => by
        by_cases c : j = i
        · subst c; simp [hsz, hlt]
        · exact getD_set_true (h1 j (by omega))) (fun j hj hj' => by rw [getD_set_ne true (by omega)]; exact h2 j (by omega) hj') hw
    split
    · rename_i c
      rw [if_pos c] at h
      rcases h with h | h
      · exact .inl (Oper.wp_mono go h)
      · exact .inr h
    · rename_i c
      rw [if_neg c] at h
      exact go _ _ h
/-- The block that was made: it stands, new, as it was laid. -/
def Made (w : World) (obj : Obj) (b : Nat) (W : World) : Prop := b < W.heap.size ∧ w.heap.size ≤ b ∧ W.heap[b]? = some obj
theorem Made.up {w W W' : World} {obj : Obj} {b : Nat} (h : Made w obj b W) (hb : Below W.heap.size W W') : Made w obj b W' :=
  ⟨Nat.lt_of_lt_of_le h.1 hb.size, h.2.1, (hb.block b h.1).trans h.2.2⟩
def ptrTo (b : Nat) : Value := .pointer (some ⟨b, 0, none⟩)
theorem closed_set {listed : Array Bool} {i : Nat} {o : Oper} (ho : ops[i]? = some o) (hall : ∀ e ∈ o.after, Region.binds .any e = true → listed.getD e.on false = true)
    (h : ∀ j o, ops[j]? = some o → listed.getD j false = true → ∀ e ∈ o.after, Region.binds .any e = true → listed.getD e.on false = true) :
    ∀ j o, ops[j]? = some o → (listed.setIfInBounds i true).getD j false = true → ∀ e ∈ o.after, Region.binds .any e = true → (listed.setIfInBounds i true).getD e.on false = true := by
  intro j oj hoj hl e he hb
  by_cases c : i = j
  · subst c
    rw [ho] at hoj
    cases hoj
    exact getD_set_true (hall e he hb)
  · rw [getD_set_ne false c] at hl
    exact getD_set_true (h j oj hoj hl e he hb)
theorem head_mem {al m : Nat} {l : List Oper} (hl : l = (ops.toList.take m).eraseIdx al) (i : Nat) (o : Oper) (hi : i < m) (hne : i ≠ al) (ho : ops[i]? = some o) : o ∈ l := by
  rw [hl]
  have h1 : (ops.toList.take m)[i]? = some o := by
    rw [List.getElem?_take_of_lt hi]
    simpa using ho
  rcases Nat.lt_or_ge i al with c | c
  · exact List.mem_of_getElem? (i := i) (by rw [List.getElem?_eraseIdx_of_lt c]; exact h1)
  · refine List.mem_of_getElem? (i := i - 1) (l := (ops.toList.take m).eraseIdx al) ?_
    rw [List.getElem?_eraseIdx_of_ge (by omega), show i - 1 + 1 = i by omega]
    exact h1
theorem Made.frozen {w W : World} {b : Nat} {cs : Array Value} {t : TypeId} (h : Made w (.cells cs t) b W) (i : Nat) : W.frozen? ⟨b, i, none⟩ = false := by
  unfold World.frozen?
  simp [h.2.2]
theorem below_set2 {B : Nat} {a w : World} (h : Below B a w) (b : Nat) (hb : B ≤ b) (x y : Value) : Below B a ((w.setCell ⟨b, 0, none⟩ x).setCell ⟨b, 1, none⟩ y) :=
  (h.setCell (p := ⟨b, 0, none⟩) hb x).setCell (p := ⟨b, 1, none⟩) hb y
theorem name_world {c : Code} {a : Act} {w : World} (h : ∀ W0, W0 = w → c.wp P Q a W0) : c.wp P Q a w := h w rfl
theorem Made.cell {w W : World} {b i : Nat} {cs : Array Value} {t : TypeId} {fz : Nat × Nat} {v : Value} (h : Made w (.cells cs t fz) b W) (hi : cs[i]? = some v) : W.cell? ⟨b, i, none⟩ = some v := by
  unfold World.cell?
  simp only [h.2.2]
  simpa using hi
end
end Go.Proofs.Ythmpfdkbpdbhnaa.Wd
namespace Go.Proofs.Ythmpfdkbpdbhnaa.Wd
open Go.RowKit
set_option linter.unusedVariables false
set_option linter.unusedSimpArgs false
section
variable {P : Program} {ops : Array Oper} {Q : Exit → Act → World → Prop}
/-- What the operation number k hands back, and what stays true of it. -/
structure Told where
  k : Nat
  t : Tmp
  φ : Value → World → Prop
/-- The frame G with the told values in their slots. -/
def putsK (ks : List Told) (x : Nat → Value) (G : Act) : Act := ks.foldl (fun a e => a.put (some e.t) (x e.k)) G
theorem putsK_size (x : Nat → Value) : ∀ (ks : List Told) (G : Act), (putsK ks x G).tmps.size = G.tmps.size
  | [], _ => rfl
  | e :: ks, G => by rw [putsK, List.foldl_cons]; exact (putsK_size x ks _).trans (put_size _ _ _)
theorem putsK_defs (x : Nat → Value) : ∀ (ks : List Told) (G : Act), (putsK ks x G).defers = G.defers
  | [], _ => rfl
  | e :: ks, G => by rw [putsK, List.foldl_cons]; exact (putsK_defs x ks _).trans (put_defs _ _ _)
theorem putsK_off (x : Nat → Value) (t : Tmp) : ∀ (ks : List Told) (G : Act), (∀ e, e ∈ ks → e.t ≠ t) → (putsK ks x G).tmps[t]? = G.tmps[t]?
  | [], _, _ => rfl
  | e :: ks, G, h => by
    rw [putsK, List.foldl_cons]
    refine (putsK_off x t ks _ fun e he => h e (List.mem_cons_of_mem _ he)).trans (put_off fun hh => h e List.mem_cons_self (Option.some.inj hh))
theorem putsK_at (x : Nat → Value) : ∀ (ks : List Told) (G : Act), (ks.map (·.t)).Nodup → ∀ e, e ∈ ks → e.t < G.tmps.size → (putsK ks x G).tmps[e.t]? = some (x e.k)
  | [], _, _, e, he, _ => by cases he
  | f :: ks, G, hn, e, he, hlt => by
    rw [List.map_cons, List.nodup_cons] at hn
    rw [putsK, List.foldl_cons]
    rcases List.mem_cons.1 he with rfl | he
    · refine (putsK_off x e.t ks _ fun g hg hh => hn.1 (List.mem_map.2 ⟨g, hg, hh⟩)).trans (put_on hlt)
    · exact putsK_at x ks _ hn.2 e he (by rw [put_size]; exact hlt)
/-- Another value for one of them. -/
def upd (x : Nat → Value) (k : Nat) (v : Value) : Nat → Value := fun j => if j = k then v else x j
theorem putsK_upd (x : Nat → Value) (k : Nat) (v : Value) (t : Tmp) : ∀ (ks : List Told) (G G' : Act), G'.tmps[t]? = G.tmps[t]? → G'.tmps.size = G.tmps.size → (∀ e, e ∈ ks → e.k = k → e.t ≠ t) → (putsK ks (upd x k v) G').tmps[t]? = (putsK ks x G).tmps[t]?
  | [], _, _, h, _, _ => h
  | e :: ks, G, G', h, hs, hk => by
    rw [putsK, putsK, List.foldl_cons, List.foldl_cons]
    refine putsK_upd x k v t ks _ _ ?_ (by rw [put_size, put_size]; exact hs) fun e he => hk e (List.mem_cons_of_mem _ he)
    by_cases c : e.t = t
    · have hne : e.k ≠ k := fun h => hk e List.mem_cons_self h c
      have e1 : upd x k v e.k = x e.k := if_neg hne
      rw [e1]
      subst c
      by_cases d : e.t < G.tmps.size
      · rw [put_on d, put_on (by rw [hs]; exact d)]
      · rw [Array.getElem?_eq_none (by rw [put_size, hs]; exact Nat.le_of_not_lt d), Array.getElem?_eq_none (by rw [put_size]; exact Nat.le_of_not_lt d)]
    · rw [put_off (fun hh => c (Option.some.inj hh)), put_off (fun hh => c (Option.some.inj hh))]
      exact h
def toldAt (ks : List Told) (i : Nat) : Option Told := ks.find? fun e => e.k == i
/-- What is known, at an operation, of the told values that it looks at. -/
def Facts (ops : Array Oper) (ks : List Told) (o : Oper) (x : Nat → Value) (F : World → World) : Prop := ∀ e, e ∈ ks → (o.looksAt ops).contains e.t = true → ∀ d, e.φ (x e.k) (F d)
/-- The operation yields a value of which φ holds, and keeps what stood. -/
def yieldsUpon (P : Program) (φ : Value → World → Prop) (W : World) : Result Next → Prop
  | .ok (.value u) W' => φ u W' ∧ Below W.heap.size W W'
  | .ok .skip W' => φ undef W' ∧ Below W.heap.size W W'
  | .ok (.enter f args) W' => W' = W ∧ Calls P f args W (fun e W'' => ∃ v, e = .returned v ∧ φ v W'' ∧ Below W.heap.size W W'')
  | _ => False
def yieldsR (P : Program) (o : Oper) (a : Act) (W : World) (φ : Value → World → Prop) : Prop := yieldsUpon P φ W ((execOp a.eval o).run P W)
/-- What the one writing operation leaves. -/
def leavesUpon (P : Program) (φ : Value → World → Prop) (W : World) : Result Next → Prop
  | .ok (.value u) W' => φ u W'
  | .ok .skip W' => φ undef W'
  | .ok (.enter f args) W' => W' = W ∧ Calls P f args W (fun e W'' => ∃ v, e = .returned v ∧ φ v W'')
  | _ => False
def leavesR (P : Program) (o : Oper) (a : Act) (W : World) (φ : Value → World → Prop) : Prop := leavesUpon P φ W ((execOp a.eval o).run P W)
/-- What a told operation owes. -/
def tellY (P : Program) (ops : Array Oper) (w : World) (ks : List Told) (x : Nat → Value) (_ : Nat) (o : Oper) (a : Act) (e : Told) : Prop := ∀ F, Fam w F → Facts ops ks o x F → Region.wanted o (yielded ops a.tmps) = true ∧ ∀ d, yieldsR P o a (F d) e.φ
/-- The same where operation number c may write what was made since w. -/
def tellB (P : Program) (ops : Array Oper) (w : World) (ks : List Told) (c : Nat) (T : World → World → Prop) (x : Nat → Value) (i : Nat) (o : Oper) (a : Act) (e : Told) : Prop := (i ≠ c → tellY P ops w ks x i o a e) ∧ (i = c → Region.wanted o (yielded ops a.tmps) = true ∧ ∀ W, Below w.heap.size w W → Facts ops ks o x (fun _ => W) → leavesR P o a W fun v W' => e.φ v W' ∧ Below w.heap.size w W' ∧ T W W')
/-- The walk in the order of the text. -/
def walkY (P : Program) (ops : Array Oper) (w : World) (ks : List Told) (Y : Nat → Oper → Act → Told → Prop) (x : Nat → Value) (G : Act) : Nat → List Oper → Act → Prop
  | _, [], a => a = G
  | i, o :: l, a => match toldAt ks i with
    | none => ∃ v, (∀ F, Fam w F → Facts ops ks o x F → if Region.wanted o (yielded ops a.tmps) = true then ∀ K : Act → Prop, K (a.put o.dst v) → o.quiet P a (fun W => ∃ d, W = F d) K else v = undef) ∧ walkY P ops w ks Y x G (i + 1) l (a.put o.dst v)
    | some e => Y i o a e ∧ walkY P ops w ks Y x G (i + 1) l (a.put (some e.t) (x e.k))
abbrev relWalk (P : Program) (ops : Array Oper) (w : World) (ks : List Told) (x : Nat → Value) (G : Act) : Nat → List Oper → Act → Prop := walkY P ops w ks (tellY P ops w ks x) x G
/-- The dumps' shape, for a list of told operations: each is among the first m, writes the slot that it names; no two of them write one slot. -/
def toldB (ops : Array Oper) (ks : List Told) (m n : Nat) : Bool :=
  (ks.all fun e => decide (e.k < m) && decide (e.t < n) && (((ops[e.k]?).bind (·.dst)) == some e.t)) && decide (ks.map (·.t)).Nodup && decide (ks.map (·.k)).Nodup
theorem toldAt_some {ks : List Told} {i : Nat} {e : Told} (h : toldAt ks i = some e) : e ∈ ks ∧ e.k = i := by
  unfold toldAt at h
  exact ⟨List.mem_of_find?_eq_some h, by simpa using List.find?_some h⟩
theorem toldAt_none {ks : List Told} {i : Nat} (h : toldAt ks i = none) : ∀ e, e ∈ ks → e.k ≠ i := by
  unfold toldAt at h
  intro e he hk
  have := List.find?_eq_none.1 h e he
  simp [hk] at this
theorem rel_off {w : World} {ks : List Told} {Y : Nat → Oper → Act → Told → Prop} {x : Nat → Value} {G : Act} : ∀ (l : List Oper) (i : Nat) (a : Act), (∀ j e, toldAt ks (i + j) = some e → ∀ o, l[j]? = some o → o.dst = some e.t) → walkY P ops w ks Y x G i l a →
    G.tmps.size = a.tmps.size ∧ G.defers = a.defers ∧ ∀ t, t ∉ dsts l → G.tmps[t]? = a.tmps[t]?
  | [], i, a, _, h => by
    obtain rfl : a = G := h
    exact ⟨rfl, rfl, fun _ _ => rfl⟩
  | o :: l, i, a, hk, h => by
    obtain ⟨v, hv⟩ : ∃ v, walkY P ops w ks Y x G (i + 1) l (a.put o.dst v) := by
      rw [walkY] at h
      split at h
      · obtain ⟨v, _, h2⟩ := h
        exact ⟨v, h2⟩
      · rename_i e he
        have := hk 0 e he o rfl
        rw [this]
        exact ⟨_, h.2⟩
    obtain ⟨h1, h2, h3⟩ := rel_off l (i + 1) _ (fun j e he o ho => hk (j + 1) e (by rw [show i + (j + 1) = i + 1 + j by omega]; exact he) o (by simpa using ho)) hv
    refine ⟨by rw [h1, put_size], by rw [h2, put_defs], fun t ht => ?_⟩
    rw [h3 t (fun hm => ht (by
      obtain ⟨x, hx, hd⟩ := List.mem_filterMap.1 hm
      exact List.mem_filterMap.2 ⟨x, List.mem_cons_of_mem _ hx, hd⟩)), put_off (fun hd => ht (List.mem_filterMap.2 ⟨o, List.mem_cons_self, hd⟩))]
/-- What an operation yields in the last frame G, in the families of whose worlds the facts hold. -/
def RelFit (P : Program) (ops : Array Oper) (w : World) (ks : List Told) (Y : Nat → Oper → Act → Told → Prop) (x : Nat → Value) (G : Act) (i : Nat) (o : Oper) : Prop :=
  match toldAt ks i with
    | none => ∀ F, Fam w F → Facts ops ks o x F → (Region.wanted o (yielded ops G.tmps) = true ∧ ∃ v, (∀ t, o.dst = some t → G.tmps[t]? = some v) ∧ ∀ d, o.quietAt P G (fun W => ∃ d, W = F d) (F d) v) ∨ (Region.wanted o (yielded ops G.tmps) = false ∧ ∀ t, o.dst = some t → G.tmps[t]? = some undef)
    | some e => Y i o G e
theorem tellB_same {w : World} {ks : List Told} {c : Nat} {T : World → World → Prop} {x : Nat → Value} {i : Nat} {o : Oper} {a G : Act} {e : Told} (he : execOp G.eval o = execOp a.eval o) (hw : Region.wanted o (yielded ops G.tmps) = Region.wanted o (yielded ops a.tmps)) (h : tellB P ops w ks c T x i o a e) : tellB P ops w ks c T x i o G e := by
  unfold tellB tellY yieldsR leavesR at *
  rw [he, hw]
  exact h
theorem rel_fit {w : World} {ks : List Told} {Y : Nat → Oper → Act → Told → Prop} {x : Nat → Value} {G : Act} (hY : ∀ i o a e, execOp G.eval o = execOp a.eval o → Region.wanted o (yielded ops G.tmps) = Region.wanted o (yielded ops a.tmps) → Y i o a e → Y i o G e) (n : Nat) : ∀ (l : List Oper) (i : Nat) (a : Act), a.tmps.size = n → (∀ o, o ∈ l → ∀ cs b, o.op ≠ .select cs b) → lexOk ops n l = true →
    (∀ j e, toldAt ks (i + j) = some e → ∀ o, l[j]? = some o → o.dst = some e.t) → walkY P ops w ks Y x G i l a → ∀ j o, l[j]? = some o → RelFit P ops w ks Y x G (i + j) o
  | [], _, _, _, _, _, _, _, j, o, ho => by simp at ho
  | o :: l, i, a, hn, hs, hl, hk, h, j, p, hp => by
    have off := rel_off (o :: l) i a hk h
    rw [lexOk, Bool.and_eq_true, Bool.and_eq_true] at hl
    obtain ⟨⟨hd, hlook⟩, hl⟩ := hl
    have look : ∀ t, t ∈ o.looksAt ops → G.tmps[t]? = a.tmps[t]? := fun t ht => off.2.2 t (fun hm => by
      have := List.all_eq_true.1 hlook t hm
      simp at this
      exact this ht)
    have he := exec_same (ops := ops) (hs o List.mem_cons_self) look
    have hw := wanted_same look
    have hk' : ∀ j e, toldAt ks (i + 1 + j) = some e → ∀ o, l[j]? = some o → o.dst = some e.t := fun j e he o ho => hk (j + 1) e (by rw [show i + (j + 1) = i + 1 + j by omega]; exact he) o (by simpa using ho)
    have next : ∀ v, walkY P ops w ks Y x G (i + 1) l (a.put o.dst v) → ∀ j p, (o :: l)[j + 1]? = some p → RelFit P ops w ks Y x G (i + (j + 1)) p := fun v hv j p hp => by
      have := rel_fit hY n l (i + 1) (a.put o.dst v) (by rw [put_size]; exact hn) (fun o ho => hs o (List.mem_cons_of_mem _ ho)) hl hk' hv j p (by simpa using hp)
      rw [show i + (j + 1) = i + 1 + j by omega]
      exact this
    have later : ∀ v, walkY P ops w ks Y x G (i + 1) l (a.put o.dst v) → ∀ t, o.dst = some t → G.tmps[t]? = some v := by
      intro v hv t ht
      rw [ht] at hd hv
      simp at hd
      rw [(rel_off l (i + 1) _ hk' hv).2.2 t hd.2, put_on (by rw [hn]; exact hd.1)]
    rw [walkY] at h
    cases hc : toldAt ks i with
    | none =>
      rw [hc] at h
      obtain ⟨v, h1, h2⟩ := h
      cases j with
      | succ j => exact next v h2 j p hp
      | zero =>
        simp only [List.getElem?_cons_zero, Option.some.injEq] at hp
        subst hp
        unfold RelFit
        rw [Nat.add_zero, hc]
        intro F hF hf
        have h3 := h1 F hF hf
        by_cases c : Region.wanted o (yielded ops a.tmps) = true
        · rw [if_pos c] at h3
          obtain ⟨u, hu, hK⟩ := h3 (fun a' => a' = a.put o.dst v) rfl
          left
          refine ⟨hw.trans c, u, ?_, fun d => ?_⟩
          · intro t ht
            rw [later v h2 t ht]
            rw [ht] at hK hd
            simp at hd
            have e1 : (a.put (some t) u).tmps[t]? = (a.put (some t) v).tmps[t]? := congrArg (fun a => a.tmps[t]?) hK
            rw [put_on (by rw [hn]; exact hd.1), put_on (by rw [hn]; exact hd.1)] at e1
            exact e1.symm
          · have := hu _ ⟨d, rfl⟩
            unfold Oper.quietAt at *
            rw [he]
            exact this
        · rw [if_neg c] at h3
          right
          refine ⟨hw.trans (by simpa using c), fun t ht => ?_⟩
          rw [later v h2 t ht, h3]
    | some e =>
      rw [hc] at h
      have hde := hk 0 e hc o rfl
      cases j with
      | succ j => exact next (x e.k) (by rw [hde]; exact h.2) j p hp
      | zero =>
        simp only [List.getElem?_cons_zero, Option.some.injEq] at hp
        subst hp
        unfold RelFit
        rw [Nat.add_zero, hc]
        exact hY _ _ _ _ he hw h.1
theorem toldAt_mem : ∀ (ks : List Told), (ks.map (·.k)).Nodup → ∀ e, e ∈ ks → toldAt ks e.k = some e
  | [], _, e, he => by cases he
  | f :: ks, hn, e, he => by
    rw [List.map_cons, List.nodup_cons] at hn
    unfold toldAt
    rw [List.find?_cons]
    rcases List.mem_cons.1 he with rfl | he
    · simp
    · have hne : f.k ≠ e.k := fun h => hn.1 (List.mem_map.2 ⟨e, he, h.symm⟩)
      have : (f.k == e.k) = false := by simpa using hne
      rw [this]
      exact toldAt_mem ks hn.2 e he
structure InvR (ops : Array Oper) (w : World) (ks : List Told) (m : Nat) (G : Act) (listed : Array Bool) (s : Act) (W : World) (x : Nat → Value) : Prop where
  size : listed.size = ops.size
  head : ∀ j, m ≤ j → j < ops.size → listed.getD j true = false
  fsize : s.tmps.size = G.tmps.size
  fdef : s.defers = G.defers
  slot : ∀ t, (∀ j o, j < m → ops[j]? = some o → o.dst = some t → listed.getD j false = true) → s.tmps[t]? = G.tmps[t]?
  below : Below w.heap.size w W
  told : ∀ e, e ∈ ks → listed.getD e.k false = true → e.φ (x e.k) W
  closed : ∀ j o, ops[j]? = some o → listed.getD j false = true → ∀ e ∈ o.after, Region.binds .any e = true → listed.getD e.on false = true
theorem InvR.all {w W : World} {ks : List Told} {m : Nat} {G s : Act} {listed : Array Bool} {x : Nat → Value} (hI : InvR ops w ks m G listed s W x) (h : ∀ j, j < m → listed.getD j false = true) : s = G := by
  have h1 : s.tmps = G.tmps := Array.ext_getElem? fun t => hI.slot t fun j _ hj _ _ => h j hj
  have h2 := hI.fdef
  cases s
  cases G
  simp only at h1 h2
  rw [h1, h2]
theorem relQuiet {w : World} {ks : List Told} {Y : Nat → Oper → Act → Told → Prop} {x : Nat → Value} {G a : Act} {i : Nat} {o : Oper} {l : List Oper} (hk : toldAt ks i = none) (hw : Region.wanted o (yielded ops a.tmps) = true)
    (h : ∃ v, (∀ F, Fam w F → Facts ops ks o x F → ∀ K : Act → Prop, K (a.put o.dst v) → o.quiet P a (fun W => ∃ d, W = F d) K) ∧ walkY P ops w ks Y x G (i + 1) l (a.put o.dst v)) : walkY P ops w ks Y x G i (o :: l) a := by
  rw [walkY, hk]
  obtain ⟨v, h1, h2⟩ := h
  exact ⟨v, fun F hF hf => by rw [if_pos hw]; exact h1 F hF hf, h2⟩
theorem relSkip {w : World} {ks : List Told} {Y : Nat → Oper → Act → Told → Prop} {x : Nat → Value} {G a : Act} {i : Nat} {o : Oper} {l : List Oper} (hk : toldAt ks i = none) (hw : Region.wanted o (yielded ops a.tmps) = false)
    (h : walkY P ops w ks Y x G (i + 1) l (a.put o.dst undef)) : walkY P ops w ks Y x G i (o :: l) a := by
  rw [walkY, hk]
  exact ⟨undef, fun F hF hf => by rw [if_neg (by rw [hw]; exact Bool.false_ne_true)], h⟩
theorem relTold {w : World} {ks : List Told} {x : Nat → Value} {G a : Act} {i : Nat} {o : Oper} {l : List Oper} {e : Told} (hk : toldAt ks i = some e) (hw : Region.wanted o (yielded ops a.tmps) = true)
    (h1 : ∀ F, Fam w F → Facts ops ks o x F → ∀ d, yieldsR P o a (F d) e.φ) (h2 : relWalk P ops w ks x G (i + 1) l (a.put (some e.t) (x e.k))) : relWalk P ops w ks x G i (o :: l) a := by
  unfold relWalk
  rw [walkY, hk]
  exact ⟨fun F hF hf => ⟨hw, h1 F hF hf⟩, h2⟩
theorem relT {w : World} {ks : List Told} {x : Nat → Value} {G a : Act} {i : Nat} {o : Oper} {l : List Oper} {e : Told} (hk : toldAt ks i = some e) (hw : Region.wanted o (yielded ops a.tmps) = true)
    (h1 : ∀ F, Fam w F → Facts ops ks o x F → ∀ d, (∀ d b o, b < w.heap.size → (F d).cell? ⟨b, o, none⟩ = w.cell? ⟨b, o, none⟩) → (∀ d b o, b < w.heap.size → (F d).frozen? ⟨b, o, none⟩ = w.frozen? ⟨b, o, none⟩) → yieldsR P o a (F d) e.φ) (h2 : relWalk P ops w ks x G (i + 1) l (a.put (some e.t) (x e.k))) : relWalk P ops w ks x G i (o :: l) a :=
  relTold hk hw (fun F hF hf d => h1 F hF hf d hF.cell hF.frozen) h2
theorem upC {a : Told} {l : List Told} (h : ∀ v W W', a.φ v W → Below W.heap.size W W' → a.φ v W') (hl : ∀ e, e ∈ l → ∀ v W W', e.φ v W → Below W.heap.size W W' → e.φ v W') : ∀ e, e ∈ a :: l → ∀ v W W', e.φ v W → Below W.heap.size W W' → e.φ v W' := by
  intro e he
  rcases List.mem_cons.1 he with rfl | h'
  · exact h
  · exact hl e h'
theorem upN : ∀ e, e ∈ ([] : List Told) → ∀ v W W', e.φ v W → Below W.heap.size W W' → e.φ v W' := fun e he => by simp at he
theorem brn {P : Program} {fn : Func} {R : Ending → World → Prop} {a : Act} {w : World} (E : Int) (h : Sem.run P (results fn a.tmps) w = .ok (.tuple #[.agg #[.slice none 0 0, .slice none 0 0], .int .i64 E]) w) (hr : R (.returned (.tuple #[.agg #[.slice none 0 0, .slice none 0 0], .int .i64 E])) w) (hd : a.defers = [] := by rfl) : bodyPost P fn R .ret a w :=
  bodyPost_ret h hd hr
theorem relToldB {w : World} {ks : List Told} {c : Nat} {T : World → World → Prop} {x : Nat → Value} {G a : Act} {i : Nat} {o : Oper} {l : List Oper} {e : Told} (hk : toldAt ks i = some e) (hi : i ≠ c) (hw : Region.wanted o (yielded ops a.tmps) = true)
    (h1 : ∀ F, Fam w F → Facts ops ks o x F → ∀ d, yieldsR P o a (F d) e.φ) (h2 : walkY P ops w ks (tellB P ops w ks c T x) x G (i + 1) l (a.put (some e.t) (x e.k))) : walkY P ops w ks (tellB P ops w ks c T x) x G i (o :: l) a := by
  rw [walkY, hk]
  exact ⟨⟨fun _ F hF hf => ⟨hw, h1 F hF hf⟩, fun h => absurd h hi⟩, h2⟩
theorem relBusy {w : World} {ks : List Told} {c : Nat} {T : World → World → Prop} {x : Nat → Value} {G a : Act} {i : Nat} {o : Oper} {l : List Oper} {e : Told} (hk : toldAt ks i = some e) (hi : i = c) (hw : Region.wanted o (yielded ops a.tmps) = true)
    (h1 : ∀ W, Below w.heap.size w W → Facts ops ks o x (fun _ => W) → leavesR P o a W fun v W' => e.φ v W' ∧ Below w.heap.size w W' ∧ T W W') (h2 : walkY P ops w ks (tellB P ops w ks c T x) x G (i + 1) l (a.put (some e.t) (x e.k))) : walkY P ops w ks (tellB P ops w ks c T x) x G i (o :: l) a := by
  rw [walkY, hk]
  exact ⟨⟨fun h => absurd hi h, fun _ => ⟨hw, h1⟩⟩, h2⟩
theorem walk_mono {w : World} {ks : List Told} {Y Y' : Nat → Oper → Act → Told → Prop} {x : Nat → Value} {G : Act} (h : ∀ i o a e, toldAt ks i = some e → Y i o a e → Y' i o a e) : ∀ {l : List Oper} {i : Nat} {a : Act}, walkY P ops w ks Y x G i l a → walkY P ops w ks Y' x G i l a
  | [], _, _, hw => hw
  | o :: l, i, a, hw => by
    rw [walkY] at hw ⊢
    cases hk : toldAt ks i with
    | none =>
      rw [hk] at hw
      obtain ⟨v, h1, h2⟩ := hw
      exact ⟨v, h1, walk_mono h h2⟩
    | some e =>
      rw [hk] at hw
      exact ⟨h _ _ _ _ hk hw.1, walk_mono h hw.2⟩
theorem relEnd {w : World} {ks : List Told} {Y : Nat → Oper → Act → Told → Prop} {x : Nat → Value} {G a : Act} {i : Nat} (h : a = G) : walkY P ops w ks Y x G i [] a := h
end
end Go.Proofs.Ythmpfdkbpdbhnaa.Wd
namespace Go.Proofs.Ythmpfdkbpdbhnaa.Wd
open Go.RowKit
set_option linter.unusedVariables false
set_option linter.unusedSimpArgs false
section
variable {P : Program} {ops : Array Oper} {Q : Exit → Act → World → Prop}
def apartB (ops : Array Oper) (i0 : Nat) : Bool := (List.range ops.size).all fun j => j == i0 || match ops[j]?, ops[i0]? with
  | some oj, some o0 => waits o0 j || waits oj i0 || o0.apart ops oj
  | _, _ => false
theorem apart_of {i0 : Nat} {o0 : Oper} (ho0 : ops[i0]? = some o0) (h : apartB ops i0 = true) : ∀ j oj, ops[j]? = some oj → j ≠ i0 → waits o0 j = false → waits oj i0 = false → o0.apart ops oj = true := by
  intro j oj hj hne hw0 hw
  have h1 := List.all_eq_true.1 h j (List.mem_range.2 (Array.getElem?_eq_some_iff.1 hj).1)
  simp only [hj, ho0, hw0, hw, Bool.false_or, Bool.or_eq_true, beq_iff_eq, hne, false_or] at h1
  exact h1
end
end Go.Proofs.Ythmpfdkbpdbhnaa.Wd
namespace Go.Proofs.Ythmpfdkbpdbhnaa.Wd
open Go.RowKit
set_option linter.unusedVariables false
set_option linter.unusedSimpArgs false
section
variable {P : Program} {ops : Array Oper} {Q : Exit → Act → World → Prop}
def flowM (ops : Array Oper) (L0 : List Nat) (m : Nat) : Bool :=
  decide (m ≤ ops.size) && Region.noSelect ops &&
  ((List.range ops.size).all fun i => match ops[i]? with
    | none => false
    | some o => (o.after.all fun e => !Region.binds .any e || decide (e.on < i)) && (List.range i).all fun j => decide (j < m) || waits o j) &&
  (decide (ops.size ≤ m) || (List.range m).all fun j => decide (j ∈ L0) || (List.range (m + 1)).any fun k => decide (j < k) && decide (k ∉ L0) && match ops[k]? with
    | none => false
    | some o => waits o j) &&
  ((List.range m).all fun i => match ops[i]? with
    | none => false
    | some o => (List.range m).all fun j => match (ops[j]?).bind (·.dst) with
      | none => true
      | some t => (!(o.looksAt ops).contains t || (waits o j && j != m)) && (i == j || o.dst != some t)) &&
  (L0.all fun i0 => decide (i0 < m) && match ops[i0]? with
    | none => false
    | some o => o.after.all fun e => !Region.binds .any e || decide (e.on ∉ L0))
theorem yields_mono {o : Oper} {a : Act} {W : World} {φ ψ : Value → World → Prop} (h : ∀ v W', φ v W' → ψ v W') (hy : yieldsR P o a W φ) : yieldsR P o a W ψ := by
  unfold yieldsR at hy ⊢
  generalize (execOp a.eval o).run P W = r at hy
  cases r with
  | halt x w' => exact hy
  | ok n w' =>
    cases n <;> simp only [yieldsUpon] at hy ⊢
    case value u => exact ⟨h _ _ hy.1, hy.2⟩
    case skip => exact ⟨h _ _ hy.1, hy.2⟩
    case enter f args => exact ⟨hy.1, hy.2.mono fun e' w'' ⟨v, he, h1, h2⟩ => ⟨v, he, h _ _ h1, h2⟩⟩
/-- All of these come behind operation number c. -/
def behindB (ops : Array Oper) (c : Nat) (D : List Nat) : Bool := D.all fun k => match ops[k]? with
  | none => false
  | some o => waits o c || D.any fun j => waits o j
theorem behind {c : Nat} {D : List Nat} {listed : Array Bool} (hb : ∀ i o, ops[i]? = some o → ∀ e ∈ o.after, Region.binds .any e = true → e.on < i)
    (hc : ∀ j o, ops[j]? = some o → listed.getD j false = true → ∀ e ∈ o.after, Region.binds .any e = true → listed.getD e.on false = true) (hD : behindB ops c D = true) : ∀ k, k ∈ D → listed.getD k false = true → listed.getD c false = true := by
  intro k
  induction k using Nat.strongRecOn with
  | _ k ih =>
    intro hk hl
    have h1 := List.all_eq_true.1 hD k hk
    cases ho : ops[k]? with
    | none => rw [ho] at h1; cases h1
    | some o =>
      rw [ho] at h1
      simp only [Bool.or_eq_true] at h1
      rcases h1 with h1 | h1
      · exact waits_listed h1 (hc k o ho hl)
      · obtain ⟨j, hj, hw⟩ := List.any_eq_true.1 h1
        refine ih j ?_ hj (waits_listed hw (hc k o ho hl))
        unfold waits at hw
        obtain ⟨e, he1, he2⟩ := Array.any_eq_true'.1 hw
        simp only [Bool.and_eq_true, beq_iff_eq] at he2
        rw [← he2.2]
        exact hb k o ho e he1 he2.1
theorem relB_any {c : Nat} {T : World → World → Prop} {w : World} {ks : List Told} {m n : Nat} {G : (Nat → Value) → Act} {G0 : Act} (L0 : List Nat) (fc fa : List Nat) (blk : Value → Option Nat) (hst : ∀ e, e ∈ ks → e.k ∈ fc → ∀ o, ops[e.k]? = some o → ∀ x F, Fam w F → Facts ops ks o x F → ∀ d, yieldsR P o (G x) (F d) fun v W' => e.φ v W' ∧ ∀ b, blk v = some b → (F d).heap.size ≤ b ∨ ∃ e0, e0 ∈ ks ∧ e0.k ∈ fc ∧ (o.looksAt ops).contains e0.t = true ∧ blk (x e0.k) = some b) (hsa : ∀ e, e ∈ ks → e.k ∈ fa → ∀ o, ops[e.k]? = some o → ∀ x F, Fam w F → Facts ops ks o x F → ∀ d, yieldsR P o (G x) (F d) fun v W' => e.φ v W' ∧ ∀ b, blk v = some b → (F d).heap.size ≤ b) (hfw : ∀ e, e ∈ ks → e.k ∈ fc ∨ e.k ∈ fa → ∀ v W, e.φ v W → ∀ b, blk v = some b → b < W.heap.size) (hdis : ∀ k, k ∈ fc → k ∉ fa) (hcf : ∀ e, e ∈ ks → e.k = c → e.k ∉ fc ∧ e.k ∉ fa) (D : List Nat) (hD : behindB ops c D = true) (hT0 : ∀ e, e ∈ ks → e.k ≠ c → e.k ∉ D → ∀ v W W', e.φ v W → Below w.heap.size w W → T W W' → e.φ v W') (hLf : ∀ i0, i0 ∈ L0 → i0 ∉ fc ∧ i0 ∉ fa) (hB : flowM ops L0 m = true) (hAp : ∀ i0, i0 ∈ L0 → ∀ o0, ops[i0]? = some o0 → ∀ j oj, ops[j]? = some oj → j ≠ i0 → waits o0 j = false → waits oj i0 = false → o0.apart ops oj = true)
    (hQ : ∀ i0, i0 ∈ L0 → ∀ o0, ops[i0]? = some o0 → ∀ c a w v, Q (.panic c) (a.put o0.dst v) w → Q (.panic c) a w)
    (hY2 : ∀ i0, i0 ∈ L0 → ∀ o0, ops[i0]? = some o0 → ∀ e, toldAt ks i0 = some e → ∀ W x, (∀ e', e' ∈ ks → (o0.looksAt ops).contains e'.t = true → e'.φ (x e'.k) W) → ∃ v, e.φ v W ∧ Yields P ops o0 v (G x))
    (hY : ∀ i0, i0 ∈ L0 → ∀ o0, ops[i0]? = some o0 → toldAt ks i0 = none → ∀ x, (∀ e, e ∈ ks → (o0.looksAt ops).contains e.t = true → ∃ W, e.φ (x e.k) W) → ∃ v, (∀ t, o0.dst = some t → (G x).tmps[t]? = some v) ∧ Yields P ops o0 v (G x)) (hK : toldB ops ks m n = true)
    (hφ : ∀ e, e ∈ ks → ∀ v W W', e.φ v W → Below W.heap.size W W' → e.φ v W') (hG : ∀ x, G x = putsK ks x G0) (hn : G0.tmps.size = n)
    (hfit : ∀ x i o, i < m → ops[i]? = some o → RelFit P ops w ks (tellB P ops w ks c T x) x (G x) i o)
    (ht : ∀ W x, Below w.heap.size w W → (∀ e, e ∈ ks → e.φ (x e.k) W) → (∀ e e', e ∈ ks → e' ∈ ks → e.k ∈ fc → e'.k ∈ fa → ∀ b, blk (x e.k) = some b → blk (x e'.k) ≠ some b) → wpList P ops Q (ops.toList.drop m) (G x) W) :
    ∀ (fuel : Nat) (listed : Array Bool) (s : Act) (W : World) (x : Nat → Value), listed.toList.count false = fuel → InvR ops w ks m (G x) listed s W x → (∀ e e', e ∈ ks → e' ∈ ks → e.k ∈ fc → e'.k ∈ fa → listed.getD e.k false = true → listed.getD e'.k false = true → ∀ b, blk (x e.k) = some b → blk (x e'.k) ≠ some b) → wpAny P .any ops Q fuel listed s W := by
  simp only [flowM, Bool.and_eq_true, decide_eq_true_eq] at hB
  obtain ⟨⟨⟨⟨⟨hm, hsel⟩, hback⟩, hsink⟩, hX⟩, hIn0⟩ := hB
  have hIn : ∀ i0, i0 ∈ L0 → i0 < m ∧ ∃ o0, ops[i0]? = some o0 ∧ ∀ e ∈ o0.after, Region.binds .any e = true → e.on ∉ L0 := fun i0 hi => by
    have h := List.all_eq_true.1 hIn0 i0 hi
    cases ho : ops[i0]? with
    | none => rw [ho] at h; simp at h
    | some o0 =>
      rw [ho] at h
      simp only [Bool.and_eq_true, decide_eq_true_eq] at h
      refine ⟨h.1, o0, rfl, fun e he hbe => ?_⟩
      have h1 := Array.all_eq_true_iff_forall_mem.1 h.2 e he
      simpa [hbe] using h1
  simp only [toldB, Bool.and_eq_true, decide_eq_true_eq] at hK
  obtain ⟨⟨hK, hKt⟩, hKk⟩ := hK
  have hK' : ∀ e, e ∈ ks → e.k < m ∧ e.t < n ∧ (ops[e.k]?).bind (·.dst) = some e.t := by
    intro e he
    have := List.all_eq_true.1 hK e he
    simp only [Bool.and_eq_true, decide_eq_true_eq, beq_iff_eq] at this
    exact ⟨this.1.1, this.1.2, this.2⟩
  have hb : ∀ i o, ops[i]? = some o → ∀ e ∈ o.after, Region.binds .any e = true → e.on < i := by
    intro i o ho e he hbi
    have := List.all_eq_true.1 hback i (List.mem_range.2 (Array.getElem?_eq_some_iff.1 ho).1)
    simp only [ho, Bool.and_eq_true] at this
    have h1 := Array.all_eq_true_iff_forall_mem.1 this.1 e he
    simpa [hbi] using h1
  have hT : ∀ i o, ops[i]? = some o → ∀ j, m ≤ j → j < i → waits o j = true := by
    intro i o ho j hj hji
    have := List.all_eq_true.1 hback i (List.mem_range.2 (Array.getElem?_eq_some_iff.1 ho).1)
    simp only [ho, Bool.and_eq_true] at this
    have := List.all_eq_true.1 this.2 j (List.mem_range.2 hji)
    simp only [Bool.or_eq_true, decide_eq_true_eq] at this
    rcases this with h | h
    · omega
    · exact h
  have hS : m < ops.size → ∀ j, j < m → j ∉ L0 → ∃ k o, j < k ∧ k ≤ m ∧ k ∉ L0 ∧ ops[k]? = some o ∧ waits o j = true := by
    intro hlt j hj hji0
    rw [Bool.or_eq_true] at hsink
    rcases hsink with h | h
    · simp at h; omega
    · have h0 := List.all_eq_true.1 h j (List.mem_range.2 hj)
      rw [Bool.or_eq_true] at h0
      have h0 := h0.resolve_left (by simpa using hji0)
      obtain ⟨k, hk, h1⟩ := List.any_eq_true.1 h0
      simp only [Bool.and_eq_true, decide_eq_true_eq] at h1
      have hk' : k < ops.size := by have := List.mem_range.1 hk; omega
      have ho : ops[k]? = some ops[k] := Array.getElem?_eq_getElem hk'
      rw [ho] at h1
      exact ⟨k, _, h1.1.1, by have := List.mem_range.1 hk; omega, h1.1.2, ho, h1.2⟩
  have hX' : ∀ i o, i < m → ops[i]? = some o → ∀ j t, j < m → (ops[j]?).bind (·.dst) = some t → (t ∈ o.looksAt ops → waits o j = true) ∧ (i ≠ j → o.dst ≠ some t) := by
    intro i o hi ho j t hj hd
    have := List.all_eq_true.1 hX i (List.mem_range.2 hi)
    simp only [ho] at this
    have := List.all_eq_true.1 this j (List.mem_range.2 hj)
    simp only [hd, Bool.and_eq_true, Bool.or_eq_true, bne_iff_ne, beq_iff_eq, Bool.not_eq_true', List.contains_eq_mem, decide_eq_false_iff_not] at this
    refine ⟨fun hl => ?_, fun hne => ?_⟩
    · rcases this.1 with h | h
      · exact absurd hl h
      · exact h.1
    · rcases this.2 with h | h
      · exact absurd h hne
      · exact h
  have gsize : ∀ x, (G x).tmps.size = n := fun x => by rw [hG, putsK_size]; exact hn
  have gat : ∀ x e, e ∈ ks → (G x).tmps[e.t]? = some (x e.k) := fun x e he => by
    rw [hG]
    exact putsK_at x ks G0 hKt e he (by rw [hn]; exact (hK' e he).2.1)
  intro fuel
  induction fuel with
  | zero =>
    intro listed s W x hc hI hA
    have hm' : m = ops.size := by
      rcases Nat.lt_or_ge m ops.size with c | c
      · exact absurd (hI.head m (Nat.le_refl _) c) (count_none hc m)
      · omega
    have hall : ∀ j, j < m → listed.getD j false = true := fun j hj => listed_of (by rw [hI.size]; omega) (count_none hc j)
    rw [hI.all hall]
    have h := ht W x hI.below (fun e he => hI.told e he (hall _ (hK' e he).1)) (fun e e' he he' hf hf' => hA e e' he he' hf hf' (hall _ (hK' e he).1) (hall _ (hK' e' he').1))
    rw [List.drop_eq_nil_of_le (by simp; omega)] at h
    refine ⟨?_, h⟩
    refine List.eq_nil_iff_forall_not_mem.2 fun i hi => ?_
    exact count_none hc i (mem_ready.1 hi).1
  | succ fuel ih =>
    intro listed s W x hc hI hA
    have nextN : ∀ (i : Nat) (o : Oper) (v : Value) (W' : World), i < m → i ∈ Region.ready .any ops listed → ops[i]? = some o → toldAt ks i = none → (∀ t, o.dst = some t → (G x).tmps[t]? = some v) → Below W.heap.size W W' → wpAny P .any ops Q fuel (listed.setIfInBounds i true) (s.put o.dst v) W' := by
      intro i o v W' him hi ho hc1 hv hbW
      obtain ⟨hun, o', ho', hall⟩ := mem_ready.1 hi
      obtain rfl : o' = o := by rw [ho] at ho'; exact (Option.some.inj ho').symm
      have hnk := toldAt_none hc1
      have other : ∀ e', e' ∈ ks → e'.k ≠ i → (listed.setIfInBounds i true).getD e'.k false = true → listed.getD e'.k false = true := fun e' _ hne h => by
        rw [getD_set_ne false (Ne.symm hne)] at h; exact h
      refine ih _ _ W' x (count_listed hun hc) ⟨by simpa using hI.size, fun j hj hj' => by rw [getD_set_ne true (by omega)]; exact hI.head j hj hj', by rw [put_size]; exact hI.fsize, by rw [put_defs]; exact hI.fdef, fun t hcond => ?_, hI.below.trans (hbW.mono hI.below.size), fun e hek hl => hφ e hek _ _ _ (hI.told e hek (other e hek (hnk e hek) hl)) hbW, closed_set ho hall hI.closed⟩ (fun e e' he he' hf hf' h1 h2 => hA e e' he he' hf hf' (other e he (hnk e he) h1) (other e' he' (hnk e' he') h2))
      by_cases hd : o'.dst = some t
      · rw [hv t hd, hd]
        exact put_on (by rw [hI.fsize]; exact (Array.getElem?_eq_some_iff.1 (hv t hd)).1)
      · rw [put_off hd]
        refine hI.slot t fun j oj hj hoj hdj => ?_
        have := hcond j oj hj hoj hdj
        by_cases c : i = j
        · subst c
          rw [ho] at hoj
          cases hoj
          exact absurd hdj hd
        · rw [getD_set_ne false c] at this
          exact this
    have nextT : ∀ (e : Told) (o : Oper) (v : Value) (W' : World), e.k < m → e.k ∈ Region.ready .any ops listed → ops[e.k]? = some o → toldAt ks e.k = some e → e.φ v W' → Below w.heap.size w W' → (∀ e', e' ∈ ks → e'.k ≠ e.k → listed.getD e'.k false = true → ∀ u, e'.φ u W → e'.φ u W') → ((e.k ∈ fc → ∀ b, blk v = some b → W.heap.size ≤ b ∨ ∃ e0, e0 ∈ ks ∧ e0.k ∈ fc ∧ (o.looksAt ops).contains e0.t = true ∧ blk (x e0.k) = some b) ∧ (e.k ∈ fa → ∀ b, blk v = some b → W.heap.size ≤ b)) → wpAny P .any ops Q fuel (listed.setIfInBounds e.k true) (s.put o.dst v) W' := by
      intro e o v W' him hi ho hc1 hv hbw hkeep hvf
      obtain ⟨hun, o', ho', hall⟩ := mem_ready.1 hi
      obtain rfl : o' = o := by rw [ho] at ho'; exact (Option.some.inj ho').symm
      obtain ⟨hek, -⟩ := toldAt_some hc1
      have hod : o'.dst = some e.t := by have := (hK' e hek).2.2; rw [ho] at this; exact this
      have uniq : ∀ e', e' ∈ ks → e'.k = e.k → e' = e := fun e' he' hk => by
        have h1 := toldAt_mem ks hKk e' he'
        rw [hk, hc1] at h1
        exact (Option.some.inj h1).symm
      have other : ∀ e', e' ∈ ks → e'.k ≠ e.k → (listed.setIfInBounds e.k true).getD e'.k false = true → listed.getD e'.k false = true := fun e' _ hne h => by
        rw [getD_set_ne false (Ne.symm hne)] at h; exact h
      refine ih _ _ W' (upd x e.k v) (count_listed hun hc) ⟨by simpa using hI.size, fun j hj hj' => by rw [getD_set_ne true (by omega)]; exact hI.head j hj hj', by rw [put_size, hI.fsize, gsize, gsize], by rw [put_defs, hI.fdef, hG, hG, putsK_defs, putsK_defs], fun t hcond => ?_, hbw, fun e' hek' hl => ?_, closed_set ho hall hI.closed⟩ (fun e1 e2 he1 he2 hf1 hf2 l1 l2 => by
        show ∀ b, blk (if e1.k = e.k then v else x e1.k) = some b → blk (if e2.k = e.k then v else x e2.k) ≠ some b
        intro b
        by_cases c1 : e1.k = e.k
        · have c2 : e2.k ≠ e.k := fun h => hdis e1.k hf1 (by rw [c1, ← h]; exact hf2)
          rw [if_pos c1, if_neg c2]
          intro h h'
          have p2 := hfw e2 he2 (.inr hf2) _ _ (hI.told e2 he2 (other e2 he2 c2 l2)) b h'
          rcases hvf.1 (c1 ▸ hf1) b h with p1 | ⟨e0, k0, f0, g0, h0⟩
          · omega
          · obtain ⟨q1, _, q3⟩ := hK' e0 k0
            exact hA e0 e2 k0 he2 f0 hf2 (waits_listed ((hX' e.k o' him ho e0.k e0.t q1 q3).1 (by simpa using g0)) hall) (other e2 he2 c2 l2) b h0 h'
        · rw [if_neg c1]
          by_cases c2 : e2.k = e.k
          · rw [if_pos c2]
            intro h h'
            have p1 := hvf.2 (c2 ▸ hf2) b h'
            have p2 := hfw e1 he1 (.inl hf1) _ _ (hI.told e1 he1 (other e1 he1 c1 l1)) b h
            omega
          · rw [if_neg c2]
            exact hA e1 e2 he1 he2 hf1 hf2 (other e1 he1 c1 l1) (other e2 he2 c2 l2) b)
      · by_cases hd : o'.dst = some t
        · rw [hd]
          obtain rfl : e.t = t := by rw [hod] at hd; exact Option.some.inj hd
          rw [gat _ e hek, put_on (by rw [hI.fsize, gsize]; exact (hK' e hek).2.1)]
          show some v = some (if e.k = e.k then v else x e.k)
          rw [if_pos rfl]
        · rw [put_off hd, hG, putsK_upd x e.k v t ks G0 G0 rfl rfl (fun e' he' hk' hh => hd (by rw [hod, ← hh, uniq e' he' hk'])), ← hG]
          refine hI.slot t fun j oj hj hoj hdj => ?_
          have := hcond j oj hj hoj hdj
          by_cases c : e.k = j
          · subst c
            rw [ho] at hoj
            cases hoj
            exact absurd hdj hd
          · rw [getD_set_ne false c] at this
            exact this
      · by_cases c : e'.k = e.k
        · obtain rfl := uniq e' hek' c
          show e'.φ (if e'.k = e'.k then v else x e'.k) W'
          rw [if_pos rfl]
          exact hv
        · show e'.φ (if e'.k = e.k then v else x e'.k) W'
          rw [if_neg c]
          exact hkeep e' hek' c (other e' hek' c hl) _ (hI.told e' hek' (other e' hek' c hl))
    by_cases hE : ∃ i0, i0 ∈ L0 ∧ i0 ∈ Region.ready .any ops listed
    · obtain ⟨i0, hiL, hE⟩ := hE
      obtain ⟨hun, o0, ho0, hall⟩ := mem_ready.1 hE
      have hi0 := (hIn i0 hiL).1
      replace hAp := hAp i0 hiL o0 ho0
      replace hQ := hQ i0 hiL o0 ho0
      replace hY := hY i0 hiL o0 ho0
      replace hY2 := hY2 i0 hiL o0 ho0
      have look : ∀ t, t ∈ o0.looksAt ops → s.tmps[t]? = (G x).tmps[t]? := fun t htl =>
        hI.slot t fun j oj hj hoj hd => waits_listed ((hX' i0 o0 hi0 ho0 j t hj (by rw [hoj]; exact hd)).1 htl) hall
      have he := exec_same (ops := ops) (Region.noSelect_spec hsel i0 o0 · · ho0) look
      have hwt := wanted_same look
      obtain ⟨v, hy, hn⟩ : ∃ v, Yields P ops o0 v (G x) ∧ wpAny P .any ops Q fuel (listed.setIfInBounds i0 true) (s.put o0.dst v) W := by
        cases hct : toldAt ks i0 with
        | none =>
          obtain ⟨v, hv, hy⟩ := hY hct x fun e hek htl => by
            obtain ⟨h1, _, h3⟩ := hK' e hek
            exact ⟨W, hI.told e hek (waits_listed ((hX' i0 o0 hi0 ho0 e.k e.t h1 h3).1 (by simpa using htl)) hall)⟩
          exact ⟨v, hy, nextN i0 o0 v W hi0 hE ho0 hct hv (Below.refl _ _)⟩
        | some e =>
          obtain ⟨hek, hei⟩ := toldAt_some hct
          subst hei
          obtain ⟨v, hv, hy⟩ := hY2 e hct W x fun e' hek' htl => by
            obtain ⟨h1, _, h3⟩ := hK' e' hek'
            exact hI.told e' hek' (waits_listed ((hX' e.k o0 hi0 ho0 e'.k e'.t h1 h3).1 (by simpa using htl)) hall)
          exact ⟨v, hy, nextT e o0 v W hi0 hE ho0 hct hv hI.below (fun _ _ _ _ _ h => h) ⟨fun h => absurd h (hLf _ hiL).1, fun h => absurd h (hLf _ hiL).2⟩⟩
      have hy' : Yields P ops o0 v s := by
        rcases hy with ⟨h1, h2⟩ | ⟨h1, h2⟩
        · exact .inl ⟨hwt.trans h1, fun w => by rw [he]; exact h2 w⟩
        · exact .inr ⟨hwt.trans h1, h2⟩
      exact wpAny_first (md := .any) ho0 (Region.noSelect_spec hsel) (fun c a w h => hQ c a w v h) fuel listed s W (fun j oj hj hne hunj hno => hAp j oj hj hne (by
        cases hwj : waits o0 j with
        | false => rfl
        | true =>
          have h1 := waits_listed hwj hall
          have h2 := (unlisted hunj).2
          rw [h1] at h2; cases h2) (by
        cases hwj : waits oj i0 with
        | false => rfl
        | true =>
          unfold waits at hwj
          obtain ⟨e, he1, he2⟩ := Array.any_eq_true'.1 hwj
          simp only [Bool.and_eq_true, beq_iff_eq] at he2
          exact absurd he2.2 (hno e he1 he2.1))) hE hy' hn
    refine ⟨fun hr => by
      obtain ⟨i, hi⟩ := count_some hc
      exact absurd hr (first_ready hI.size hb i hi), fun i hi => ?_⟩
    obtain ⟨hun, o, ho, hall⟩ := mem_ready.1 hi
    have hilt : i < ops.size := (Array.getElem?_eq_some_iff.1 ho).1
    rcases Nat.lt_or_ge i m with him | him
    · have look : ∀ t, t ∈ o.looksAt ops → s.tmps[t]? = (G x).tmps[t]? := fun t htl =>
        hI.slot t fun j oj hj hoj hd => waits_listed ((hX' i o him ho j t hj (by rw [hoj]; exact hd)).1 htl) hall
      have he := exec_same (ops := ops) (Region.noSelect_spec hsel i o · · ho) look
      have hwt := wanted_same look
      have facts : Facts ops ks o x (onTop W) := fun e hek htl d => by
        obtain ⟨h1, _, h3⟩ := hK' e hek
        have hl := waits_listed ((hX' i o him ho e.k e.t h1 h3).1 (by simpa using htl)) hall
        exact hφ e hek _ _ _ (hI.told e hek hl) (onTop_below W d)
      have fit := hfit x i o him ho
      unfold RelFit at fit
      obtain ⟨d0, hd0⟩ := of_below (Below.refl W.heap.size W)
      have other : ∀ e, e ∈ ks → e.k ≠ i → (listed.setIfInBounds i true).getD e.k false = true → listed.getD e.k false = true := fun e _ hne h => by
        rw [getD_set_ne false (Ne.symm hne)] at h; exact h
      unfold wpOp
      simp only [ho]
      cases hc1 : toldAt ks i with
      | none =>
        rw [hc1] at fit
        replace fit := fit (onTop W) (fam_top hI.below) facts
        have next := fun v W' => nextN i o v W' him hi ho hc1
        rcases fit with ⟨hw, v, hv, hq⟩ | ⟨hw, hu⟩
        · rw [if_pos (hwt.trans hw)]
          left
          have hq := hq d0
          rw [← hd0] at hq
          unfold Oper.wp
          unfold Oper.quietAt at hq
          rw [he]
          generalize (execOp (G x).eval o).run P W = r at hq
          cases r with
          | halt x w' => exact hq.elim
          | ok n w' =>
            cases n <;> simp only [Oper.quietUpon] at hq <;> simp only [Oper.upon]
            case value u =>
              obtain ⟨e1, e2⟩ := hq
              rw [e1, e2]
              exact next v W hv (Below.refl _ _)
            case skip =>
              obtain ⟨e1, e2⟩ := hq
              rw [e1, ← e2]
              exact next v W hv (Below.refl _ _)
            case enter f args =>
              obtain ⟨e1, hc⟩ := hq
              rw [e1]
              exact hc.mono fun e w'' ⟨he, d, hw''⟩ => by subst he; rw [hw'']; exact next v _ hv (onTop_below W d)
        · rw [if_neg (by rw [hwt, hw]; exact Bool.false_ne_true)]
          exact next undef W hu (Below.refl _ _)
      | some e =>
        rw [hc1] at fit
        obtain ⟨hek, hei⟩ := toldAt_some hc1
        subst hei
        have next := fun v W' => nextT e o v W' him hi ho hc1
        rcases Decidable.em (e.k = c) with hec | hec
        · obtain ⟨hw, hz⟩ := fit.2 hec
          rw [if_pos (hwt.trans hw)]
          left
          have hy := hz W hI.below fun e' hek' htl _ => hI.told e' hek' (by obtain ⟨h1, _, h3⟩ := hK' e' hek'; exact waits_listed ((hX' e.k o him ho e'.k e'.t h1 h3).1 (by simpa using htl)) hall)
          have next' : ∀ (v : Value) (W' : World), (e.φ v W' ∧ Below w.heap.size w W' ∧ T W W') → wpAny P .any ops Q fuel (listed.setIfInBounds e.k true) (s.put o.dst v) W' := fun v W' ⟨h1, h2, h3⟩ => next v W' h1 h2 (fun e' he' hne hl' u hu => hT0 e' he' (by rw [← hec]; exact hne) (fun hd => by
            have h7 := (unlisted hun).2
            rw [hec, behind hb hI.closed hD _ hd hl'] at h7
            cases h7) u W W' hu hI.below h3) ⟨fun h => absurd h (hcf e hek hec).1, fun h => absurd h (hcf e hek hec).2⟩
          unfold Oper.wp
          unfold leavesR at hy
          rw [he]
          generalize (execOp (G x).eval o).run P W = r at hy
          cases r with
          | halt x w' => exact hy.elim
          | ok n w' =>
            cases n <;> simp only [leavesUpon] at hy <;> simp only [Oper.upon]
            case value u => exact next' u w' hy
            case skip => exact next' undef w' hy
            case enter f args =>
              obtain ⟨e1, hc⟩ := hy
              rw [e1]
              exact hc.mono fun e' w'' ⟨v, he', h1⟩ => by subst he'; exact next' v w'' h1
        obtain ⟨hw, hy⟩ := fit.1 hec (onTop W) (fam_top hI.below) facts
        rw [if_pos (hwt.trans hw)]
        left
        have hy := hy d0
        rw [← hd0] at hy
        have hy : yieldsR P o (G x) W fun v W' => e.φ v W' ∧ ((e.k ∈ fc → ∀ b, blk v = some b → W.heap.size ≤ b ∨ ∃ e0, e0 ∈ ks ∧ e0.k ∈ fc ∧ (o.looksAt ops).contains e0.t = true ∧ blk (x e0.k) = some b) ∧ (e.k ∈ fa → ∀ b, blk v = some b → W.heap.size ≤ b)) := by
          by_cases hf : e.k ∈ fc
          · have h1 := hst e hek hf o ho x (onTop W) (fam_top hI.below) facts d0
            rw [← hd0] at h1
            exact yields_mono (fun v W' h => ⟨h.1, fun _ => h.2, fun h' => absurd h' (hdis _ hf)⟩) h1
          · by_cases hf' : e.k ∈ fa
            · have h1 := hsa e hek hf' o ho x (onTop W) (fam_top hI.below) facts d0
              rw [← hd0] at h1
              exact yields_mono (fun v W' h => ⟨h.1, fun h' => absurd h' hf, fun _ => h.2⟩) h1
            · exact yields_mono (fun v W' h => ⟨h, fun h' => absurd h' hf, fun h' => absurd h' hf'⟩) hy
        replace next : ∀ (v : Value) (W' : World), e.φ v W' → Below W.heap.size W W' → ((e.k ∈ fc → ∀ b, blk v = some b → W.heap.size ≤ b ∨ ∃ e0, e0 ∈ ks ∧ e0.k ∈ fc ∧ (o.looksAt ops).contains e0.t = true ∧ blk (x e0.k) = some b) ∧ (e.k ∈ fa → ∀ b, blk v = some b → W.heap.size ≤ b)) → wpAny P .any ops Q fuel (listed.setIfInBounds e.k true) (s.put o.dst v) W' := fun v W' h1 h2 h3 => next v W' h1 (hI.below.trans (h2.mono hI.below.size)) (fun e' he' _ _ u hu => hφ e' he' _ _ _ hu h2) h3
        unfold Oper.wp
        unfold yieldsR at hy
        rw [he]
        generalize hrun : (execOp (G x).eval o).run P W = r at hy
        cases r with
        | halt x w' => exact hy.elim
        | ok n w' =>
          cases n <;> simp only [yieldsUpon] at hy <;> simp only [Oper.upon]
          case value u => exact next u w' hy.1.1 hy.2 hy.1.2
          case skip => exact next undef w' hy.1.1 hy.2 hy.1.2
          case enter f args =>
            obtain ⟨e1, hc⟩ := hy
            rw [e1]
            exact hc.mono fun e' w'' ⟨v, he', h1, h2⟩ => by
              subst he'
              exact next v w'' h1.1 h2 h1.2
    · obtain rfl : i = m := by
        rcases Nat.lt_or_ge m i with c | c
        · have h1 := waits_listed (hT i o ho m (Nat.le_refl _) c) hall
          have h2 := (unlisted (hI.head m (Nat.le_refl _) (by omega))).2
          rw [h1] at h2; cases h2
        · omega
      have hl0 : ∀ d j, i - j = d → j < i → j ∉ L0 → listed.getD j false = true := by
        intro d
        induction d using Nat.strongRecOn with
        | _ d ihd =>
          intro j hd hj hji
          obtain ⟨k, ok, hjk, hk, hki, hok, hwk⟩ := hS hilt j hj hji
          rcases Nat.lt_or_ge k i with c | c
          · have := ihd (i - k) (by omega) k rfl c hki
            exact waits_listed hwk (hI.closed k ok hok this)
          · obtain rfl : k = i := by omega
            rw [ho] at hok
            cases hok
            exact waits_listed hwk hall
      have hl1 : ∀ i0, i0 ∈ L0 → listed.getD i0 false = true := fun i0 hiL => by
        obtain ⟨hi0, o0, ho0, hdep⟩ := hIn i0 hiL
        rcases Bool.eq_false_or_eq_true (listed.getD i0 false) with h | h
        · exact h
        · exfalso
          apply hE
          refine ⟨i0, hiL, mem_ready.2 ⟨?_, o0, ho0, fun e he hbe => hl0 _ e.on rfl (by have := hb i0 o0 ho0 e he hbe; omega) (hdep e he hbe)⟩⟩
          have hlt : i0 < listed.size := by rw [hI.size]; omega
          rw [Array.getD_eq_getD_getElem?, Array.getElem?_eq_getElem hlt] at h ⊢
          exact h
      have hl : ∀ j, j < i → listed.getD j false = true := fun j hj => by
        by_cases c : j ∈ L0
        · exact hl1 j c
        · exact hl0 _ j rfl hj c
      have hs := hI.all hl
      have h := ht W x hI.below (fun e he => hI.told e he (hl _ (hK' e he).1)) (fun e e' he he' hf hf' => hA e e' he he' hf hf' (hl _ (hK' e he).1) (hl _ (hK' e' he').1))
      rw [← hs] at h
      exact (tail_any (P := P) (Q := Q) hb hT (fuel + 1) i listed s W hI.size (Nat.le_refl _) hc hl hI.head h).2 i hi
/-- THE LAW: the first m operations read, call, or make memory, but for number c, which may write what was made since; those that are told (ks) hand back what differs from world to world; told rows (fc) lie apart from blocks that are made (fa); the rest waits for all. -/
theorem relB {id : Nat} (c : Nat) (T : World → World → Prop) {a : Act} {w : World} {l : List Oper} (ks : List Told) (m n : Nat) (hm : P.follows .mixedOrders = true) (hn : a.tmps.size = n) (hl : l = ops.toList.take m) (L0 : List Nat) (hB : (flowM ops L0 m && lexOk ops n l) = true) (hAB : (L0.all fun i0 => apartB ops i0) = true)
    (hQ : ∀ i0, i0 ∈ L0 → ∀ o0, ops[i0]? = some o0 → ∀ c a w v, Q (.panic c) (a.put o0.dst v) w → Q (.panic c) a w) (hK : toldB ops ks m n = true) (fc fa : List Nat) (blk : Value → Option Nat) (hfw : ∀ e, e ∈ ks → e.k ∈ fc ∨ e.k ∈ fa → ∀ v W, e.φ v W → ∀ b, blk v = some b → b < W.heap.size) (hdis : ∀ k, k ∈ fc → k ∉ fa) (hLf : ∀ i0, i0 ∈ L0 → i0 ∉ fc ∧ i0 ∉ fa) (hcf : ∀ e, e ∈ ks → e.k = c → e.k ∉ fc ∧ e.k ∉ fa) (D : List Nat) (hD : behindB ops c D = true) (hT0 : ∀ e, e ∈ ks → e.k ≠ c → e.k ∉ D → ∀ v W W', e.φ v W → Below w.heap.size w W → T W W' → e.φ v W')
    (hφ : ∀ e, e ∈ ks → ∀ v W W', e.φ v W → Below W.heap.size W W' → e.φ v W')
    (h : ∃ G : (Nat → Value) → Act, (∀ i0, i0 ∈ L0 → ∀ o0, ops[i0]? = some o0 → ∀ e, toldAt ks i0 = some e → ∀ W x, (∀ e', e' ∈ ks → (o0.looksAt ops).contains e'.t = true → e'.φ (x e'.k) W) → ∃ v, e.φ v W ∧ Yields P ops o0 v (G x)) ∧ (∀ i0, i0 ∈ L0 → ∀ o0, ops[i0]? = some o0 → toldAt ks i0 = none → ∀ x, (∀ e, e ∈ ks → (o0.looksAt ops).contains e.t = true → ∃ W, e.φ (x e.k) W) → ∃ v, (∀ t, o0.dst = some t → (G x).tmps[t]? = some v) ∧ Yields P ops o0 v (G x)) ∧ (∀ x, walkY P ops w ks (tellB P ops w ks c T x) x (G x) 0 l a) ∧ (∀ x, G x = putsK ks x (G fun _ => undef)) ∧ (∀ e, e ∈ ks → e.k ∈ fc → ∀ o, ops[e.k]? = some o → ∀ x F, Fam w F → Facts ops ks o x F → ∀ d, yieldsR P o (G x) (F d) fun v W' => e.φ v W' ∧ ∀ b, blk v = some b → (F d).heap.size ≤ b ∨ ∃ e0, e0 ∈ ks ∧ e0.k ∈ fc ∧ (o.looksAt ops).contains e0.t = true ∧ blk (x e0.k) = some b) ∧ (∀ e, e ∈ ks → e.k ∈ fa → ∀ o, ops[e.k]? = some o → ∀ x F, Fam w F → Facts ops ks o x F → ∀ d, yieldsR P o (G x) (F d) fun v W' => e.φ v W' ∧ ∀ b, blk v = some b → (F d).heap.size ≤ b) ∧
      ∀ W x, Below w.heap.size w W → (∀ e, e ∈ ks → e.φ (x e.k) W) → (∀ e e', e ∈ ks → e' ∈ ks → e.k ∈ fc → e'.k ∈ fa → ∀ b, blk (x e.k) = some b → blk (x e'.k) ≠ some b) → wpList P ops Q (ops.toList.drop m) (G x) W) : (Code.region id ops true).wp P Q a w := by
  obtain ⟨G, hY2, hY, h1, h2, hst, hsa, h3⟩ := h
  rw [Bool.and_eq_true] at hB
  have hB' := hB.1
  simp only [flowM, Bool.and_eq_true, decide_eq_true_eq] at hB'
  have hK2 := hK
  simp only [toldB, Bool.and_eq_true, decide_eq_true_eq] at hK2
  have hk : ∀ j e, toldAt ks (0 + j) = some e → ∀ o, l[j]? = some o → o.dst = some e.t := by
    intro j e he o ho
    obtain ⟨hek, hej⟩ := toldAt_some he
    have := List.all_eq_true.1 hK2.1.1 e hek
    simp only [Bool.and_eq_true, decide_eq_true_eq, beq_iff_eq] at this
    have hjm : j < m := by rw [Nat.zero_add] at hej; rw [← hej]; exact this.1.1
    rw [hl, List.getElem?_take_of_lt hjm] at ho
    have h4 := this.2
    rw [hej, Nat.zero_add, show ops[j]? = some o by simpa using ho] at h4
    exact h4
  have hsel : ∀ o, o ∈ l → ∀ cs b, o.op ≠ .select cs b := by
    intro o ho cs b
    rw [hl] at ho
    obtain ⟨j, hj, e⟩ := List.getElem_of_mem (List.mem_of_mem_take ho)
    exact Region.noSelect_spec hB'.1.1.1.1.2 j o cs b (by rw [← e]; simp at hj ⊢)
  have hsz : ∀ x, (G x).tmps.size = n := fun x => by rw [(rel_off l 0 a hk (h1 x)).1, hn]
  have off := rel_off l 0 a hk (h1 fun _ => undef)
  refine wp_region_any hm (relB_any (c := c) (T := T) (w := w) (ks := ks) (m := m) (n := n) (G := G) (G0 := G fun _ => undef) L0 fc fa blk hst hsa hfw hdis hcf D hD hT0 hLf hB.1 (fun i0 hi o0 ho0 => apart_of ho0 (List.all_eq_true.1 hAB i0 hi)) hQ hY2 hY hK hφ h2 (hsz _) (fun x i o hi ho => ?_) h3 _ _ _ _ (fun _ => undef) ?_ ⟨by simp, fun j _ hj => by simp [hj], off.1.symm, off.2.1.symm, fun t hc => ?_, ⟨rfl, rfl, rfl, Nat.le_refl _, fun _ _ => rfl⟩, fun e he hl => ?_, fun j o ho hl => ?_⟩ (fun e e' he _ _ _ hl _ => ?_))
  · have := rel_fit (fun i o a e he hw h => tellB_same he hw h) n l 0 a hn hsel hB.2 hk (h1 x) i o (by rw [hl, List.getElem?_take_of_lt hi]; simpa using ho)
    rw [Nat.zero_add] at this
    exact this
  · simp
  · refine (off.2.2 t fun hm' => ?_).symm
    obtain ⟨o, ho, hd⟩ := List.mem_filterMap.1 hm'
    rw [hl] at ho
    obtain ⟨j, hj, e⟩ := List.getElem_of_mem ho
    simp at hj e
    have hlt : j < ops.size := by omega
    have := hc j o (by omega) (by rw [Array.getElem?_eq_getElem hlt, e]) hd
    simp [hlt] at this
  · have := List.all_eq_true.1 hK2.1.1 e he
    simp only [Bool.and_eq_true, decide_eq_true_eq, beq_iff_eq] at this
    have hlt : e.k < ops.size := by have := this.1.1; omega
    simp [hlt] at hl
  · have hlt : j < ops.size := (Array.getElem?_eq_some_iff.1 ho).1
    simp [hlt] at hl
  · have := List.all_eq_true.1 hK2.1.1 e he
    simp only [Bool.and_eq_true, decide_eq_true_eq, beq_iff_eq] at this
    have hlt : e.k < ops.size := by have := this.1.1; omega
    simp [hlt] at hl
/-- THE LAW: no block is made; the first m operations are quiet, the rest waits for all. -/
theorem flow {id : Nat} {a : Act} {w : World} {l : List Oper} (m n : Nat) (hm : P.follows .mixedOrders = true) (hn : a.tmps.size = n) (hl : l = ops.toList.take m) (hB : (flowM ops [] m && lexOk ops n l) = true)
    (h : ∃ A, (∀ F, Fam w F → wpQuiet P ops (fun W => ∃ d, W = F d) (fun a' => a' = A) l a) ∧ ∀ W, Below w.heap.size w W → wpList P ops Q (ops.toList.drop m) A W) : (Code.region id ops true).wp P Q a w := by
  obtain ⟨A, h1, h2⟩ := h
  rw [Bool.and_eq_true] at hB
  have hB' := hB.1
  simp only [flowM, Bool.and_eq_true, decide_eq_true_eq] at hB'
  have hsel : ∀ o, o ∈ l → ∀ cs b, o.op ≠ .select cs b := by
    intro o ho cs b
    rw [hl] at ho
    obtain ⟨j, hj, e⟩ := List.getElem_of_mem (List.mem_of_mem_take ho)
    exact Region.noSelect_spec hB'.1.1.1.1.2 j o cs b (by rw [← e]; simp at hj ⊢)
  have off := quiet_off l a (h1 _ (fam_top (Below.refl _ _)))
  have no : ∀ {p : Prop} (e : Told), e ∈ ([] : List Told) → p := fun e h => absurd h List.not_mem_nil
  have nn : ∀ {p : Prop} (i : Nat), i ∈ ([] : List Nat) → p := fun e h => absurd h List.not_mem_nil
  refine wp_region_any hm (relB_any (c := m) (T := fun _ _ => False) (w := w) (ks := []) (m := m) (n := n) (G := fun _ => A) (G0 := A) [] [] [] (fun _ => none) (fun e h => no e h) (fun e h => no e h) (fun e h => no e h) (fun _ h => nn _ h) (fun e h => no e h) [] rfl (fun e h => no e h) (fun _ h => nn _ h) hB.1 (fun _ h => nn _ h) (fun _ h => nn _ h) (fun _ h => nn _ h) (fun _ h => nn _ h) rfl (fun e h => no e h) (fun _ => rfl) (by rw [off.1, hn]) (fun x i o hi ho => ?_) (fun W x hb _ _ => h2 W hb) _ _ _ _ (fun _ => undef) ?_ ⟨by simp, fun j _ hj => by simp [hj], off.1.symm, off.2.1.symm, fun t hc => ?_, ⟨rfl, rfl, rfl, Nat.le_refl _, fun _ _ => rfl⟩, fun e he hl => no e he, fun j o ho hl => ?_⟩ (fun e e' he _ _ _ hl _ => no e he))
  · show ∀ F, Fam w F → Facts ops [] o x F → _
    intro F hF _
    rcases fit_class n l a hn hsel hB.2 (h1 F hF) o (List.mem_of_getElem? (i := i) (by rw [hl, List.getElem?_take_of_lt hi]; simpa using ho)) with ⟨c, v, hv, hq⟩ | h
    · exact .inl ⟨c, v, hv, fun d => hq _ ⟨d, rfl⟩⟩
    · exact .inr h
  · simp
  · refine (off.2.2 t fun hm' => ?_).symm
    obtain ⟨o, ho, hd⟩ := List.mem_filterMap.1 hm'
    rw [hl] at ho
    obtain ⟨j, hj, e⟩ := List.getElem_of_mem ho
    simp at hj e
    have hlt : j < ops.size := by omega
    have := hc j o (by omega) (by rw [Array.getElem?_eq_getElem hlt, e]) hd
    simp [hlt] at this
  · have hlt : j < ops.size := (Array.getElem?_eq_some_iff.1 ho).1
    simp [hlt] at hl
/-- THE LAW, with a block that is made by operation number al. -/
theorem flowC {id : Nat} {a A : Act} {w : World} {l : List Oper} (m n : Nat) (hm : P.follows .mixedOrders = true) (hn : a.tmps.size = n) (hl : l = ops.toList.take m) (hB : (flowM ops [] m && lexOk ops n l) = true)
    (h1 : ∀ F, Fam w F → (∀ d b o, b < w.heap.size → (F d).cell? ⟨b, o, none⟩ = w.cell? ⟨b, o, none⟩) → (∀ d b o, b < w.heap.size → (F d).frozen? ⟨b, o, none⟩ = w.frozen? ⟨b, o, none⟩) → wpQuiet P ops (fun W => ∃ d, W = F d) (fun a' => a' = A) l a) (h2 : ∀ W, Below w.heap.size w W → wpList P ops Q (ops.toList.drop m) A W) : (Code.region id ops true).wp P Q a w :=
  flow m n hm hn hl hB ⟨A, fun F hF => h1 F hF hF.cell hF.frozen, h2⟩
theorem flow_new {id : Nat} {a : Act} {w : World} {l : List Oper} {mk : Oper} (obj : Obj) (al m n d : Nat) (hm : P.follows .mixedOrders = true) (hn : a.tmps.size = n) (hl : l = (ops.toList.take m).eraseIdx al) (hB : (flowM ops [] m && lexOk ops n l && decide (al < m) && decide (d < n) && (List.range m).all fun i => match ops[i]? with | none => false | some o => !(o.looksAt ops).contains d && (i == al || o.dst != some d)) = true)
    (ho : ops[al]? = some mk) (hd : mk.dst = some d) (hg : mk.guard = none)
    (h : ∃ A, (∀ F, Fam w F → wpQuiet P ops (fun W => ∃ d, W = F d) (fun a' => a' = A) l a) ∧ (∀ W, (execOp A.eval mk).run P W = .ok (.value (ptrTo W.heap.size)) (W.alloc obj)) ∧
      ∀ W b, Below w.heap.size w W → Made w obj b W → wpList P ops Q (ops.toList.drop m) (A.put (some d) (ptrTo b)) W) : (Code.region id ops true).wp P Q a w := by
  obtain ⟨A, h1, hrun, h3⟩ := h
  simp only [Bool.and_eq_true, decide_eq_true_eq] at hB
  obtain ⟨⟨⟨⟨hB, hlex⟩, halm⟩, hdn⟩, hlk⟩ := hB
  have hB' := hB
  simp only [flowM, Bool.and_eq_true, decide_eq_true_eq] at hB'
  have sel : ∀ (i : Nat) (o : Oper), ops[i]? = some o → ∀ cs b, o.op ≠ .select cs b := fun i o ho cs b => Region.noSelect_spec hB'.1.1.1.1.2 i o cs b ho
  have hsel : ∀ o, o ∈ l → ∀ cs b, o.op ≠ .select cs b := by
    intro o ho cs b
    rw [hl] at ho
    obtain ⟨j, hj, e⟩ := List.getElem_of_mem (List.mem_of_mem_take (List.mem_of_mem_eraseIdx ho))
    exact sel j o (by rw [← e]; simp at hj ⊢) cs b
  have lk : ∀ (i : Nat) (o : Oper), i < m → ops[i]? = some o → d ∉ o.looksAt ops ∧ (i = al ∨ o.dst ≠ some d) := fun i o hi ho => by
    have := List.all_eq_true.1 hlk i (List.mem_range.2 hi)
    simp only [ho, Bool.and_eq_true, Bool.or_eq_true, beq_iff_eq, Bool.not_eq_true', bne_iff_ne] at this
    exact ⟨fun c => by have := this.1; simp [c] at this, this.2⟩
  have off := quiet_off l a (h1 _ (fam_top (Below.refl _ _)))
  have same : ∀ (v : Value) (i : Nat) (o : Oper), i < m → ops[i]? = some o → (∀ t, t ∈ o.looksAt ops → (A.put (some d) v).tmps[t]? = A.tmps[t]?) := fun v i o hi ho t ht => put_off fun e => (lk i o hi ho).1 (by rw [Option.some.inj e]; exact ht)
  have nn : ∀ {p : Prop} (i : Nat), i ∈ ([] : List Nat) → p := fun e h => absurd h List.not_mem_nil
  obtain ⟨e0, he0⟩ : ∃ e0 : Told, e0 = ⟨al, d, fun v W => ∃ b, v = ptrTo b ∧ Made w obj b W⟩ := ⟨_, rfl⟩
  have one : ∀ {p : Told → Prop}, p e0 → ∀ e, e ∈ [e0] → p e := fun h e he => by rw [List.mem_singleton.1 he]; exact h
  have ek : e0.k = al := by rw [he0]
  have et : e0.t = d := by rw [he0]
  have hal : al < ops.size := (Array.getElem?_eq_some_iff.1 ho).1
  have emk : ops[al] = mk := by have := ho; rw [Array.getElem?_eq_getElem hal] at this; exact Option.some.inj this
  have asz : A.tmps.size = n := by rw [off.1, hn]
  refine wp_region_any hm (relB_any (c := m) (T := fun _ _ => False) (w := w) (ks := [e0]) (m := m) (n := n) (G := fun x => A.put (some d) (x al)) (G0 := A.put (some d) undef) [] [] [] (fun _ => none) (fun _ _ h => nn _ h) (fun _ _ h => nn _ h) (fun _ _ h => h.elim (nn _) (nn _)) (fun _ h => nn _ h) (one fun h => by rw [ek] at h; omega) [] rfl (fun _ _ _ _ _ _ _ _ _ h => h.elim) (fun _ h => nn _ h) hB (fun _ h => nn _ h) (fun _ h => nn _ h) (fun _ h => nn _ h) (fun _ h => nn _ h) ?_ (one ?_) (fun x => ?_) (by rw [put_size]; exact asz) (fun x i o hi ho' => ?_) (fun W x hb hf _ => ?_) _ _ _ _ (fun _ => undef) ?_ ⟨by simp, fun j _ hj => by simp [hj], by rw [put_size]; exact off.1.symm, by rw [put_defs]; exact off.2.1.symm, fun t hc => ?_, ⟨rfl, rfl, rfl, Nat.le_refl _, fun _ _ => rfl⟩, one fun hl => ?_, fun j o ho hl => ?_⟩ (fun _ _ _ _ h => nn _ h))
  · simp [toldB, ek, et, halm, hdn, ho, hd]
  · rw [he0]
    exact fun v W W' ⟨b, e, hM⟩ hb => ⟨b, e, hM.up hb⟩
  · show _ = (A.put (some d) undef).put (some e0.t) (x e0.k)
    rw [ek, et]
    simp [Act.put]
  · by_cases c : i = al
    · subst c
      obtain rfl : o = mk := by rw [ho] at ho'; exact (Option.some.inj ho').symm
      have ht : toldAt [e0] i = some e0 := by simp [toldAt, ek]
      unfold RelFit
      rw [ht]
      refine ⟨fun _ F hF hf => ⟨?_, fun dd => ?_⟩, fun h => by omega⟩
      · unfold Region.wanted
        rw [hg]
      · unfold yieldsR
        rw [exec_same (sel i o ho) (same _ i o hi ho), hrun, he0]
        exact ⟨⟨_, rfl, by show _ < ((F dd).heap.push obj).size; simp, (hF.below dd).size, by show ((F dd).heap.push obj)[(F dd).heap.size]? = some obj; simp⟩, (Below.refl _ _).alloc (Nat.le_refl _) _⟩
    · have ht : toldAt [e0] i = none := by simp [toldAt, ek]; exact fun h => c h.symm
      unfold RelFit
      rw [ht]
      intro F hF _
      have hs := same (x al) i o hi ho'
      have hne := (lk i o hi ho').2.resolve_left c
      have at_ : ∀ t, o.dst = some t → (A.put (some d) (x al)).tmps[t]? = A.tmps[t]? := fun t ht => put_off fun e => hne (by rw [ht, Option.some.inj e])
      rw [wanted_same hs]
      rcases fit_class n l a hn hsel hlex (h1 F hF) o (head_mem hl i o hi c ho') with ⟨c1, v, hv, hq⟩ | ⟨c1, hv⟩
      · refine .inl ⟨c1, v, fun t ht => (at_ t ht).trans (hv t ht), fun dd => ?_⟩
        have := hq _ ⟨dd, rfl⟩
        unfold Oper.quietAt at *
        rw [exec_same (sel i o ho') hs]
        exact this
      · exact .inr ⟨c1, fun t ht => (at_ t ht).trans (hv t ht)⟩
  · have := hf e0 List.mem_cons_self
    rw [he0] at this
    obtain ⟨b, e, hM⟩ := this
    rw [e]
    exact h3 W b hb hM
  · simp
  · have htd : t ≠ d := fun e => by
      have := hc al mk halm ho (by rw [hd, e])
      simp [hal] at this
    rw [put_off (fun e => htd (Option.some.inj e).symm)]
    refine (off.2.2 t fun hm' => ?_).symm
    obtain ⟨o, ho, hd⟩ := List.mem_filterMap.1 hm'
    rw [hl] at ho
    obtain ⟨j, hj, e⟩ := List.getElem_of_mem (List.mem_of_mem_eraseIdx ho)
    simp at hj e
    have hlt : j < ops.size := by omega
    have := hc j o (by omega) (by rw [Array.getElem?_eq_getElem hlt, e]) hd
    simp [hlt] at this
  · rw [ek] at hl
    simp [hal] at hl
  · have hlt : j < ops.size := (Array.getElem?_eq_some_iff.1 ho).1
    simp [hlt] at hl
/-- THE LAW: the first m operations read, call, or make memory; those that are told (ks) hand back what differs from world to world; told rows (fc) lie apart from blocks that are made (fa); the rest waits for all. -/
theorem relN {id : Nat} {a : Act} {w : World} {l : List Oper} (ks : List Told) (m n : Nat) (hm : P.follows .mixedOrders = true) (hn : a.tmps.size = n) (hl : l = ops.toList.take m) (L0 : List Nat) (hB : (flowM ops L0 m && lexOk ops n l) = true) (hAB : (L0.all fun i0 => apartB ops i0) = true)
    (hQ : ∀ i0, i0 ∈ L0 → ∀ o0, ops[i0]? = some o0 → ∀ c a w v, Q (.panic c) (a.put o0.dst v) w → Q (.panic c) a w) (hK : toldB ops ks m n = true) (fc fa : List Nat) (blk : Value → Option Nat) (hfw : ∀ e, e ∈ ks → e.k ∈ fc ∨ e.k ∈ fa → ∀ v W, e.φ v W → ∀ b, blk v = some b → b < W.heap.size) (hdis : ∀ k, k ∈ fc → k ∉ fa) (hLf : ∀ i0, i0 ∈ L0 → i0 ∉ fc ∧ i0 ∉ fa)
    (hφ : ∀ e, e ∈ ks → ∀ v W W', e.φ v W → Below W.heap.size W W' → e.φ v W')
    (h : ∃ G : (Nat → Value) → Act, (∀ i0, i0 ∈ L0 → ∀ o0, ops[i0]? = some o0 → ∀ e, toldAt ks i0 = some e → ∀ W x, (∀ e', e' ∈ ks → (o0.looksAt ops).contains e'.t = true → e'.φ (x e'.k) W) → ∃ v, e.φ v W ∧ Yields P ops o0 v (G x)) ∧ (∀ i0, i0 ∈ L0 → ∀ o0, ops[i0]? = some o0 → toldAt ks i0 = none → ∀ x, (∀ e, e ∈ ks → (o0.looksAt ops).contains e.t = true → ∃ W, e.φ (x e.k) W) → ∃ v, (∀ t, o0.dst = some t → (G x).tmps[t]? = some v) ∧ Yields P ops o0 v (G x)) ∧ (∀ x, relWalk P ops w ks x (G x) 0 l a) ∧ (∀ x, G x = putsK ks x (G fun _ => undef)) ∧ (∀ e, e ∈ ks → e.k ∈ fc → ∀ o, ops[e.k]? = some o → ∀ x F, Fam w F → Facts ops ks o x F → ∀ d, yieldsR P o (G x) (F d) fun v W' => e.φ v W' ∧ ∀ b, blk v = some b → (F d).heap.size ≤ b ∨ ∃ e0, e0 ∈ ks ∧ e0.k ∈ fc ∧ (o.looksAt ops).contains e0.t = true ∧ blk (x e0.k) = some b) ∧ (∀ e, e ∈ ks → e.k ∈ fa → ∀ o, ops[e.k]? = some o → ∀ x F, Fam w F → Facts ops ks o x F → ∀ d, yieldsR P o (G x) (F d) fun v W' => e.φ v W' ∧ ∀ b, blk v = some b → (F d).heap.size ≤ b) ∧
      ∀ W x, Below w.heap.size w W → (∀ e, e ∈ ks → e.φ (x e.k) W) → (∀ e e', e ∈ ks → e' ∈ ks → e.k ∈ fc → e'.k ∈ fa → ∀ b, blk (x e.k) = some b → blk (x e'.k) ≠ some b) → wpList P ops Q (ops.toList.drop m) (G x) W) : (Code.region id ops true).wp P Q a w := by
  obtain ⟨G, hY2, hY, h1, h2, hst, hsa, h3⟩ := h
  have hkm : ∀ e, e ∈ ks → e.k < m := fun e he => by
    simp only [toldB, Bool.and_eq_true, decide_eq_true_eq] at hK
    have := List.all_eq_true.1 hK.1.1 e he
    simp only [Bool.and_eq_true, decide_eq_true_eq, beq_iff_eq] at this
    exact this.1.1
  exact relB m (fun _ _ => False) ks m n hm hn hl L0 hB hAB hQ hK fc fa blk hfw hdis hLf (fun e he h => absurd (hkm e he) (by omega)) [] rfl (fun _ _ _ _ _ _ _ _ _ h => h.elim) hφ ⟨G, hY2, hY, fun x => walk_mono (fun i o a e hi h => by
    obtain ⟨h1, h2⟩ := toldAt_some hi
    have := hkm e h1
    exact ⟨fun _ => h, fun h => by omega⟩) (h1 x), h2, hst, hsa, h3⟩
theorem relM {id : Nat} {a : Act} {w : World} {l : List Oper} (ks : List Told) (m n : Nat) (hm : P.follows .mixedOrders = true) (hn : a.tmps.size = n) (hl : l = ops.toList.take m) (L0 : List Nat) (hB : (flowM ops L0 m && lexOk ops n l) = true) (hAB : (L0.all fun i0 => apartB ops i0) = true)
    (hQ : ∀ i0, i0 ∈ L0 → ∀ o0, ops[i0]? = some o0 → ∀ c a w v, Q (.panic c) (a.put o0.dst v) w → Q (.panic c) a w) (hK : toldB ops ks m n = true)
    (hφ : ∀ e, e ∈ ks → ∀ v W W', e.φ v W → Below W.heap.size W W' → e.φ v W')
    (h : ∃ G : (Nat → Value) → Act, (∀ i0, i0 ∈ L0 → ∀ o0, ops[i0]? = some o0 → ∀ e, toldAt ks i0 = some e → ∀ W x, (∀ e', e' ∈ ks → (o0.looksAt ops).contains e'.t = true → e'.φ (x e'.k) W) → ∃ v, e.φ v W ∧ Yields P ops o0 v (G x)) ∧ (∀ i0, i0 ∈ L0 → ∀ o0, ops[i0]? = some o0 → toldAt ks i0 = none → ∀ x, (∀ e, e ∈ ks → (o0.looksAt ops).contains e.t = true → ∃ W, e.φ (x e.k) W) → ∃ v, (∀ t, o0.dst = some t → (G x).tmps[t]? = some v) ∧ Yields P ops o0 v (G x)) ∧ (∀ x, relWalk P ops w ks x (G x) 0 l a) ∧ (∀ x, G x = putsK ks x (G fun _ => undef)) ∧
      ∀ W x, Below w.heap.size w W → (∀ e, e ∈ ks → e.φ (x e.k) W) → wpList P ops Q (ops.toList.drop m) (G x) W) : (Code.region id ops true).wp P Q a w := by
  obtain ⟨G, hY2, hY, h1, h2, h3⟩ := h
  exact relN ks m n hm hn hl L0 hB hAB hQ hK [] [] (fun _ => none) (fun _ _ h => absurd h (by simp)) (fun _ h => absurd h List.not_mem_nil) (fun _ _ => ⟨List.not_mem_nil, List.not_mem_nil⟩) hφ ⟨G, hY2, hY, h1, h2, fun _ _ h => absurd h List.not_mem_nil, fun _ _ h => absurd h List.not_mem_nil, fun W x hb hf _ => h3 W x hb hf⟩
theorem rel {id : Nat} {a : Act} {w : World} {l : List Oper} (ks : List Told) (m n : Nat) (hm : P.follows .mixedOrders = true) (hn : a.tmps.size = n) (hl : l = ops.toList.take m) (hB : (flowM ops [] m && lexOk ops n l) = true) (hK : toldB ops ks m n = true)
    (hφ : ∀ e, e ∈ ks → ∀ v W W', e.φ v W → Below W.heap.size W W' → e.φ v W')
    (h : ∃ G : (Nat → Value) → Act, (∀ x, relWalk P ops w ks x (G x) 0 l a) ∧ (∀ x, G x = putsK ks x (G fun _ => undef)) ∧
      ∀ W x, Below w.heap.size w W → (∀ e, e ∈ ks → e.φ (x e.k) W) → wpList P ops Q (ops.toList.drop m) (G x) W) : (Code.region id ops true).wp P Q a w := by
  obtain ⟨G, h1, h2, h3⟩ := h
  exact relM ks m n hm hn hl [] hB rfl (fun _ h => absurd h List.not_mem_nil) hK hφ ⟨G, fun _ h => absurd h List.not_mem_nil, fun _ h => absurd h List.not_mem_nil, h1, h2, h3⟩
theorem relE {id : Nat} {a : Act} {w : World} {l : List Oper} (ks : List Told) (m n : Nat) (hm : P.follows .mixedOrders = true) (hn : a.tmps.size = n) (hl : l = ops.toList.take m) (i0 : Nat) (o0 : Oper) (ho0 : ops[i0]? = some o0) (hi0 : i0 < m) (hnt : toldAt ks i0 = none) (hB : (flowM ops [i0] m && lexOk ops n l) = true) (hAB : apartB ops i0 = true)
    (hQ : ∀ c a w v, Q (.panic c) (a.put o0.dst v) w → Q (.panic c) a w) (hK : toldB ops ks m n = true)
    (hφ : ∀ e, e ∈ ks → ∀ v W W', e.φ v W → Below W.heap.size W W' → e.φ v W')
    (h : ∃ G : (Nat → Value) → Act, (∀ x, (∀ e, e ∈ ks → (o0.looksAt ops).contains e.t = true → ∃ W, e.φ (x e.k) W) → ∃ v, (∀ t, o0.dst = some t → (G x).tmps[t]? = some v) ∧ Yields P ops o0 v (G x)) ∧ (∀ x, relWalk P ops w ks x (G x) 0 l a) ∧ (∀ x, G x = putsK ks x (G fun _ => undef)) ∧
      ∀ W x, Below w.heap.size w W → (∀ e, e ∈ ks → e.φ (x e.k) W) → wpList P ops Q (ops.toList.drop m) (G x) W) : (Code.region id ops true).wp P Q a w := by
  obtain ⟨G, hY, h1, h2, h3⟩ := h
  have one : ∀ j, j ∈ [i0] → ∀ o, ops[j]? = some o → j = i0 ∧ o = o0 := fun j hj o ho => by
    have e : j = i0 := by simpa using hj
    subst e
    rw [ho0] at ho
    exact ⟨rfl, (Option.some.inj ho).symm⟩
  refine relM ks m n hm hn hl [i0] hB (by simpa using hAB) (fun j hj o ho => ?_) hK hφ ⟨G, fun j hj o ho e he => ?_, fun j hj o ho _ => ?_, h1, h2, h3⟩
  · obtain ⟨_, rfl⟩ := one j hj o ho
    exact hQ
  · obtain ⟨rfl, _⟩ := one j hj o ho
    rw [hnt] at he
    cases he
  · obtain ⟨_, rfl⟩ := one j hj o ho
    exact hY
end
end Go.Proofs.Ythmpfdkbpdbhnaa.Wd
