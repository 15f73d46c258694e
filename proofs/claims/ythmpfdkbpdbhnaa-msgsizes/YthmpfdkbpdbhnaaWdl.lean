/- Wides beside bytes: the two words of a number, rows of Wides that are read, rows of one's own that grow. -/
import Derived.Test.YthmpfdkbpdbhnaaApp8
import Derived.Test.YthmpfdkbpdbhnaaTens
import Derived.Deep.Slices
import Derived.ChangeSame
import Derived.Deep.AppendLies
namespace Go.Proofs.Ythmpfdkbpdbhnaa.Wd
open Go.ChangeShapes Go.WideShapes Go.ChangeAt Go.RowKit Go.Joins Go.Deep
set_option linter.unusedVariables false
set_option linter.unusedSimpArgs false
set_option maxRecDepth 8000
set_option maxHeartbeats 8000000
/-- Two words that stand for a number. -/
def wd (v : Int) : Value := .agg #[.int .i64 (v / 18446744073709551616), .int .u64 (v % 18446744073709551616)]
def InW (v : Int) : Prop := -170141183460469231731687303715884105728 ≤ v ∧ v < 170141183460469231731687303715884105728
def wr (v : Int) : Int := (v + 170141183460469231731687303715884105728) % 340282366920938463463374607431768211456 - 170141183460469231731687303715884105728
theorem wr_rng (v : Int) : InW (wr v) := by unfold InW wr; omega
theorem wr_in {v : Int} (h : InW v) : wr v = v := by unfold InW at h; unfold wr; omega
theorem wd_inj {a b : Int} (h : wd a = wd b) : a = b := by
  unfold wd at h
  injection h with h
  simp only [Array.mk.injEq, List.cons.injEq, Value.int.injEq, true_and, and_true] at h
  omega
theorem wd_mk (h l : Int) (hl : 0 ≤ l ∧ l < 18446744073709551616) : Value.agg #[.int .i64 h, .int .u64 l] = wd (h * 18446744073709551616 + l) := by
  unfold wd
  have e1 : (h * 18446744073709551616 + l) / 18446744073709551616 = h := by omega
  have e2 : (h * 18446744073709551616 + l) % 18446744073709551616 = l := by omega
  rw [e1, e2]
theorem wd_eq {h l v : Int} (e1 : h = v / 18446744073709551616) (e2 : l = v % 18446744073709551616) : Value.agg #[.int .i64 h, .int .u64 l] = wd v := by
  subst e1 e2; rfl
theorem ret_wd {h l v : Int} (e1 : h = v / 18446744073709551616) (e2 : l = v % 18446744073709551616) : Ending.returned (.agg #[.int .i64 h, .int .u64 l]) = .returned (wd v) := by
  rw [wd_eq e1 e2]
theorem words {v : Int} (hv : InW v) : ∃ h l : Int, wd v = .agg #[.int .i64 h, .int .u64 l] ∧ -9223372036854775808 ≤ h ∧ h ≤ 9223372036854775807 ∧ 0 ≤ l ∧ l ≤ 18446744073709551615 ∧ Hid (v = h * 18446744073709551616 + l) := by
  refine ⟨_, _, rfl, ?_⟩
  unfold InW at hv
  refine ⟨by omega, by omega, by omega, by omega, show _ = _ by omega⟩
/-- Wides that are read. -/
def WdR (W : World) (p : Option Addr) (n : Nat) (l : List Int) : Prop := l.length = n ∧ (∀ y, y ∈ l → InW y) ∧ ∀ i, i < n → ∃ q o, p = some ⟨q, o, none⟩ ∧ W.cell? ⟨q, o + i * 2, none⟩ = some (.int .i64 (l.getD i 0 / 18446744073709551616)) ∧ W.cell? ⟨q, o + i * 2 + 1, none⟩ = some (.int .u64 (l.getD i 0 % 18446744073709551616))
theorem WdR.up {W W' : World} {p : Option Addr} {n : Nat} {l : List Int} (h : WdR W p n l) (hB : Below W.heap.size W W') : WdR W' p n l := ⟨h.1, h.2.1, fun i hi => by
  obtain ⟨q, o, e, a, b⟩ := h.2.2 i hi
  exact ⟨q, o, e, keep hB a, keep hB b⟩⟩
def WdsN (W : World) (p : Option Addr) (n c : Nat) (l : List Int) : Prop := n ≤ c ∧ c ≤ 9223372036854775807 ∧ WdR W p n l
theorem wdR_of {W : World} {p : Option Addr} {n : Nat} (h : ∀ i, i < n → ∃ q o x, p = some ⟨q, o, none⟩ ∧ InW x ∧ W.cell? ⟨q, o + i * 2, none⟩ = some (.int .i64 (x / 18446744073709551616)) ∧ W.cell? ⟨q, o + i * 2 + 1, none⟩ = some (.int .u64 (x % 18446744073709551616))) : ∃ l, WdR W p n l := by
  have h2 : ∀ i, ∃ x : Int, InW x ∧ (i < n → ∃ q o, p = some ⟨q, o, none⟩ ∧ W.cell? ⟨q, o + i * 2, none⟩ = some (.int .i64 (x / 18446744073709551616)) ∧ W.cell? ⟨q, o + i * 2 + 1, none⟩ = some (.int .u64 (x % 18446744073709551616))) := fun i => by
    by_cases hi : i < n
    · obtain ⟨q, o, x, h3, h4, h5⟩ := h i hi
      exact ⟨x, h4, fun _ => ⟨q, o, h3, h5⟩⟩
    · exact ⟨0, by unfold InW; omega, fun h4 => absurd h4 hi⟩
  obtain ⟨f, hf⟩ := Classical.axiomOfChoice h2
  refine ⟨(List.range n).map f, by simp, fun y hy => ?_, fun i hi => ?_⟩
  · obtain ⟨i, _, rfl⟩ := List.mem_map.1 hy
    exact (hf i).1
  · have e : ((List.range n).map f).getD i 0 = f i := by
      rw [List.getD_eq_getElem?_getD, List.getElem?_map, List.getElem?_range hi]
      rfl
    rw [e]
    exact (hf i).2 hi
theorem list2 {α : Type} {l : List α} (h : l.length = 2) : ∃ a b, l = [a, b] := by
  match l, h with
  | [a, b], _ => exact ⟨a, b, rfl⟩
theorem open_wides {H : Type} {enc : TypeId × Value → H} {P : Program} {W : World} {t e : TypeId} {f0 f1 : Field} {a : Option Addr} {n c : Nat} {d : DataW H} {ps : List MemPlace}
    (ht : P.underlying t = some (.slice e)) (he : P.underlying e = some (.struct #[f0, f1])) (ce : P.cellsOf e = 2)
    (o0 : f0.offset = 0) (o1 : f1.offset = 1) (c0 : P.cellsOf f0.type = 1) (c1 : P.cellsOf f1.type = 1)
    (u0 : P.underlying f0.type = some (.int .i64)) (u1 : P.underlying f1.type = some (.int .u64))
    (h : DataW.Trod enc P W 0 (fun _ => true) true t (.slice a n c) d ps) : ∃ l, WdsN W a n c l := by
  obtain ⟨fuel, hf⟩ := h
  rcases open_slice ht hf with ⟨hcs, _⟩ | ⟨x, len, cap, m, fu, D, Pl, hcs, hb, hl, hm, hmm, _, hx⟩
  · simp [Value.cells] at hcs
    obtain ⟨rfl, rfl, rfl⟩ := hcs
    exact ⟨[], Nat.le_refl _, by omega, rfl, fun y hy => by simp at hy, fun i hi => by omega⟩
  · simp [Value.cells] at hcs
    obtain ⟨rfl, rfl, rfl⟩ := hcs
    have key : ∃ l, WdR W (some x) n l := wdR_of fun i hi => by
      have hlm : n ≤ m := by rw [hmm]; split <;> omega
      obtain ⟨cs', h1, h2⟩ := hx i (by omega)
      rw [ce] at h1
      obtain ⟨_, hlen, hcell⟩ := World.cells?_some h1
      obtain ⟨xs, fk, _, _, _, hxl, hfd⟩ := DataW.trod_struct he h2
      obtain ⟨y0, y1, rfl⟩ := list2 hxl
      obtain ⟨v0, v1, rfl⟩ := list2 hlen
      have t0 := hfd 0 f0 rfl
      have t1 := hfd 1 f1 rfl
      simp [o0, c0] at t0
      simp [o1, c1] at t1
      obtain ⟨z0, e0', _, w0⟩ := DataW.trod_int u0 t0
      obtain ⟨z1, e1', _, w1⟩ := DataW.trod_int u1 t1
      simp only [List.cons.injEq, and_true] at e0' e1'
      subst e0' e1'
      have g0_ := hcell 0 (by omega)
      have g1_ := hcell 1 (by omega)
      rw [add_add] at g0_ g1_
      have ex : x = ⟨x.block, x.off, none⟩ := by
        obtain ⟨cs0, h10, _⟩ := hx 0 (by omega)
        rw [ce] at h10
        obtain ⟨_, hlen0, hcell0⟩ := World.cells?_some h10
        obtain ⟨w0_, w1_, rfl⟩ := list2 hlen0
        have h0 := hcell0 0 (by omega)
        rw [add_add, Nat.zero_mul] at h0
        have e0_ : x.add (0 + 0) = x := by simp [Addr.add]
        rw [e0_] at h0
        exact spot_none (v := w0_) (by simpa using h0)
      have hs : ∀ j v, W.cell? (x.add j) = some v → x = ⟨x.block, x.off, none⟩ ∧ W.cell? ⟨x.block, x.off + j, none⟩ = some v := fun j v hv => by
        rw [ex, addr_plus] at hv
        exact ⟨ex, hv⟩
      have n0 := hs _ _ (by simpa using g0_)
      have n1 := (hs _ _ (by simpa using g1_)).2
      have b0 := bounds_i64 w0
      have b1 := bounds_u64 w1
      refine ⟨x.block, x.off, z0 * 18446744073709551616 + z1, by rw [← n0.1], by unfold InW; omega, ?_, ?_⟩
      · rw [show (z0 * 18446744073709551616 + z1) / 18446744073709551616 = z0 by omega]
        exact n0.2
      · rw [show (z0 * 18446744073709551616 + z1) % 18446744073709551616 = z1 by omega, Nat.add_assoc]
        exact n1
    obtain ⟨l, hl2⟩ := key
    exact ⟨l, hl, by unfold maxLen at hm; omega, hl2⟩
def wv : List Int → List Value
  | [] => []
  | x :: l => .int .i64 (x / 18446744073709551616) :: .int .u64 (x % 18446744073709551616) :: wv l
theorem wv_len : ∀ l : List Int, (wv l).length = l.length * 2
  | [] => rfl
  | x :: l => by rw [wv, List.length_cons, List.length_cons, wv_len l, List.length_cons]; omega
theorem wv_app (x : Int) : ∀ l : List Int, wv (l ++ [x]) = wv l ++ [.int .i64 (x / 18446744073709551616), .int .u64 (x % 18446744073709551616)]
  | [] => rfl
  | y :: l => by rw [List.cons_append, wv, wv, wv_app x l]; rfl
theorem wv_at : ∀ (l : List Int) (i : Nat), i < l.length → (wv l)[i * 2]? = some (.int .i64 (l.getD i 0 / 18446744073709551616)) ∧ (wv l)[i * 2 + 1]? = some (.int .u64 (l.getD i 0 % 18446744073709551616))
  | [], i, h => by simp at h
  | x :: l, 0, h => ⟨rfl, rfl⟩
  | x :: l, i + 1, h => by
    have := wv_at l i (by simpa using h)
    rw [show (i + 1) * 2 = i * 2 + 1 + 1 by omega, show i * 2 + 1 + 1 + 1 = (i * 2 + 1) + 1 + 1 by omega]
    simpa [wv] using this
theorem wv_one (l : List Int) : ∀ u ∈ wv l, u.oneCell' = true := by
  induction l with
  | nil => intro u hu; simp [wv] at hu
  | cons x l ih =>
    intro u hu
    rw [wv, List.mem_cons, List.mem_cons] at hu
    rcases hu with rfl | rfl | hu
    · rfl
    · rfl
    · exact ih u hu
theorem rowg_up {e : TypeId} {s : Nat} {W W' : World} {B : Nat} {v : Value} {n : Nat} {xs : List Value} (h : W.ownsRow B e s v n xs) (hb : Below W.heap.size W W') : W'.ownsRow B e s v n xs := by
  refine ⟨h.1, ?_⟩
  rcases h.2 with h | ⟨g, cap, cur, h1, h2, h3, h4⟩
  · exact .inl h
  · exact .inr ⟨g, cap, cur, h1, h2, by rw [hb.block g (heap_in8 h3)]; exact h3, h4⟩
theorem rowg_grown {e : TypeId} {s : Nat} {W W' : World} {B : Nat} {u v : Value} {n : Nat} {xs : List Value} (h : W.ownsRow B e s v n xs) (hg : W.grownBy W' u.ownBlock) (hap : ∀ g, ¬ (u.ownBlock = some g ∧ v.ownBlock = some g)) : W'.ownsRow B e s v n xs := by
  refine ⟨h.1, ?_⟩
  rcases h.2 with h | ⟨g, cap, cur, h1, h2, h3, h4⟩
  · exact .inl h
  · exact .inr ⟨g, cap, cur, h1, h2, by rw [hg.block g (heap_in8 h3) (fun c => hap g ⟨c.symm, by rw [h1]; rfl⟩)]; exact h3, h4⟩
/-- A row of Wides of the call's own. -/
def OwnW (W : World) (B : Nat) (v : Value) (l : List Int) : Prop := (∀ y, y ∈ l → InW y) ∧ W.ownsRow B 47 2 v l.length (wv l)
theorem OwnW.nil (W : World) (B : Nat) : OwnW W B (.slice none 0 0) [] := ⟨fun y hy => by simp at hy, rfl, .inl ⟨rfl, rfl⟩⟩
theorem OwnW.up {W W' : World} {B : Nat} {v : Value} {l : List Int} (h : OwnW W B v l) (hb : Below W.heap.size W W') : OwnW W' B v l := ⟨h.1, rowg_up h.2 hb⟩
theorem OwnW.wdr {W : World} {B : Nat} {v : Value} {l : List Int} (h : OwnW W B v l) : ∃ p c, v = .slice p l.length c ∧ WdR W p l.length l := by
  rcases h.2.2 with ⟨e, h0⟩ | ⟨g, cap, cur, e, _, h3, _, _, _, h7⟩
  · have : l = [] := List.eq_nil_of_length_eq_zero h0
    subst this
    exact ⟨_, _, e, rfl, h.1, fun i hi => by simp at hi⟩
  · refine ⟨_, _, e, rfl, h.1, fun i hi => ⟨g, 0, rfl, ?_⟩⟩
    have hx := wv_at l i hi
    rw [← h7, List.getElem?_take_of_lt (by omega), List.getElem?_take_of_lt (by omega)] at hx
    unfold World.cell?
    simp only [h3, Nat.zero_add]
    simpa using hx
theorem wideT : ∃ i, Try.prog.info? 47 = some i ∧ (∃ z, i.zero = some z ∧ z.cells.size = 2) ∧ i.size = 2 ∧ i.bytes = 16 := by
  have h : (Try.prog.info? 47).map (fun i => (i.zero.map fun z => z.cells.size, i.size, i.bytes)) = some (some 2, 2, 16) := by kernel_rfl
  cases hq : Try.prog.info? 47 with
  | none => rw [hq] at h; cases h
  | some i =>
    rw [hq] at h
    simp only [Option.map_some, Option.some.injEq, Prod.mk.injEq] at h
    obtain ⟨h1, h2, h3⟩ := h
    cases hz : i.zero with
    | none => rw [hz] at h1; cases h1
    | some z =>
      rw [hz] at h1
      simp only [Option.map_some, Option.some.injEq] at h1
      exact ⟨i, rfl, ⟨z, hz, h1⟩, h2, h3⟩
/-- append of a literal of one Wide. -/
theorem wpList_appW1 {ops : Array Oper} {rest : List Oper} {o : Oper} {a : Act} {Q : Exit → Act → World → Prop} {w : World} (hgd : o.guard = none) (s x : Operand)
    (ho : o.op = .call { callee := .builtin .append, args := #[s, x], argTypes := #[25, 25] }) (B : Nat) (u : Value) (l0 : List Int) (hs : a.eval s = u) (hown : OwnW w B u l0)
    (gx : Nat) (X hi lo : Int) (c : Nat) (hx : a.eval x = .slice (some ⟨gx, 0, none⟩) 1 c) (hX : InW X) (h1 : X / 18446744073709551616 = hi) (h2 : X % 18446744073709551616 = lo) (hb : w.heap[gx]? = some (.cells #[.int .i64 hi, .int .u64 lo] 47 (0, 0))) (hlen : l0.length ≤ 1000) (hB : B ≤ w.heap.size) (w0 : World) (hB0 : Below B w0 w)
    (h : ∀ u' w', Hid (OwnW w' B u' (l0 ++ [X])) → Below B w0 w' → wpList Try.prog ops Q rest (a.put o.dst u') w') : wpList Try.prog ops Q (o :: rest) a w := by
  obtain ⟨i0, hi0, ⟨z, hz0, hz1⟩, hz2, hz3⟩ := wideT
  subst h1 h2
  have hc : ∀ j u, (wv [X])[j]? = some u → w.cell? ((⟨gx, 0, none⟩ : Addr).add j) = some u := fun j u hj => by
    rw [addr_plus, Nat.zero_add]
    unfold World.cell?
    simp only [hb]
    simpa [wv] using hj
  refine wpList_append_lies _ hgd s x 25 ho B 47 i0 z 2 16 Try.underlying25 hi0 hz0 hz2 hz3 hz1 (by decide) u l0.length _ hs hown.2 ⟨gx, 0, none⟩ 1 c (wv [X]) hx (by simp [wv]) hc (wv_one [X]) (by omega) (by unfold maxLen; omega) (by omega) hB w.heap.size rfl ?_
  intro g cap w' g1 g2 g3 g4
  refine h _ w' ⟨fun y hy => ?_, ?_⟩ (Below.grown hB0 g2 hB fun k hk => (World.ownsRow.lt hown.2 k hk).1)
  · rcases List.mem_append.1 hy with hy | hy
    · exact hown.1 y hy
    · simp only [List.mem_singleton] at hy
      rw [hy]; exact hX
  · rw [wv_app, List.length_append]
    exact g1
end Go.Proofs.Ythmpfdkbpdbhnaa.Wd
