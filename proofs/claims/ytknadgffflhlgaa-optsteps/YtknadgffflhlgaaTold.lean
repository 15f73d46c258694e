/- What an operation of a drawn region hands back, told by predicates that hold on: a cell newly made, a literal's row, a tensor of one's own. -/
import Derived.Test.YtknadgffflhlgaaTenM
import Derived.Test.YtknadgffflhlgaaFlow
namespace Go.Proofs.Ytknadgffflhlgaa.Wd
open Go.RowKit
set_option linter.unusedVariables false
set_option linter.unusedSimpArgs false
theorem heap_lt {W : World} {b : Nat} {o : Obj} (h : W.heap[b]? = some o) : b < W.heap.size := by
  rcases Nat.lt_or_ge b W.heap.size with h' | h'
  · exact h'
  · rw [Array.getElem?_eq_none h'] at h; cases h
theorem new_cel {W : World} {b : Nat} {s t : Value} {e : TypeId} (h : W.heap[b]? = some (.cells #[s, t] e (0, 0))) : Cel W b s t := by
  refine ⟨?_, ?_, ?_, ?_⟩
  · unfold World.cell?; simp [h]
  · unfold World.cell?; simp [h]
  · unfold World.frozen?; simp [h]
  · unfold World.frozen?; simp [h]
theorem OwnK.off_type {k : IntKind} {e e' : TypeId} {W : World} {B b : Nat} {v : Value} {l : List Int} {cs : Array Value} {fz : Nat × Nat} (h : OwnK k e W B v l) (hb : W.heap[b]? = some (.cells cs e' fz)) (hne : e ≠ e') : Off b v := by
  intro ad n c ev
  rcases h.2 with ⟨h1, _⟩ | ⟨q, cap, cur, h1, h2, h3, _⟩
  · rw [h1] at ev; cases ev
  · rw [h1] at ev
    cases ev
    intro hq
    have hq : q = b := hq
    subst hq
    rw [h3] at hb
    injection hb with hb
    injection hb with _ h5 _
    exact hne h5
/-- A tensor's copy. -/
def OwnT (B : Nat) (D X : List Int) (v : Value) (W : World) : Prop := ∃ p n c p2 n2 c2, v = .agg #[.slice p n c, .slice p2 n2 c2] ∧ OwnK .i64 3 W B (.slice p n c) D ∧ OwnK .i64 27 W B (.slice p2 n2 c2) X
theorem OwnT.up {B : Nat} {D X : List Int} {v : Value} {W W' : World} (h : OwnT B D X v W) (hB : Below W.heap.size W W') : OwnT B D X v W' := by
  obtain ⟨p, n, c, p2, n2, c2, e, h1, h2⟩ := h
  exact ⟨p, n, c, p2, n2, c2, e, h1.up hB, h2.up hB⟩
/-- A literal's row. -/
def LitN (l : List Int) (v : Value) (W : World) : Prop := ∃ g, v = .slice (some ⟨g, 0, none⟩) l.length l.length ∧ Nums .i64 W v l
theorem LitN.up {l : List Int} {v : Value} {W W' : World} (h : LitN l v W) (hB : Below W.heap.size W W') : LitN l v W' := by
  obtain ⟨g, e, h1⟩ := h
  exact ⟨g, e, h1.up hB⟩
/-- A tensor's two literals. -/
def TupP (B : Nat) (D X : List Int) (E : Int) (v : Value) (W : World) : Prop := ∃ u, v = .tuple #[u, .int .i64 E] ∧ OwnT B D X u W
theorem TupP.up {B : Nat} {D X : List Int} {E : Int} {v : Value} {W W' : World} (h : TupP B D X E v W) (hB : Below W.heap.size W W') : TupP B D X E v W' := by
  obtain ⟨u, e, h1⟩ := h
  exact ⟨u, e, h1.up hB⟩
theorem tn_nums {D X : List Int} {p p2 : Option Addr} {n c n2 c2 : Nat} {W : World} (h : Tn D X (.agg #[.slice p n c, .slice p2 n2 c2]) W) : Nums .i64 W (.slice p n c) D ∧ Nums .i64 W (.slice p2 n2 c2) X := by
  obtain ⟨p', n', c', p2', n2', c2', e, h1, h2⟩ := h
  cases e
  exact ⟨h1, h2⟩
theorem TRes.own {W : World} {B : Nat} {v : Value} {D X : List Int} (h : TRes W B v D X) : OwnT B D X v W := by
  obtain ⟨s, t, rfl, h1, h2⟩ := h
  obtain ⟨p, n, c, rfl, _⟩ := h1.nums.lst
  obtain ⟨p2, n2, c2, rfl, _⟩ := h2.nums.lst
  exact ⟨p, n, c, p2, n2, c2, rfl, h1, h2⟩
/-- A slice has room for what it holds. -/
theorem OwnK.cap {k : IntKind} {e : TypeId} {W : World} {B n c : Nat} {p : Option Addr} {l : List Int} (h : OwnK k e W B (.slice p n c) l) : n ≤ c := by
  rcases h.2 with ⟨h1, _⟩ | ⟨q, cap, cur, h1, h2, h3, h4, _⟩
  · cases h1
    exact Nat.le_refl _
  · cases h1
    exact h4
theorem OwnK.obj {k : IntKind} {e : TypeId} {W : World} {B g n c : Nat} {l : List Int} (h : OwnK k e W B (.slice (some ⟨g, 0, none⟩) n c) l) : ∃ cs fz, W.heap[g]? = some (.cells cs e fz) := by
  rcases h.2 with ⟨h1, _⟩ | ⟨q, cap, cur, h1, h2, h3, _⟩
  · cases h1
  · cases h1
    exact ⟨_, _, h3⟩
theorem good_two {D0 D1 : Nat} : goodN (ntl [(D0 : Int), (D1 : Int)]) ↔ 1 ≤ D0 ∧ 1 ≤ D1 ∧ D0 * D1 ≤ 4096 := by
  have en : ntl [(D0 : Int), (D1 : Int)] = [D0, D1] := ntl_itl [D0, D1]
  rw [en]
  constructor
  · intro h
    exact ⟨h.2.1 _ (by simp), h.2.1 _ (by simp), by have := h.2.2; simpa [prodN] using this⟩
  · rintro ⟨a, b, c⟩
    exact ⟨by simp, fun y hy => by simp at hy; omega, by simpa [prodN] using c⟩
theorem RI_two {a b : Nat} (ha : a ≤ 4096) (hb : b ≤ 4096) : RI [(a : Int), (b : Int)] := fun q hq => by
  simp at hq
  omega
theorem le_side {a b : Nat} (h : a * b ≤ 4096) (ha : 1 ≤ a) (hb : 1 ≤ b) : a ≤ 4096 ∧ b ≤ 4096 := ⟨by have := Nat.mul_le_mul_left a hb; omega, by have := Nat.mul_le_mul_right b ha; omega⟩
/-- A tensor that can be read, with room for its numbers. -/
def TnC (D X : List Int) (v : Value) (W : World) : Prop := ∃ p n c p2 n2 c2, v = .agg #[.slice p n c, .slice p2 n2 c2] ∧ Nums .i64 W (.slice p n c) D ∧ Nums .i64 W (.slice p2 n2 c2) X ∧ n2 ≤ c2
theorem TnC.up {D X : List Int} {v : Value} {W W' : World} (h : TnC D X v W) (hB : Below W.heap.size W W') : TnC D X v W' := by
  obtain ⟨p, n, c, p2, n2, c2, e, h1, h2, h3⟩ := h
  exact ⟨p, n, c, p2, n2, c2, e, h1.up hB, h2.up hB, h3⟩
theorem TnC.tn {D X : List Int} {v : Value} {W : World} (h : TnC D X v W) : Tn D X v W := by
  obtain ⟨p, n, c, p2, n2, c2, e, h1, h2, h3⟩ := h
  exact ⟨p, n, c, p2, n2, c2, e, h1, h2⟩
theorem TRes.tnc {W : World} {B : Nat} {v : Value} {D X : List Int} (h : TRes W B v D X) : TnC D X v W := by
  obtain ⟨s, t, rfl, h1, h2⟩ := h
  obtain ⟨p, n, c, rfl, _⟩ := h1.nums.lst
  obtain ⟨p2, n2, c2, rfl, _⟩ := h2.nums.lst
  exact ⟨p, n, c, p2, n2, c2, rfl, h1.nums, h2.nums, h2.cap⟩
theorem RI_kern {l : List Int} (h : (l.all fun y => decide (-9223372036854775808 ≤ y ∧ y ≤ 9223372036854775807)) = true) : RI l := fun y hy => by
  have := List.all_eq_true.1 h y hy
  simpa using this
theorem two_sides {d x : List Int} (h : isP d x) (h2 : d.length = 2) : ∃ D0 D1 : Nat, d = [(D0 : Int), (D1 : Int)] ∧ x.length = D0 * D1 ∧ 1 ≤ D0 ∧ 1 ≤ D1 ∧ D0 * D1 ≤ 4096 := by
  obtain ⟨a, ga, rfl⟩ := good_itl h.1
  have hx := h.2
  rw [ntl_itl] at hx
  rw [itl_len] at h2
  match a, h2 with
  | [D0, D1], _ =>
    have e : prodN [D0, D1] = D0 * D1 := by simp [prodN]
    rw [e] at hx
    refine ⟨D0, D1, rfl, hx, ga.2.1 _ (by simp), ga.2.1 _ (by simp), ?_⟩
    have := ga.2.2
    rw [e] at this
    exact this
theorem three_sides {d x : List Int} (h : isP d x) (h2 : d.length = 3) : ∃ D0 D1 D2 : Nat, d = [(D0 : Int), (D1 : Int), (D2 : Int)] ∧ x.length = D0 * D1 * D2 ∧ 1 ≤ D0 ∧ 1 ≤ D1 ∧ 1 ≤ D2 ∧ D0 * D1 * D2 ≤ 4096 := by
  obtain ⟨a, ga, rfl⟩ := good_itl h.1
  have hx := h.2
  rw [ntl_itl] at hx
  rw [itl_len] at h2
  match a, h2 with
  | [D0, D1, D2], _ =>
    have e : prodN [D0, D1, D2] = D0 * D1 * D2 := by simp [prodN, Nat.mul_assoc]
    rw [e] at hx
    refine ⟨D0, D1, D2, rfl, hx, ga.2.1 _ (by simp), ga.2.1 _ (by simp), ga.2.1 _ (by simp), ?_⟩
    have := ga.2.2
    rw [e] at this
    exact this
theorem good_three {D0 D1 D2 : Nat} : goodN (ntl [(D0 : Int), (D1 : Int), (D2 : Int)]) ↔ 1 ≤ D0 ∧ 1 ≤ D1 ∧ 1 ≤ D2 ∧ D0 * D1 * D2 ≤ 4096 := by
  have en : ntl [(D0 : Int), (D1 : Int), (D2 : Int)] = [D0, D1, D2] := ntl_itl [D0, D1, D2]
  rw [en]
  constructor
  · intro h
    exact ⟨h.2.1 _ (by simp), h.2.1 _ (by simp), h.2.1 _ (by simp), by have := h.2.2; simpa [prodN, Nat.mul_assoc] using this⟩
  · rintro ⟨a, b, c, e⟩
    exact ⟨by simp, fun y hy => by simp at hy; omega, by simpa [prodN, Nat.mul_assoc] using e⟩
theorem RI_three {a b c : Nat} (ha : a ≤ 4096) (hb : b ≤ 4096) (hc : c ≤ 4096) : RI [(a : Int), (b : Int), (c : Int)] := fun q hq => by
  simp at hq
  omega
theorem prod_two (a b : Nat) : prodN (ntl [(a : Int), (b : Int)]) = a * b := by rw [show ntl [(a : Int), (b : Int)] = [a, b] from ntl_itl [a, b]]; simp [prodN]
theorem prod_three (a b c : Nat) : prodN (ntl [(a : Int), (b : Int), (c : Int)]) = a * b * c := by rw [show ntl [(a : Int), (b : Int), (c : Int)] = [a, b, c] from ntl_itl [a, b, c]]; simp [prodN, Nat.mul_assoc]
theorem RowN.room {w : World} {p : Option Addr} {n c : Nat} {z : Nat → Int} (h : RowN .i64 w p n c z) : n ≤ c := h.1.1
end Go.Proofs.Ytknadgffflhlgaa.Wd
