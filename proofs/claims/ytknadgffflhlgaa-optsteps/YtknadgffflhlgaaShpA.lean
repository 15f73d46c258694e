/- What package shape's Size, Good, Same and the reference's hand back. What package shape's Strides, Place, At and the reference's hand back. What package shape's fromLast, joined and Join hand back. What package shape's Join hands back. -/
import Derived.Test.YtknadgffflhlgaaProg
import Derived.WalkKit
import Derived.ProofKit
import Derived.WalkSpells
import Derived.Handy
import Derived.Deep.LoopGhost
import Derived.Deep.Draws
import Derived.BigQuiet
import Derived.Deep.QuietTactic
import Derived.WalkSmall
import Derived.Test.YtknadgffflhlgaaRow
import Derived.Test.YtknadgffflhlgaaShpM
namespace Go.Proofs.Ytknadgffflhlgaa.Wd
open Go.RowKit
set_option linter.unusedVariables false
set_option linter.unusedSimpArgs false
/-- Go's ints. -/
def RI (l : List Int) : Prop := ∀ y, y ∈ l → -9223372036854775808 ≤ y ∧ y ≤ 9223372036854775807
theorem RI.at {l : List Int} (h : RI l) (k : Nat) (hk : k < l.length) : -9223372036854775808 ≤ l.getD k 0 ∧ l.getD k 0 ≤ 9223372036854775807 := by
  rw [getD_lt l k 0 hk]
  exact h _ (List.getElem_mem hk)
/-- A slice's cells, as a walk reads them. -/
def Lst (w : World) (p : Option Addr) (n : Nat) (l : List Int) : Prop := l.length = n ∧ ∀ j, j < n → ∃ q o, p = some ⟨q, o, none⟩ ∧ w.cell? ⟨q, o + j, none⟩ = some (.int .i64 (l.getD j 0))
theorem Nums.lst {w : World} {v : Value} {l : List Int} (h : Nums .i64 w v l) : ∃ p n c, v = .slice p n c ∧ Hid (Lst w p n l) := by
  obtain ⟨p, c, rfl, hc⟩ := h.view
  exact ⟨p, _, c, rfl, rfl, hc⟩
theorem ne_at {a b : List Int} {n k : Nat} (ha : a.length = n) (hb : b.length = n) (hk : k < n) (h : a.getD k 0 ≠ b.getD k 0) : ¬ a = b := fun e => h (by rw [e])
theorem eq_all {a b : List Int} {n : Nat} (ha : a.length = n) (hb : b.length = n) (h : ∀ i, i < n → a.getD i 0 = b.getD i 0) : a = b :=
  List.ext_getElem (by omega) fun i h1 h2 => by
    have := h i (by omega)
    rw [getD_lt a i 0 h1, getD_lt b i 0 h2] at this
    exact this
end Go.Proofs.Ytknadgffflhlgaa.Wd
namespace Go.Proofs.Ytknadgffflhlgaa.Wd
open Go.RowKit
set_option linter.unusedVariables false
set_option linter.unusedSimpArgs false
theorem drewN_add (w : World) (a b : Nat) : (w.drewN a).drewN b = w.drewN (a + b) := by unfold World.drewN; simp [Nat.add_assoc]
theorem Lst.up {w w' : World} {p : Option Addr} {n : Nat} {l : List Int} (h : Lst w p n l) (hB : Below w.heap.size w w') : Lst w' p n l :=
  ⟨h.1, fun j hj => by
    obtain ⟨q, o, e, hc⟩ := h.2 j hj
    exact ⟨q, o, e, still_cell hB hc⟩⟩
theorem Lst.block {w : World} {q o n : Nat} {l : List Int} (h : Lst w (some ⟨q, o, none⟩) n l) (hn : 0 < n) : q < w.heap.size := by
  obtain ⟨q', o', e, hc⟩ := h.2 0 hn
  cases e
  exact cell_block hc
theorem good_itl {l : List Int} (h : goodN (ntl l)) : ∃ d, goodN d ∧ l = itl d := ⟨ntl l, h, (itl_ntl h.2.1).symm⟩
end Go.Proofs.Ytknadgffflhlgaa.Wd
namespace Go.Proofs.Ytknadgffflhlgaa.Wd
open Go.RowKit
set_option linter.unusedVariables false
set_option linter.unusedSimpArgs false
end Go.Proofs.Ytknadgffflhlgaa.Wd
namespace Go.Proofs.Ytknadgffflhlgaa.Wd
open Go.RowKit
set_option linter.unusedVariables false
set_option linter.unusedSimpArgs false
theorem RI_itl {d : List Nat} (h : ∀ x, x ∈ d → x ≤ 4096) : RI (itl d) := by
  intro y hy
  obtain ⟨x, hx, rfl⟩ := List.mem_map.1 hy
  have := h x hx
  omega
theorem RI_join {a b : List Nat} (ha : goodN a) (hb : goodN b) : RI (itl (joinN a b)) := by
  refine RI_itl fun x hx => ?_
  obtain ⟨j, _, rfl⟩ := List.mem_map.1 hx
  have h1 := side_rng ha (max a.length b.length - j)
  have h2 := side_rng hb (max a.length b.length - j)
  show max _ _ ≤ 4096
  omega
theorem Lst.nums {w : World} {p : Option Addr} {n c : Nat} {l : List Int} (h : Nums .i64 w (.slice p n c) l) {w' : World} (hB : Below w.heap.size w w') : Nums .i64 w' (.slice p n c) l := h.up hB
theorem run_max_nat {P : Program} {w : World} (ts : Array TypeId) (t : TypeId) (k k' : IntKind) (x y : Nat) : (Builtin.max_ ts t #[.int k (x : Int), .int k' (y : Int)]).run P w = .ok (.int k ((max x y : Nat) : Int)) w := by
  rw [run_max_int2]
  congr 2
  split <;> omega
end Go.Proofs.Ytknadgffflhlgaa.Wd
