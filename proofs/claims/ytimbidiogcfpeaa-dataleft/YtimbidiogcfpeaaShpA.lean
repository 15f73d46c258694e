/- What package shape's Size, Good, Same and the reference's hand back. What package shape's Strides, Place, At and the reference's hand back. What package shape's fromLast, joined and Join hand back. What package shape's Join hands back. -/
import Derived.Test.YtimbidiogcfpeaaProg
import Derived.WalkKit
import Derived.ProofKit
import Derived.WalkSpells
import Derived.Handy
import Derived.Deep.LoopGhost
import Derived.Deep.Draws
import Derived.BigQuiet
import Derived.Deep.QuietTactic
import Derived.WalkSmall
import Derived.Test.YtimbidiogcfpeaaRow
import Derived.Test.YtimbidiogcfpeaaShpM
namespace Go.Proofs.Ytimbidiogcfpeaa.Wd
open Go.RowKit
set_option linter.unusedVariables false
set_option linter.unusedSimpArgs false
/-- Go's ints. -/
def RI (l : List Int) : Prop := ∀ y, y ∈ l → -9223372036854775808 ≤ y ∧ y ≤ 9223372036854775807
theorem RI.at {l : List Int} (h : RI l) (k : Nat) (hk : k < l.length) : -9223372036854775808 ≤ l.getD k 0 ∧ l.getD k 0 ≤ 9223372036854775807 := by
  rw [getD_lt l k 0 hk]
  exact h _ (List.getElem_mem hk)
/-- A slice's cells, as a walk reads them. -/
def Lst (w : World) (p : Option Addr) (n : Nat) (l : List Int) : Prop := l.length = n ∧ ∀ j, j < n → ∃ q o, p = some ⟨q, o, none⟩ ∧ w.cell? ⟨q, o + j, none⟩ = some (.int .i64 (l.getD j 0))
theorem Nums.lst {w : World} {v : Value} {l : List Int} (h : Nums .i64 w v l) : ∃ p n c, v = .slice p n c ∧ Hid (Lst w p n l) := by
  obtain ⟨p, c, rfl, hc⟩ := h.view
  exact ⟨p, _, c, rfl, rfl, hc⟩
theorem ne_at {a b : List Int} {n k : Nat} (ha : a.length = n) (hb : b.length = n) (hk : k < n) (h : a.getD k 0 ≠ b.getD k 0) : ¬ a = b := fun e => h (by rw [e])
theorem eq_all {a b : List Int} {n : Nat} (ha : a.length = n) (hb : b.length = n) (h : ∀ i, i < n → a.getD i 0 = b.getD i 0) : a = b :=
  List.ext_getElem (by omega) fun i h1 h2 => by
    have := h i (by omega)
    rw [getD_lt a i 0 h1, getD_lt b i 0 h2] at this
    exact this
set_option maxHeartbeats 2000000 in
theorem rsame_any (u v : Value) (a b : List Int) (hm : a.length ≤ 9223372036854775807) (w : World) (hu : Nums .i64 w u a) (hv : Nums .i64 w v b) :
    Calls Try.prog 15 #[u, v] w fun e w' => e = .returned (.bool (decide (a = b))) ∧ ∃ n, w' = w.drewN n := by
  obtain ⟨p, n, c, rfl, HA⟩ := hu.lst
  obtain ⟨p2, n2, c2, rfl, HB⟩ := hv.lst
  obtain ⟨r, er⟩ : ∃ r : Bool, decide (a = b) = r := ⟨_, rfl⟩
  have HR : Hid (decide (a = b) = r) := er
  rw [er]
  rw [HA.out.1] at hm
  have hm' : (n : Int) ≤ 9223372036854775807 := by omega
  clear er hv hu
  go_enter Try.func15, Try.ntmps15
  by_cases hn : n = n2
  · subst hn
    go_wp2_with fail
    go_loopg [5] n (fun gg v wr => ∃ (k d : Nat), k ≤ n ∧ gg = n - k ∧ v = .int .i64 (k : Int) ∧ Hid (∀ i, i < k → a.getD i 0 = b.getD i 0) ∧ wr = w.drewN d)
    case atStart => exact ⟨0, 0, by omega, by omega, rfl, fun i hi => by omega, rfl⟩
    case round =>
      obtain ⟨k, d, hk, hg, rfl, Hx, rfl⟩ := hrel
      by_cases hkn : k < n
      · have hk' : (k : Int) < (n : Int) := by omega
        obtain ⟨q, o, rfl, ca⟩ := HA.out.2 k hkn
        obtain ⟨q2, o2, rfl, cb⟩ := HB.out.2 k hkn
        obtain ⟨x, ex⟩ : ∃ x, a.getD k 0 = x := ⟨_, rfl⟩
        obtain ⟨y, ey⟩ : ∃ y, b.getD k 0 = y := ⟨_, rfl⟩
        have HE : Hid (a.getD k 0 = x ∧ b.getD k 0 = y) := ⟨ex, ey⟩
        rw [ex] at ca
        rw [ey] at cb
        clear ex ey
        by_cases hxy : x = y
        · subst hxy
          have Hn : Hid (∀ i, i < k + 1 → a.getD i 0 = b.getD i 0) := fun i hi => by
            rcases Nat.lt_succ_iff_lt_or_eq.1 hi with h | rfl
            · exact Hx.out i h
            · rw [HE.out.1, HE.out.2]
          clear Hx
          go_wp2
          go_region
          all_goals
            go_wp2
            go_roundg (n - (k + 1))
          case measure => omega
          case rel => exact ⟨k + 1, d + 1, by omega, rfl, by first | rfl | simp, Hn, rfl⟩
        · have hxy' : (x != y) = true := by simp [hxy]
          go_wp2
          go_region
          all_goals go_wp2
          go_ret
          rw [← HR.out, decide_eq_false (ne_at HA.out.1 HB.out.1 hkn (by rw [HE.out.1, HE.out.2]; exact hxy))]
          exact ⟨rfl, d + 1, rfl⟩
      · obtain rfl : k = n := by omega
        go_wp2
        go_ret
        rw [← HR.out, decide_eq_true (eq_all HA.out.1 HB.out.1 Hx.out)]
        exact ⟨rfl, d, rfl⟩
  · have hne : ((n : Int) != (n2 : Int)) = true := by simp; omega
    have hne' : ¬ ((n : Int) = (n2 : Int)) := by omega
    go_wp2
    go_ret
    rw [← HR.out, decide_eq_false (fun e => hn (by rw [← HA.out.1, ← HB.out.1, e]))]
    exact ⟨rfl, 0, rfl⟩
end Go.Proofs.Ytimbidiogcfpeaa.Wd
namespace Go.Proofs.Ytimbidiogcfpeaa.Wd
open Go.RowKit
set_option linter.unusedVariables false
set_option linter.unusedSimpArgs false
theorem numT : NumT Try.prog 23 3 .i64 8 := ⟨Try.underlying23, by kernel_rfl⟩
theorem drewN_add (w : World) (a b : Nat) : (w.drewN a).drewN b = w.drewN (a + b) := by unfold World.drewN; simp [Nat.add_assoc]
theorem Lst.up {w w' : World} {p : Option Addr} {n : Nat} {l : List Int} (h : Lst w p n l) (hB : Below w.heap.size w w') : Lst w' p n l :=
  ⟨h.1, fun j hj => by
    obtain ⟨q, o, e, hc⟩ := h.2 j hj
    exact ⟨q, o, e, still_cell hB hc⟩⟩
theorem Lst.block {w : World} {q o n : Nat} {l : List Int} (h : Lst w (some ⟨q, o, none⟩) n l) (hn : 0 < n) : q < w.heap.size := by
  obtain ⟨q', o', e, hc⟩ := h.2 0 hn
  cases e
  exact cell_block hc
theorem good_itl {l : List Int} (h : goodN (ntl l)) : ∃ d, goodN d ∧ l = itl d := ⟨ntl l, h, (itl_ntl h.2.1).symm⟩
end Go.Proofs.Ytimbidiogcfpeaa.Wd
namespace Go.Proofs.Ytimbidiogcfpeaa.Wd
open Go.RowKit
set_option linter.unusedVariables false
set_option linter.unusedSimpArgs false
end Go.Proofs.Ytimbidiogcfpeaa.Wd
namespace Go.Proofs.Ytimbidiogcfpeaa.Wd
open Go.RowKit
set_option linter.unusedVariables false
set_option linter.unusedSimpArgs false
theorem RI_itl {d : List Nat} (h : ∀ x, x ∈ d → x ≤ 4096) : RI (itl d) := by
  intro y hy
  obtain ⟨x, hx, rfl⟩ := List.mem_map.1 hy
  have := h x hx
  omega
theorem RI_join {a b : List Nat} (ha : goodN a) (hb : goodN b) : RI (itl (joinN a b)) := by
  refine RI_itl fun x hx => ?_
  obtain ⟨j, _, rfl⟩ := List.mem_map.1 hx
  have h1 := side_rng ha (max a.length b.length - j)
  have h2 := side_rng hb (max a.length b.length - j)
  show max _ _ ≤ 4096
  omega
theorem Lst.nums {w : World} {p : Option Addr} {n c : Nat} {l : List Int} (h : Nums .i64 w (.slice p n c) l) {w' : World} (hB : Below w.heap.size w w') : Nums .i64 w' (.slice p n c) l := h.up hB
theorem run_max_nat {P : Program} {w : World} (ts : Array TypeId) (t : TypeId) (k k' : IntKind) (x y : Nat) : (Builtin.max_ ts t #[.int k (x : Int), .int k' (y : Int)]).run P w = .ok (.int k ((max x y : Nat) : Int)) w := by
  rw [run_max_int2]
  congr 2
  split <;> omega
end Go.Proofs.Ytimbidiogcfpeaa.Wd
