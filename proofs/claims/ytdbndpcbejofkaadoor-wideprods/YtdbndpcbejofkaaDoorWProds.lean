/- The law WideProds: products, and whole numbers' own words. -/
import Derived.Test.YtdbndpcbejofkaaDoorWRefA
import Derived.Test.YtdbndpcbejofkaaDoorWAwake
namespace Go.Proofs.YtdbndpcbejofkaaDoor.Wd
open Go.RowKit Fx Rf
set_option linter.unusedVariables false
set_option linter.unusedSimpArgs false
theorem below_up {w W W1 : World} (h : Below w.heap.size w W) (hb : Below W.heap.size W W1) : Below w.heap.size w W1 := h.trans (hb.mono h.size)
set_option maxHeartbeats 2000000 in
set_option maxRecDepth 20000 in
theorem prods_any (a b : Int) (ha : InR a) (hb : InR b) (w : World) (hT : Hid (Tz w)) :
    Calls Tryd.prog 5 #[.int .i64 a, .int .i64 b] w fun e w' => e = .returned (.bool true) ∧ Below w.heap.size w w' := by
  have hw : InW (a * b) := by
    have h1 := prod_size a b ha hb
    have h2 := prod_sign a b
    rw [h2]; unfold InW sg; split <;> omega
  obtain ⟨ph, pl, ep, p1, p2, p3, p4, Hp⟩ := words hw
  obtain ⟨nh, nl, en, n1, n2, n3, n4, Hn⟩ := words (InR.w ha)
  have s0 : ∀ W : World, Below w.heap.size w W → Calls Tryd.prog 9 #[] W fun e w' => e = .returned (.bool true) ∧ Below W.heap.size W w' := fun W h => awake_any W (hT.out.up h)
  have s1 : ∀ W : World, Calls Tryd.prog 27 #[.int .i64 a, .int .i64 b] W fun e w' => e = .returned (.agg #[.int .i64 ph, .int .u64 pl]) ∧ Below W.heap.size W w' := by
    intro W
    have := prod_any a b ha hb W
    rw [ep] at this
    exact this
  have s2 : ∀ W : World, Calls Tryd.prog 28 #[.int .i64 a, .int .i64 b] W fun e w' => e = .returned (.agg #[.int .i64 ph, .int .u64 pl]) ∧ Below W.heap.size W w' := by
    intro W
    have := prod_ref a b ha hb W
    rw [ep] at this
    exact this
  have s3 : ∀ W : World, Calls Tryd.prog 14 #[.int .i64 a] W fun e w' => e = .returned (.agg #[.int .i64 nh, .int .u64 nl]) ∧ Below W.heap.size W w' := by
    intro W
    have := of_any a ha W
    rw [en] at this
    exact this
  have s5 : ∀ (v : Value), IsN v (decide (a < 0)) (a.natAbs : Int) → ∀ W : World, Calls Tryd.prog 29 #[v] W fun e w' => e = .returned (.agg #[.int .i64 nh, .int .u64 nl]) ∧ Below W.heap.size W w' := by
    intro v hv W
    have := wide_ref v _ _ hv W
    rw [sv_from, wr_in (InR.w ha), en] at this
    exact this
  have s6 : ∀ W : World, Calls Tryd.prog 27 #[.int .i64 a, .int .i64 1] W fun e w' => e = .returned (.agg #[.int .i64 nh, .int .u64 nl]) ∧ Below W.heap.size W w' := by
    intro W
    have := prod_any a 1 ha (by unfold InR; omega) W
    rw [Int.mul_one, en] at this
    exact this
  have s7 : ∀ W : World, Calls Tryd.prog 27 #[.int .i64 b, .int .i64 a] W fun e w' => e = .returned (.agg #[.int .i64 ph, .int .u64 pl]) ∧ Below W.heap.size W w' := by
    intro W
    have := prod_any b a hb ha W
    rw [Int.mul_comm b a, ep] at this
    exact this
  have s4 := from_any a ha
  clear ep en Hp Hn hw hT
  unfold InR at ha hb
  go_enter Tryd.func5, Tryd.ntmps5
  go_wp2_with fail
  refine (s0 _ (by go_grown)).mono ?_
  rintro e' w1 ⟨rfl, hb1⟩
  have B1 : Below w.heap.size w w1 := hb1
  go_wp2_with fail
  refine (s1 _).mono ?_
  rintro e' w2 ⟨rfl, hb2⟩
  have B2 := below_up B1 hb2
  clear hb2
  go_wp2_with fail
  refine (s2 _).mono ?_
  rintro e' w3 ⟨rfl, hb3⟩
  have B3 := below_up B2 hb3
  clear hb3
  go_wp2_with fail
  refine (s3 _).mono ?_
  rintro e' w4 ⟨rfl, hb4⟩
  have B4 := below_up B3 hb4
  clear hb4
  go_wp2_with fail
  refine (s4 _).mono ?_
  rintro e' w5 ⟨v, rfl, hv, hb5⟩
  have B5 := below_up B4 hb5
  clear hb5
  go_wp2_with fail
  refine (s5 v hv _).mono ?_
  rintro e' w6 ⟨rfl, hb6⟩
  have B6 := below_up B5 hb6
  clear hb6
  go_wp2_with fail
  refine (s6 _).mono ?_
  rintro e' w7 ⟨rfl, hb7⟩
  have B7 := below_up B6 hb7
  clear hb7
  go_wp2_with fail
  refine (s3 _).mono ?_
  rintro e' w8 ⟨rfl, hb8⟩
  have B8 := below_up B7 hb8
  clear hb8
  go_wp2_with fail
  refine (s1 _).mono ?_
  rintro e' w9 ⟨rfl, hb9⟩
  have B9 := below_up B8 hb9
  clear hb9
  go_wp2_with fail
  refine (s7 _).mono ?_
  rintro e' w10 ⟨rfl, hb10⟩
  have B10 := below_up B9 hb10
  clear hb10
  go_wp2
  go_ret
  exact ⟨rfl, B10⟩
end Go.Proofs.YtdbndpcbejofkaaDoor.Wd
