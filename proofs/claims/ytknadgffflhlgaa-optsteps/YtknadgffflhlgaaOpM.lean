/- A step of one trainer, number by number: the mean, held; what is kept; the parameter. -/
import Derived.Test.YtknadgffflhlgaaWideE
namespace Go.Proofs.Ytknadgffflhlgaa.Wd
open Go.RowKit Fx
set_option linter.unusedVariables false
set_option linter.unusedSimpArgs false
/-- Held within a bound; a bound of nought holds nothing. -/
def bnd (b d : Int) : Int := if 0 < b ∧ b < d then b else if 0 < b ∧ d < -b then -b else d
/-- What is kept behind the step; the parameter behind it. -/
def mS (k m d : Int) : Int := hold (mulI k m + d)
def pS (s p m : Int) : Int := hold (p - mulI s m)
def opD (g : List Int) (many b : Int) (i : Nat) : Int := bnd b (ovI (g.getD i 0) many)
def opM (m g : List Int) (many b k : Int) : List Int := (List.range g.length).map fun i => mS k (m.getD i 0) (opD g many b i)
def opP (p m g : List Int) (many s b k : Int) : List Int := (List.range g.length).map fun i => pS s (p.getD i 0) (mS k (m.getD i 0) (opD g many b i))
def opE (np nm ng : Nat) (many b : Int) : Int := if np = nm ∧ np = ng then (if many < 1 ∨ b < 0 then 1 else 0) else 4
theorem opM_len (m g : List Int) (many b k : Int) : (opM m g many b k).length = g.length := by simp [opM]
theorem opP_len (p m g : List Int) (many s b k : Int) : (opP p m g many s b k).length = g.length := by simp [opP]
theorem opM_at (m g : List Int) (many b k : Int) (i : Nat) (h : i < g.length) : (opM m g many b k).getD i 0 = mS k (m.getD i 0) (opD g many b i) := by
  unfold opM
  rw [List.getD_eq_getElem?_getD, List.getElem?_map, List.getElem?_range h]
  rfl
theorem opP_at (p m g : List Int) (many s b k : Int) (i : Nat) (h : i < g.length) : (opP p m g many s b k).getD i 0 = pS s (p.getD i 0) (mS k (m.getD i 0) (opD g many b i)) := by
  unfold opP
  rw [List.getD_eq_getElem?_getD, List.getElem?_map, List.getElem?_range h]
  rfl
theorem mS_R (k m d : Int) : InR (mS k m d) := hold_rng _
theorem pS_R (s p m : Int) : InR (pS s p m) := hold_rng _
theorem ovI_R (a n : Int) : InR (ovI a n) := by
  unfold ovI
  split
  · unfold overI InR
    split <;> (try split) <;> omega
  · exact hold_rng _
theorem bnd_R {b d : Int} (hb : InR b) (hd : InR d) : InR (bnd b d) := by
  unfold bnd InR at *
  split <;> (try split) <;> omega
theorem bnd_zero (d : Int) : bnd 0 d = d := by
  unfold bnd
  rw [if_neg (by omega), if_neg (by omega)]
theorem bnd_in {b d : Int} (hb : 1 ≤ b) : -b ≤ bnd b d ∧ bnd b d ≤ b := by
  unfold bnd
  split <;> (try split) <;> omega
theorem mul_nought (x : Int) : mulI 0 x = 0 := by
  unfold mulI
  have : rq ((0 : Int).natAbs * x.natAbs) 4294967296 = 0 := by simp [rq]
  rw [this]
  unfold sg
  split <;> rfl
theorem mul_by_nought (x : Int) : mulI x 0 = 0 := by
  unfold mulI
  have : rq (x.natAbs * (0 : Int).natAbs) 4294967296 = 0 := by simp [rq]
  rw [this]
  unfold sg
  split <;> rfl
theorem mul_by_one {x : Int} (h : InR x) : mulI 4294967296 x = x := by
  unfold mulI InR at *
  have e : rq ((4294967296 : Int).natAbs * x.natAbs) 4294967296 = x.natAbs := by
    unfold rq
    have h1 : (4294967296 : Int).natAbs * x.natAbs % 4294967296 = 0 := Nat.mul_mod_right _ _
    have h2 : (4294967296 : Int).natAbs * x.natAbs / 4294967296 = x.natAbs := Nat.mul_div_cancel_left _ (by decide)
    rw [h1, h2, if_neg (by omega)]
  rw [e]
  unfold sg Fx.differ
  by_cases hx : x < 0
  · simp [hx]
    exact (congrArg hold (show -((x.natAbs : Nat) : Int) = x by omega)).trans (hold_in h.1 h.2)
  · simp [hx]
    exact (congrArg hold (show ((x.natAbs : Nat) : Int) = x by omega)).trans (hold_in h.1 h.2)
/-- Nothing kept: what moves is the mean alone. -/
theorem mS_nought {m d : Int} (h : InR d) : mS 0 m d = d := by
  unfold mS
  rw [mul_nought, Int.zero_add]
  exact hold_in h.1 h.2
/-- A step of nought moves nothing. -/
theorem pS_nought {p : Int} (m : Int) (h : InR p) : pS 0 p m = p := by
  unfold pS
  rw [mul_nought, Int.sub_zero]
  exact hold_in h.1 h.2
theorem pS_still {p : Int} (s : Int) (h : InR p) : pS s p 0 = p := by
  unfold pS
  rw [mul_by_nought, Int.sub_zero]
  exact hold_in h.1 h.2
theorem pS_one (p : Int) {m : Int} (h : InR m) : pS 4294967296 p m = hold (p - m) := by
  unfold pS
  rw [mul_by_one h]
theorem ovI_nought {n : Int} (h : n ≠ 0) : ovI 0 n = 0 := by
  unfold ovI
  rw [if_neg h]
  have : rq (0 : Int).natAbs n.natAbs = 0 := by
    unfold rq
    have : 0 < n.natAbs := by omega
    simp
  rw [this]
  unfold sg
  split <;> rfl
/-- Twice as much by twice as many. -/
theorem rq_twice (x d : Nat) (h : 0 < d) : rq (2 * x) (2 * d) = rq x d := by
  unfold rq
  rw [Nat.mul_mod_mul_left, Nat.mul_div_mul_left _ _ (by omega)]
  by_cases c : d < 2 * (x % d) ∨ (2 * (x % d) = d ∧ x / d % 2 = 1)
  · rw [if_pos c, if_pos (by omega)]
  · rw [if_neg c, if_neg (by omega)]
theorem ovI_twice {a n : Int} (h : 0 < n) : ovI (a + a) (2 * n) = ovI a n := by
  unfold ovI
  rw [if_neg (by omega), if_neg (by omega), show (a + a).natAbs = 2 * a.natAbs by omega, show (2 * n).natAbs = 2 * n.natAbs by omega, rq_twice _ _ (by omega)]
  have : Fx.differ (a + a) (2 * n) = Fx.differ a n := by
    unfold Fx.differ
    congr 1
    · exact decide_eq_decide.2 (by omega)
    · exact decide_eq_decide.2 (by omega)
  rw [this]
end Go.Proofs.Ytknadgffflhlgaa.Wd
