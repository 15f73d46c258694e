/- Windows, as lists of numbers: all that meet, one behind another, summed where they go. Nothing of the program is named here. -/
import Derived.Test.YtnicknnhboanoaaDoorCnM
namespace Go.Proofs.YtnicknnhboanoaaDoor.Wd
open Go.RowKit Fx
set_option linter.unusedVariables false
set_option linter.unusedSimpArgs false
/-- How many stops. -/
def stopsN (L wd st : Nat) : Nat := (L - wd) / st + 1
/-- A sum of sums of sums of sums, as one. -/
def flat4 (f : Nat → Nat → Nat → Nat → Int) (R S w q : Nat) : Int := sumI (fun t => f (t / w / S / R) (t / w / S % R) (t / w % S) (t % w)) q
theorem flat4_zero (f : Nat → Nat → Nat → Nat → Int) (R S w : Nat) : flat4 f R S w 0 = 0 := rfl
theorem flat4_step (f : Nat → Nat → Nat → Nat → Int) {R S w o c n y : Nat} (hc : c < R) (hn : n < S) (hy : y < w) : flat4 f R S w (((o * R + c) * S + n) * w + (y + 1)) = flat4 f R S w (((o * R + c) * S + n) * w + y) + f o c n y := by
  show sumI _ (((o * R + c) * S + n) * w + y + 1) = _
  rw [sumI, pair_div _ _ _ hy, pair_mod _ _ _ hy, pair_div _ _ _ hn, pair_mod _ _ _ hn, pair_div _ _ _ hc, pair_mod _ _ _ hc]
  rfl
theorem flat4_sum (f : Nat → Nat → Nat → Nat → Int) (O R S w : Nat) : flat4 f R S w (O * R * S * w) = sumI (fun o => sumI (fun c => sumI (fun n => sumI (fun y => f o c n y) w) S) R) O := by
  have h1 : flat4 f R S w (O * R * S * w) = flatS (fun a y => f (a / S / R) (a / S % R) (a % S) y) w (O * R * S * w) := rfl
  have h2 : sumI (fun a => sumI (fun y => f (a / S / R) (a / S % R) (a % S) y) w) (O * R * S) = flatS (fun b n => sumI (fun y => f (b / R) (b % R) n y) w) S (O * R * S) := rfl
  have h3 : sumI (fun b => sumI (fun n => sumI (fun y => f (b / R) (b % R) n y) w) S) (O * R) = flatS (fun o c => sumI (fun n => sumI (fun y => f o c n y) w) S) R (O * R) := rfl
  rw [h1, flat_sum, h2, flat_sum, h3, flat_sum]
theorem pair_eq {o S n i : Nat} (hn : n < S) (h : o * S + n = i) : o = i / S ∧ n = i % S := by
  subst h
  exact ⟨(pair_div _ _ _ hn).symm, (pair_mod _ _ _ hn).symm⟩
theorem pair_back (i S : Nat) : i / S * S + i % S = i := by rw [Nat.mul_comm]; exact Nat.div_add_mod i S
/-- What meets at a number of Row. -/
def rowT (L R S w st : Nat) (a k : List Int) (i o c n y : Nat) : Int := if o * S + n = i then a.getD (c * L + n * st + y) 0 * k.getD ((o * R + c) * w + y) 0 else 0
theorem row_total {L O R S w st i : Nat} (a k : List Int) (hi : i < O * S) : rnd (flat4 (rowT L R S w st a k i) R S w (O * R * S * w)) = convN R L w S st a k i := by
  have hi' : i < S * O := by rw [Nat.mul_comm]; exact hi
  have hS := side_pos hi'
  rw [flat4_sum, sumI_one _ (i / S) O fun o ho hne => ?_, if_pos (div_side hi')]
  · unfold convN
    congr 1
    rw [flat_sum]
    refine sumI_congr R fun c hc => ?_
    rw [sumI_one _ (i % S) S fun n hn hne => ?_, if_pos (Nat.mod_lt _ hS)]
    · refine sumI_congr w fun y hy => ?_
      unfold rowT
      rw [if_pos (pair_back i S)]
    · refine sumI_none w fun y hy => ?_
      unfold rowT
      rw [if_neg fun h => hne (pair_eq hn h).2]
  · refine sumI_none R fun c hc => sumI_none S fun n hn => sumI_none w fun y hy => ?_
    unfold rowT
    rw [if_neg fun h => hne (pair_eq hn h).1]
/-- What meets at a number of BackIn. -/
def inT (L R S w st : Nat) (g k : List Int) (i o c n y : Nat) : Int := if c * L + n * st + y = i then g.getD (o * S + n) 0 * k.getD ((o * R + c) * w + y) 0 else 0
theorem in_total {L O R S w st i : Nat} (g k : List Int) (hi : i < R * L) (hL : ∀ n, n < S → n * st + w ≤ L) : rnd (flat4 (inT L R S w st g k i) R S w (O * R * S * w)) = gradN O R S w st L g k i := by
  have hi' : i < L * R := by rw [Nat.mul_comm]; exact hi
  have hL0 := side_pos hi'
  rw [flat4_sum, back_swap]
  congr 1
  refine sumI_congr O fun o ho => ?_
  rw [sumI_one _ (i / L) R fun c hc hne => ?_, if_pos (div_side hi')]
  · refine sumI_congr S fun n hn => ?_
    rw [bk_window]
    refine sumI_congr w fun y hy => ?_
    unfold inT
    have hb := pair_back i L
    have h1 := hL n hn
    by_cases h : n * st + y = i % L
    · rw [if_pos (by omega), if_pos h]
    · rw [if_neg (by omega), if_neg h]
  · refine sumI_none S fun n hn => sumI_none w fun y hy => ?_
    unfold inT
    have h1 := hL n hn
    rw [if_neg fun h => hne (pair_eq (n := n * st + y) (by omega) (by rw [← Nat.add_assoc]; exact h)).1]
/-- What meets at a number of BackKernel. -/
def kerT (L R S w st : Nat) (g a : List Int) (i o c n y : Nat) : Int := if (o * R + c) * w + y = i then g.getD (o * S + n) 0 * a.getD (c * L + n * st + y) 0 else 0
theorem ker_total {L O R S w st i : Nat} (g a : List Int) (hi : i < O * R * w) : rnd (flat4 (kerT L R S w st g a i) R S w (O * R * S * w)) = kerN R S L w st g a i := by
  have hi' : i < w * (O * R) := by rw [Nat.mul_comm]; exact hi
  have hw := side_pos hi'
  have hq : i / w < R * O := by rw [Nat.mul_comm R O]; exact div_side hi'
  have hR := side_pos hq
  have key : ∀ o c y, c < R → y < w → (o * R + c) * w + y = i → o = i / w / R ∧ c = i / w % R ∧ y = i % w := by
    intro o c y hc hy h
    have h1 := pair_eq hy h
    have h2 := pair_eq hc h1.1
    exact ⟨h2.1, h2.2, h1.2⟩
  rw [flat4_sum, sumI_one _ (i / w / R) O fun o ho hne => ?_, if_pos (div_side hq)]
  · rw [sumI_one _ (i / w % R) R fun c hc hne => ?_, if_pos (Nat.mod_lt _ hR)]
    · unfold kerN
      congr 1
      refine sumI_congr S fun n hn => ?_
      rw [sumI_one _ (i % w) w fun y hy hne => ?_, if_pos (Nat.mod_lt _ hw)]
      · unfold kerT
        rw [if_pos (by rw [pair_back, pair_back])]
      · unfold kerT
        rw [if_neg fun h => hne (key _ _ _ (Nat.mod_lt _ hR) hy h).2.2]
    · refine sumI_none S fun n hn => sumI_none w fun y hy => ?_
      unfold kerT
      rw [if_neg fun h => hne (key _ _ _ hc hy h).2.1]
  · refine sumI_none R fun c hc => sumI_none S fun n hn => sumI_none w fun y hy => ?_
    unfold kerT
    rw [if_neg fun h => hne (key _ _ _ hc hy h).1]
end Go.Proofs.YtnicknnhboanoaaDoor.Wd
