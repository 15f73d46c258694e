/- What the functions of package wide hand back: the order. -/
import Derived.Test.YtknadgffflhlgaaWideE
import Derived.Deep.RegionHeld3
namespace Go.Proofs.Ytknadgffflhlgaa.Wd
open Go.RowKit Fx
set_option linter.unusedVariables false
set_option linter.unusedSimpArgs false
attribute [local go_sem] fld_hi fld_lo
def cmpI (a b : Int) : Int := if a < b then -1 else if b < a then 1 else 0
theorem cmp_words (ah al bh bl : Int) (a3 : 0 ≤ al) (a4 : al ≤ 18446744073709551615) (b3 : 0 ≤ bl) (b4 : bl ≤ 18446744073709551615) :
    (if cmpI ah bh = 0 then cmpI al bl else cmpI ah bh) = cmpI (ah * 18446744073709551616 + al) (bh * 18446744073709551616 + bl) := by
  unfold cmpI
  by_cases c1 : ah < bh
  · simp [c1]; omega
  · by_cases c2 : bh < ah
    · simp [c1, c2]; omega
    · have : ah = bh := by omega
      subst this
      simp
end Go.Proofs.Ytknadgffflhlgaa.Wd
