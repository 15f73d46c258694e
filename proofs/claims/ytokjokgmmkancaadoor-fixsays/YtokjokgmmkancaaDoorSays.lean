/- The law FixSays: a whole number's Fix, and any Fix' text, are the reference's: for all numbers. -/
import Derived.Test.YtokjokgmmkancaaDoorRefL
namespace Go.Proofs.YtokjokgmmkancaaDoor.Fx
open Go.RowKit Rf
set_option linter.unusedVariables false
theorem says_any (n a : Int) (hn : InR n) (ha : InR a) (w : World) (htab : Hid (Tab w)) :
    Calls Tryd.prog 5 #[.int .i64 n, .int .i64 a] w fun e w' => e = .returned (.bool true) ∧ Below w.heap.size w w' := by
  obtain ⟨y, ey⟩ : ∃ y, hold (n * 4294967296) = y := ⟨_, rfl⟩
  obtain ⟨t, et⟩ : ∃ t : ByteArray, t = ⟨(textI a).toArray⟩ := ⟨_, rfl⟩
  have E : Hid (hold (n * 4294967296) = y ∧ t = ⟨(textI a).toArray⟩) := ⟨ey, et⟩
  clear ey et
  go_enter Tryd.func5, Tryd.ntmps5
  go_wp2_with fail
  refine (awake_any _).mono ?_
  rintro e w1 ⟨rfl, hb1⟩
  go_wp2_with fail
  refine (of_at n y hn E.out.1 _).mono ?_
  rintro e w2 ⟨rfl, rfl⟩
  go_wp2_with fail
  refine (of_ref n y hn E.out.1 _).mono ?_
  rintro e w3 ⟨rfl, hb2⟩
  have c1 := hb1.trans (hb2.mono hb1.size)
  go_wp2_with fail
  refine (text_at a t E.out.2 ha _ (tab_below htab c1)).mono ?_
  rintro e w4 ⟨rfl, hb3⟩
  have c2 := c1.trans (hb3.mono c1.size)
  go_wp2_with fail
  refine (text_ref a t E.out.2 ha _).mono ?_
  rintro e w5 ⟨rfl, hb4⟩
  go_wp2
  go_ret
  exact ⟨rfl, c2.trans (hb4.mono c2.size)⟩
end Go.Proofs.YtokjokgmmkancaaDoor.Fx
