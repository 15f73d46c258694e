/- The reference's numerals and texts. -/
import Derived.Test.YtokjokgmmkancaaDoorRefJ
import Derived.Test.YtokjokgmmkancaaDoorText
namespace Go.Proofs.YtokjokgmmkancaaDoor.Rf
open Go.RowKit Fx
set_option linter.unusedVariables false
set_option linter.unusedSimpArgs false
/-- One byte, as a string. -/
def b1 (c : Int) : ByteArray := ⟨#[UInt8.ofNat c.toNat]⟩
theorem conv1 (W : World) (b : Nat) (c : Int) (h0 : 0 ≤ c) (h1 : c < 256) (h : W.cell? ⟨b, 0, none⟩ = some (.int .u8 c)) :
    Sem.run Tryd.prog (convert 67 9 (.slice (some ⟨b, 0, none⟩) 1 1)) W = .ok (.string (b1 c)) W := by
  have hx : ((UInt8.ofNat c.toNat).toNat : Int) = c := by
    rw [UInt8.toNat_ofNat']
    omega
  exact run_convert_bytes_back (P := Tryd.prog) W 67 9 5 ⟨b, 0, none⟩ 1 [UInt8.ofNat c.toNat] Tryd.underlying67 Tryd.underlying5 Tryd.underlying9 (fun j hj => by
    have : j = 0 := by simpa using hj
    subst this
    show W.cell? ⟨b, 0, none⟩ = some (.int .u8 ((UInt8.ofNat c.toNat).toNat : Int))
    rw [hx]
    exact h)
set_option maxRecDepth 20000 in
set_option maxHeartbeats 1000000 in
theorem digits_one (n : Int) (u : Nat) (en : Hid (n = (u : Int))) (hn : 0 ≤ n ∧ n < 10) (w : World) :
    Calls Tryd.prog 48 #[.int .u64 n] w fun e w' => e = .returned (.string (b1 (48 + n))) ∧ Below w.heap.size w w' := by
  have hcv := fun W b => conv1 W b (48 + n) (by omega) (by omega)
  go_enter Tryd.func48, Tryd.ntmps48
  go_wp2
  go_ret
  exact ⟨rfl, by go_grown⟩
set_option maxRecDepth 20000 in
set_option maxHeartbeats 1000000 in
theorem digits_more (n : Int) (hn : 10 ≤ n ∧ n < 18446744073709551616) (s : ByteArray) (hs : s.size ≤ 20)
    (q c : Int) (r1 : IntKind.u64.wrap (n.tdiv 10) = q) (r2 : IntKind.u8.wrap (IntKind.u64.wrap (48 + n.tmod 10)) = c) (hc : 48 ≤ c ∧ c ≤ 57)
    (ih : Hid (∀ w, Calls Tryd.prog 48 #[.int .u64 q] w fun e w' => e = .returned (.string s) ∧ Below w.heap.size w w')) (w : World) :
    Calls Tryd.prog 48 #[.int .u64 n] w fun e w' => e = .returned (.string (s ++ b1 c)) ∧ Below w.heap.size w w' := by
  have hcv := fun W b => conv1 W b c (by omega) (by omega)
  have hsz : (b1 c).size ≤ 1 := Nat.le_refl _
  go_enter Tryd.func48, Tryd.ntmps48
  go_wp2_with fail
  go_region_with (go_at_call 48; refine (ih.out _).mono ?_; rintro e w1 ⟨rfl, hb⟩; obtain ⟨hcell, hfroz⟩ := bcell hb; simp only [World.size_alloc, World.size_drew] at hcell hfroz; have hB : Below w.heap.size w w1 := Below.trans (by go_grown) (hb.mono (by simp; try omega)); have hsz1 := hb.size; simp at hsz1)
  all_goals
    go_wp2
    go_ret
    exact ⟨rfl, by go_grown⟩
theorem b1_digit (k : Nat) (h : k < 10) : b1 (48 + (k : Int)) = ⟨#[UInt8.ofNat (48 + k)]⟩ := by
  unfold b1
  rw [show (48 + (k : Int)).toNat = 48 + k by omega]
/-- The reference's numeral of a number. -/
theorem digits_ref (u : Nat) : u < 18446744073709551616 → ∀ w : World,
    Calls Tryd.prog 48 #[.int .u64 (u : Int)] w fun e w' => e = .returned (.string ⟨(Lib.decDigits u).toArray⟩) ∧ Below w.heap.size w w' := by
  induction u using Nat.strongRecOn with
  | _ u ih =>
    intro hu w
    by_cases h : u < 10
    · have c := digits_one (u : Int) u rfl (by omega) w
      rw [b1_digit u h] at c
      rw [Lib.decDigits_one h]
      exact c
    · have hsz : (⟨(Lib.decDigits (u / 10)).toArray⟩ : ByteArray).size ≤ 20 := by
        show (Lib.decDigits (u / 10)).toArray.size ≤ 20
        rw [List.size_toArray, Lib.decDigits_length]
        exact nDigits_le 19 _ (by omega)
      have c := digits_more (u : Int) (by omega) ⟨(Lib.decDigits (u / 10)).toArray⟩ hsz ((u / 10 : Nat) : Int) (48 + ((u % 10 : Nat) : Int))
        (by rw [IntKind.wrap_u64, Int.tdiv_eq_ediv_of_nonneg (by omega)]; omega)
        (by rw [IntKind.wrap_u8, IntKind.wrap_u64, Int.tmod_eq_emod_of_nonneg (by omega)]; omega) (by omega)
        (fun w => ih (u / 10) (by omega) (by omega) w) w
      rw [b1_digit (u % 10) (by omega), show (⟨#[UInt8.ofNat (48 + u % 10)]⟩ : ByteArray) = ⟨([UInt8.ofNat (48 + u % 10)] : List UInt8).toArray⟩ from rfl, append_mk] at c
      rw [Lib.decDigits, dif_neg h]
      exact c
theorem digits_at (n : Int) (u : Nat) (s : ByteArray) (en : n = (u : Int)) (hu : u < 18446744073709551616) (es : s = ⟨(Lib.decDigits u).toArray⟩) (w : World) :
    Calls Tryd.prog 48 #[.int .u64 n] w fun e w' => e = .returned (.string s) ∧ Below w.heap.size w w' := by
  subst en es
  exact digits_ref u hu w
theorem of_ref (n y : Int) (hn : InR n) (ey : hold (n * 4294967296) = y) (w : World) :
    Calls Tryd.prog 24 #[.int .i64 n] w fun e w' => e = .returned (.int .i64 y) ∧ Below w.heap.size w w' := by
  have E : Hid (hold (n * 4294967296) = y) := ey
  clear ey
  have hsm : (n.natAbs : Int) * 4294967296 < 115792089237316195423570985008687907853269984665640564039457584007913129639936 := by unfold InR at hn; omega
  have HS : Hid ((n.natAbs : Int) * 4294967296 < 115792089237316195423570985008687907853269984665640564039457584007913129639936) := hsm
  clear hsm
  go_enter Tryd.func24, Tryd.ntmps24
  go_wp2_with fail
  refine (from_any n hn _).mono ?_
  rintro e w1 ⟨v, rfl, hv, hb1⟩
  go_wp2_with fail
  refine (shifted_any v _ _ hv HS.out _).mono ?_
  rintro e w2 ⟨u, rfl, hu, hb2⟩
  go_wp2_with fail
  refine (held_ref u _ _ hu _).mono ?_
  rintro e w3 ⟨rfl, hb3⟩
  go_wp2
  go_ret
  have c1 := hb1.trans (hb2.mono hb1.size)
  refine ⟨ret_int ?_, c1.trans (hb3.mono c1.size)⟩
  rw [← E.out]
  congr 1
  unfold sv
  by_cases h : n < 0
  · rw [if_pos (by simpa using h)]; omega
  · rw [if_neg (by simpa using h)]; omega
end Go.Proofs.YtokjokgmmkancaaDoor.Rf
