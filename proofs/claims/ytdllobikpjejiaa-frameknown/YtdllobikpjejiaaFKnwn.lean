/- FrameKnown: what the chapter says of bounds. -/
import Derived.Test.YtdllobikpjejiaaFrW
import Derived.Test.YtdllobikpjejiaaRow
namespace Go.Proofs.Ytdllobikpjejiaa.Wd
open Go.RowKit
set_option linter.unusedVariables false
set_option linter.unusedSimpArgs false
set_option maxRecDepth 8000
set_option maxHeartbeats 8000000
theorem byteT : NumT Try.prog 24 5 .u8 1 := ⟨Try.underlying24, by kernel_rfl⟩
theorem by8_zero (n : Nat) : By8 (List.replicate n 0) := fun y h => by
  rw [(List.mem_replicate.1 h).2]
  omega
theorem zero_none : ¬ decP (List.replicate 19 0) := fun h => by
  have := (decP_good h).1.1.1
  exact absurd this (by decide)
theorem fknwn_walk (w : World) : Calls Try.prog 3 #[] w fun e w' => e = .returned (.bool true) ∧ Below w.heap.size w w' := by
  obtain ⟨Z1, eZ1⟩ : ∃ l, List.replicate 19 (0 : Int) = l := ⟨_, rfl⟩
  obtain ⟨Z2, eZ2⟩ : ∃ l, List.replicate 16384 (0 : Int) = l := ⟨_, rfl⟩
  have HZ : Hid ((By8 Z1 ∧ Z1.length = 19 ∧ ¬ decP Z1) ∧ By8 Z2 ∧ Z2.length = 16384 ∧ encF 1 0 0 0 0 Z2 = encL 1 0 0 0 0 Z2 ∧ (∀ b, encF 21 0 0 0 0 b = []) ∧ ∀ b, encF 1 16 0 0 0 b = []) := by
    refine ⟨?_, by rw [← eZ2]; exact by8_zero _, by rw [← eZ2]; exact List.length_replicate .., if_pos ⟨by decide, by decide, by decide, by rw [← eZ2, List.length_replicate]; exact Nat.le_refl _⟩, fun b => if_neg fun h => by have := h.1; omega, fun b => if_neg fun h => by have := h.2.1; omega⟩
    rw [← eZ1]
    exact ⟨by8_zero 19, List.length_replicate .., zero_none⟩
  go_enter Try.func3, Try.ntmps3
  go_wp2_with fail
  refine (awake18_any w).mono ?_
  rintro e w1 ⟨rfl, hB⟩
  have HB1 : Hid (Below w.heap.size w w1) := hB
  clear hB
  go_wp2_with fail
  refine (pfdec_any none 0 0 [] By8.nil rfl (by omega) (Nat.le_refl _) w1 (bytes_nil _)).mono ?_
  rintro e w2 ⟨v2, rfl, ho, hB⟩
  obtain ⟨pa, na, ca, rfl⟩ := own8_sl ho
  rw [if_neg not_dec_nil]
  have HB2 : Hid (Below w.heap.size w w2) := bstep HB1.out hB
  unfold FrD FrV
  clear hB ho HB1
  obtain ⟨U2, hU2⟩ : ∃ U, w2.alloc (.cells #[.int .i64 (dN [] (uK [])), .int .i64 (dN [] (uF [])), .int .i64 (dN [] (uT [])), .int .u32 (dN [] (uV [])), .int .u32 (dN [] (uS [])), .slice pa na ca] 26) = U := ⟨_, rfl⟩
  have HU2 : Hid (Below w.heap.size w U2) := by rw [← hU2]; exact bstep HB2.out (up_alloc _ _)
  clear HB2
  go_wp2_with (at_make; refine wpList_makeK byteT (by decide) _ rfl (.const (.int .i64 19)) (.const (.int .i64 19)) rfl .i64 .i64 19 19 19 rfl rfl rfl rfl (by omega) w.heap.size w (Below.size HU2.out) HU2.out ?_; intro w3 HO B0 B1; have HB3 := hid2 B1 B1; clear B0 B1)
  rw [eZ1] at HO
  have H3 : Hid (Own8 w3 U2.heap.size (.slice (some ⟨U2.heap.size, 0, none⟩) 19 19) Z1) := by
    show Own8 _ _ _ _
    unfold Own8
    rw [HZ.out.1.2.1]
    have := HO.out
    unfold OwnK at this
    rw [HZ.out.1.2.1] at this
    exact this
  refine (pfdec_any (some ⟨U2.heap.size, 0, none⟩) 19 19 Z1 HZ.out.1.1 HZ.out.1.2.1 (by omega) (Nat.le_refl _) w3 (Own8.bytes H3.out)).mono ?_
  rintro e w4 ⟨v4, rfl, ho, hB⟩
  obtain ⟨pb, nb, cb, rfl⟩ := own8_sl ho
  rw [if_neg HZ.out.1.2.2]
  have HB4 : Hid (Below w.heap.size w w4) := bstep HB3.out.1 hB
  unfold FrD FrV
  clear hB ho H3 HO HB3 HU2 hU2 eZ1
  go_wp2_with fail
  generalize hU4 : World.alloc w4 _ = U4
  have HU4 : Hid (Below w.heap.size w U4) := by rw [← hU4]; exact bstep HB4.out (up_alloc _ _)
  clear hU4 HB4
  refine (pfenc_any 21 0 0 0 0 none 0 0 [] (by omega) (by omega) By8.nil U4 (bytes_nil _) rfl).mono ?_
  rintro e w5 ⟨v5, rfl, ho, hB⟩
  rw [HZ.out.2.2.2.2.1] at ho
  obtain ⟨pc, cc, rfl, _⟩ := own8_form ho
  have HB5 : Hid (Below w.heap.size w w5) := bstep HU4.out hB
  clear hB ho HU4
  go_wp2_with fail
  refine (pfenc_any 1 16 0 0 0 none 0 0 [] (by omega) (by omega) By8.nil w5 (bytes_nil _) rfl).mono ?_
  rintro e w6 ⟨v6, rfl, ho, hB⟩
  rw [HZ.out.2.2.2.2.2] at ho
  obtain ⟨pd, cd, rfl, _⟩ := own8_form ho
  have HB6 : Hid (Below w.heap.size w w6) := bstep HB5.out hB
  clear hB ho HB5
  go_wp2_with (at_make; refine wpList_makeK byteT (by decide) _ rfl (.const (.int .i64 16384)) (.const (.int .i64 16384)) rfl .i64 .i64 16384 16384 16384 rfl rfl rfl rfl (by omega) w.heap.size w (Below.size HB6.out) HB6.out ?_; intro w7 HO B0 B1; have HB7 := hid2 B1 B1; clear B0 B1)
  rw [eZ2] at HO
  have H7 : Hid (Own8 w7 w6.heap.size (.slice (some ⟨w6.heap.size, 0, none⟩) 16384 16384) Z2) := by
    show Own8 _ _ _ _
    unfold Own8
    rw [HZ.out.2.2.1]
    have := HO.out
    unfold OwnK at this
    rw [HZ.out.2.2.1] at this
    exact this
  refine (pfenc_any 1 0 0 0 0 (some ⟨w6.heap.size, 0, none⟩) 16384 16384 Z2 (by omega) (by omega) HZ.out.2.1 w7 (Own8.bytes H7.out) HZ.out.2.2.1).mono ?_
  rintro e w8 ⟨v8, rfl, ho, hB⟩
  obtain ⟨pe, ce, rfl, _⟩ := own8_form ho
  rw [show (encF 1 0 0 0 0 Z2).length = 16403 by rw [HZ.out.2.2.2.1, encL_len, HZ.out.2.2.1]]
  have HB8 : Hid (Below w.heap.size w w8) := bstep HB7.out.1 hB
  clear hB ho H7 HO HB7 HB6 eZ2
  go_wp2_with fail
  refine (pfgood_any 0 0 0 0 0 none 0 0 w8).mono ?_
  rintro e w9 ⟨rfl, hB⟩
  rw [decide_eq_false (show ¬ goodF 0 0 0 0 by decide)]
  have HB9 : Hid (Below w.heap.size w w9) := bstep HB8.out hB
  clear hB HB8
  obtain ⟨O, eO⟩ : ∃ O, Obj.cells (vals .u8 (List.replicate 16385 0)).toArray 5 = O := ⟨_, rfl⟩
  have hmk : Sem.run Try.prog (Instr.makeSlice 24 (.int .i64 16385) (.int .i64 16385)) w9 = .ok (.slice (some ⟨w9.heap.size, 0, none⟩) 16385 16385) (w9.alloc O) := by
    rw [← eO]
    exact make_run byteT (by decide) 16385 (by decide) .i64 .i64 w9
  clear eO
  go_wp2_with fail
  refine (pfgood_any 1 0 0 0 0 (some ⟨w9.heap.size, 0, none⟩) 16385 16385 (w9.alloc O)).mono ?_
  rintro e w11 ⟨rfl, hB⟩
  rw [decide_eq_false (show ¬ goodF 1 0 0 16385 by decide)]
  have HB11 : Hid (Below w.heap.size w w11) := bstep HB9.out (bstep (up_alloc _ _) hB)
  clear hB hmk HB9
  go_wp2
  go_ret
  exact ⟨rfl, HB11.out⟩
end Go.Proofs.Ytdllobikpjejiaa.Wd
