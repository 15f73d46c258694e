/- Sums of products, rounded once: what matm.Dot hands back. -/
import Derived.Test.YthcfeiddbffcfaaDoorExa
import Derived.Test.YthcfeiddbffcfaaDoorTenW
import Derived.Test.YthcfeiddbffcfaaDoorMtA
namespace Go.Proofs.YthcfeiddbffcfaaDoor.Wd
open Go.RowKit Fx
set_option linter.unusedVariables false
set_option linter.unusedSimpArgs false
/-- A sum that was just made. -/
theorem sum_new (W : World) (t : TypeId) : SumAt (W.alloc (.cells #[.int .i64 0, .int .u64 0, .int .i64 0, .int .u64 0] t)) W.heap.size 0 0 0 := by
  refine ⟨0, 0, by omega, by omega, by omega, by omega, by omega, ?_, ?_⟩ <;> (unfold LieA; simp [go_sem])
set_option maxRecDepth 8000 in
set_option maxHeartbeats 8000000 in
theorem dot_any (p p2 : Option Addr) (n c n2 c2 : Nat) (x y : List Int) (hx : RI x) (hy : RI y) (m : Nat) (hm : min n n2 = m) (hn : m ≤ 4096) (w : World) (hT : Hid (Tz w)) (hv : Nums .i64 w (.slice p n c) x) (hv2 : Nums .i64 w (.slice p2 n2 c2) y) :
    Calls Tryd.prog 17 #[.slice p n c, .slice p2 n2 c2] w fun e w' => e = .returned (.int .i64 (dotI x y)) ∧ Below w.heap.size w w' := by
  obtain ⟨_, _, _, e4, HX⟩ := hv.lst
  cases e4
  obtain ⟨_, _, _, e4, HY⟩ := hv2.lst
  cases e4
  have HD : Hid (dotI x y = rnd (dotS x y m)) := by show _ = _; rw [dotI, HX.out.1, HY.out.1, hm]
  have HI : Hid (RI x ∧ RI y) := ⟨hx, hy⟩
  have HM : Hid (m ≤ n ∧ m ≤ n2 ∧ m ≤ 4096) := ⟨by omega, by omega, hn⟩
  have hn1 : (m : Int) ≤ 4096 := by omega
  have kmin : ∀ (ts : Array TypeId) (t : TypeId) (w : World), (Builtin.min_ ts t #[.int .i64 (n : Int), .int .i64 (n2 : Int)]).run Tryd.prog w = .ok (.int .i64 (m : Int)) w := fun ts t w => by
    rw [run_min_int2]
    congr 2
    split <;> omega
  obtain ⟨D, eD⟩ : ∃ D, dotI x y = D := ⟨_, rfl⟩
  rw [eD] at HD ⊢
  clear hv hv2 hx hy eD hm
  haveI : Nonempty World := ⟨w⟩
  go_enter Tryd.func17, Tryd.ntmps17
  go_wp2_with fail
  clear kmin
  go_loopg [12] m (fun g i wr => ∃ (k : Nat), k ≤ m ∧ g = m - k ∧ i = .int .i64 (k : Int) ∧ Hid (SumAt wr w.heap.size 0 k (dotS x y k)) ∧ Hid (Below w.heap.size w wr))
  case atStart => exact ⟨0, by omega, by omega, rfl, sum_new w _, show Below _ _ _ by go_grown⟩
  case round =>
    obtain ⟨k, hk, hg, rfl, L0, HB⟩ := hrel
    obtain ⟨R1, hR1⟩ : ∃ R1 : World, R1 = wr := ⟨_, rfl⟩
    subst hR1
    by_cases hkn : k < m
    · have hk' : (k : Int) < (m : Int) := by omega
      have hkA : (k : Int) < (n : Int) := by have := HM.out; omega
      have hkB : (k : Int) < (n2 : Int) := by have := HM.out; omega
      obtain ⟨q, o, rfl, hc0⟩ := HX.out.2 k (by omega)
      obtain ⟨q2, o2, rfl, hc2⟩ := HY.out.2 k (by omega)
      have hc1 := cell_low hc0 HB.out
      have hc3 := cell_low hc2 HB.out
      have lt0 := wcell_lt hc1
      have lt2 := wcell_lt hc3
      have hX := getD_inR HI.out.1 k
      have hY := getD_inR HI.out.2 k
      have eS : Hid (dotS x y (k + 1) = dotS x y k + x.getD k 0 * y.getD k 0) := rfl
      obtain ⟨X, eX⟩ : ∃ X, x.getD k 0 = X := ⟨_, rfl⟩
      obtain ⟨Y, eY⟩ : ∃ Y, y.getD k 0 = Y := ⟨_, rfl⟩
      rw [eX] at hc1 hX
      rw [eY] at hc3 hY
      rw [eX, eY] at eS
      have cA : Hid (∀ W, Below R1.heap.size R1 W → Calls Tryd.prog 36 #[.pointer (some ⟨w.heap.size, 0, none⟩), .int .i64 X, .int .i64 Y] W fun e w' => e = .returned (.tuple #[]) ∧ SumAt w' w.heap.size 0 (k + 1) (dotS x y k + X * Y) ∧ Near w.heap.size 0 W w') := fun W hW => sadd_any w.heap.size 0 k _ X Y (by have := HM.out; omega) hX hY W (L0.out.up hW)
      clear eX eY hX hY hc0 hc2
      go_wp2_with fail
      refine flow 8 26 (by kernel_rfl) rfl rfl (by kernel_rfl) ?_
      apply Exists.intro
      refine ⟨?_, ?_⟩
      · intro F hF
        have hFc := hF.cell
        have hFf := hF.frozen
        simp only [List.take_succ_cons, List.take_zero, List.eraseIdx_cons_succ, List.eraseIdx_cons_zero]
        repeat (go_big_quiet_step (fail))
        refine wpQuiet_nil ?_
        exact rfl
      · intro W1 hW1
        simp only [List.drop_succ_cons, List.drop_zero]
        clear hc1 hc3 lt0 lt2
        go_wp2_with fail
        refine (cA.out W1 hW1).mono ?_
        rintro e w2 ⟨rfl, hS2, hN2⟩
        have H5 : Hid (SumAt w2 w.heap.size 0 (k + 1) (dotS x y (k + 1))) := by show SumAt _ _ _ _ _; rw [eS.out]; exact hS2
        have H6 : Hid (Below w.heap.size w w2) := (bstep HB.out hW1).trans hN2.below
        clear hS2 hN2 hW1 cA L0 HB
        go_wp2
        go_roundg (m - (k + 1))
        case measure => omega
        case rel => exact ⟨k + 1, by omega, rfl, by first | rfl | simp, H5, H6⟩
    · obtain rfl : k = m := by omega
      have hk' : ¬ (k : Int) < (k : Int) := by omega
      have cF : ∀ W, Below w.heap.size w W → SumAt W w.heap.size 0 k (dotS x y k) → Calls Tryd.prog 37 #[.pointer (some ⟨w.heap.size, 0, none⟩)] W fun e w' => e = .returned (.int .i64 D) ∧ Below W.heap.size W w' := fun W hW hS => by
        rw [HD.out]
        exact sfix_any w.heap.size 0 k _ (by have := HM.out; omega) W (Hid.up_tz hT hW) hS
      have cF' := cF R1 HB.out L0.out
      clear cF
      go_wp2_with fail
      refine cF'.mono ?_
      rintro e w2 ⟨rfl, hB2⟩
      have H6 : Hid (Below w.heap.size w w2) := bstep HB.out hB2
      clear hB2 cF' HB L0
      go_wp2
      go_ret
      exact ⟨rfl, H6.out⟩
end Go.Proofs.YthcfeiddbffcfaaDoor.Wd
