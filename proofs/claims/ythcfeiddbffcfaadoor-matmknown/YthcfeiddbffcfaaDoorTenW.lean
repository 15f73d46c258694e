/- Tensors: what tens.walk hands back. Tensors: what tens.spread hands back. Tensors that are answered: two slices of the call's own, told in a cell of the callee. Nothing of the program is named here but its types. -/
import Derived.Test.YthcfeiddbffcfaaDoorTenA
import Derived.Test.YthcfeiddbffcfaaDoorRow
import Derived.Test.YthcfeiddbffcfaaDoorFlow
import Derived.Test.YthcfeiddbffcfaaDoorFacts
namespace Go.Proofs.YthcfeiddbffcfaaDoor.Wd
open Go.RowKit
set_option linter.unusedVariables false
set_option linter.unusedSimpArgs false
/-- make of no number, with room. -/
theorem wpList_make0K {P : Program} {t e : TypeId} {k : IntKind} {b : Nat} (T : NumT P t e k b) (hb8 : b ≤ 8) (w : World) {ops : Array Oper} {rest : List Oper} {o : Oper} {a : Act} {Q : Exit → Act → World → Prop}
    (hg : o.guard = none) (l c : Operand) (hop : o.op = Op.makeSlice t l c) (kl kc : IntKind) (C : Int) (n : Nat) (hl : a.eval l = .int kl 0) (hc : a.eval c = .int kc C) (hC : C = (n : Int)) (hn : n ≤ 1073741824)
    (hK : ∀ w', Hid (OwnK k e w' w.heap.size (.slice (some ⟨w.heap.size, 0, none⟩) 0 n) []) → Below w.heap.size w w' → wpList P ops Q rest (a.put o.dst (.slice (some ⟨w.heap.size, 0, none⟩) 0 n)) w') :
    wpList P ops Q (o :: rest) a w := by
  obtain ⟨i0, hi, hz0, hz1, hz2⟩ := info_of T
  have hm : b * n ≤ 8 * 1073741824 := Nat.mul_le_mul hb8 hn
  refine wpList_make_own w hg l c t hop w.heap.size e i0 (.int k 0) 1 T.ht hi hz0 hz1 kl kc C n hl hc hC (by rw [hz2]; omega) (by unfold maxLen; omega) (Nat.le_refl _) ?_
  intro w' h1 h2
  exact hK w' h1 (Below.grown (Below.refl _ _) h2 (Nat.le_refl _) (fun j hj => by cases hj))
theorem rowW_le {d s : List Nat} (hd : ∀ x, x ∈ d → x ≤ 4096) (hs : ∀ x, x ∈ s → x ≤ 4096) : ∀ k a, a ∈ rowW d s k → a ≤ k * 16777216
  | 0, a, h => by simp [rowW] at h; omega
  | k + 1, a, h => by
    rw [rowW] at h
    obtain ⟨b, hb, h⟩ := List.mem_flatMap.1 h
    obtain ⟨n, hn, rfl⟩ := List.mem_map.1 h
    have h1 := rowW_le hd hs k b hb
    have h2 := List.mem_range.1 hn
    have h3 : d.getD k 0 ≤ 4096 := by
      rcases Nat.lt_or_ge k d.length with hk | hk
      · rw [getD_lt d k 0 hk]; exact hd _ (List.getElem_mem _)
      · rw [getD_ge d k 0 hk]; omega
    have h4 : s.getD k 0 ≤ 4096 := by
      rcases Nat.lt_or_ge k s.length with hk | hk
      · rw [getD_lt s k 0 hk]; exact hs _ (List.getElem_mem _)
      · rw [getD_ge s k 0 hk]; omega
    have := Nat.mul_le_mul (show n ≤ 4096 by omega) h4
    omega
theorem itl_app (a b : List Nat) : itl (a ++ b) = itl a ++ itl b := by simp [itl]
theorem range_map_succ (g : Nat → Nat) (i : Nat) : (List.range (i + 1)).map g = (List.range i).map g ++ [g i] := by rw [List.range_succ, List.map_append]; rfl
theorem flat_succ (l : List Nat) (f : Nat → List Nat) (j : Nat) (h : j < l.length) : (l.take (j + 1)).flatMap f = (l.take j).flatMap f ++ f (l.getD j 0) := by
  rw [List.take_succ_eq_append_getElem h, List.flatMap_append, getD_lt l j 0 h]
  simp
set_option maxHeartbeats 4000000 in
theorem walk_any (u v : Value) (d s : List Nat) (hd : goodN d) (hs : s.length = d.length) (hb : ∀ x, x ∈ s → x ≤ 4096) (w : World) (hu : Nums .i64 w u (itl d)) (hv : Nums .i64 w v (itl s)) :
    Calls Tryd.prog 56 #[u, v] w fun e w' => ∃ v', e = .returned v' ∧ OwnK .i64 3 w' w.heap.size v' (itl (walkN d s)) ∧ Below w.heap.size w w' := by
  obtain ⟨p, n, c, rfl, HA⟩ := hu.lst
  obtain ⟨p2, n2, c2, rfl, HB⟩ := hv.lst
  have hdn : d.length = n := by rw [← itl_len d]; exact HA.out.1
  obtain rfl : n2 = n := by rw [← hdn, ← hs, ← itl_len s]; exact HB.out.1.symm
  have hn : n2 ≤ 4 := by rw [← hdn]; exact hd.1
  have hn' : (n2 : Int) ≤ 4 := by omega
  have HD : Hid (goodN d ∧ s.length = d.length ∧ (∀ x, x ∈ s → x ≤ 4096) ∧ d.length = n2) := ⟨hd, hs, hb, hdn⟩
  obtain ⟨L, eL⟩ : ∃ L, itl (walkN d s) = L := ⟨_, rfl⟩
  have HL : Hid (itl (walkN d s) = L) := eL
  have H5 : Hid (OwnK .i64 3 (w.alloc (.cells #[.int .i64 0] 3)) w.heap.size (.slice (some ⟨w.heap.size, 0, none⟩) 1 1) (itl (rowW d s 0))) := own_lit w [0] 1 rfl (by decide)
  have H8 : Hid (Below w.heap.size w (w.alloc (.cells #[.int .i64 0] 3))) := up_alloc w _
  rw [eL]
  clear eL hd hs hb hdn hu hv
  go_enter Tryd.func56, Tryd.ntmps56
  go_wp2_with fail
  go_loopg [5, 15] n2 (fun gg r i wr => ∃ (k : Nat), k ≤ n2 ∧ gg = n2 - k ∧ i = .int .i64 (k : Int) ∧ Hid (OwnK .i64 3 wr w.heap.size r (itl (rowW d s k))) ∧ Hid (Below w.heap.size w wr))
  case atStart => exact ⟨0, by omega, by omega, by first | rfl | simp, H5, H8⟩
  case round =>
    obtain ⟨k, hk, hg, rfl, HO, hB⟩ := hrel
    obtain ⟨R0, hR0⟩ : ∃ R0 : World, R0 = wr := ⟨_, rfl⟩
    subst hR0
    by_cases hkn : k < n2
    · have hk' : (k : Int) < (n2 : Int) := by omega
      obtain ⟨q, o, rfl, hc1⟩ := HA.out.2 k hkn
      have hcell := cell_low hc1 hB.out
      obtain ⟨q2, o2, rfl, hc2⟩ := HB.out.2 k hkn
      have hcell2 := cell_low hc2 hB.out
      clear hc1 hc2
      obtain ⟨rp, N, rc, erow, HR⟩ := HO.out.nums.lst
      subst erow
      rw [itl_getD] at hcell hcell2
      obtain ⟨D, eD⟩ : ∃ D, d.getD k 0 = D := ⟨_, rfl⟩
      obtain ⟨st, es⟩ : ∃ st, s.getD k 0 = st := ⟨_, rfl⟩
      rw [eD] at hcell
      rw [es] at hcell2
      obtain ⟨l, el⟩ : ∃ l, rowW d s k = l := ⟨_, rfl⟩
      have hdk := HD.out.1.at k (by rw [HD.out.2.2.2]; exact hkn)
      rw [eD] at hdk
      have hst : st ≤ 4096 := by
        rw [← es, getD_lt s k 0 (by rw [HD.out.2.1, HD.out.2.2.2]; exact hkn)]
        exact HD.out.2.2.1 _ (List.getElem_mem _)
      have hN : l.length = N := by rw [← el, ← itl_len]; exact HR.out.1
      have hND : N * D ≤ 4096 := by
        rw [← hN, ← el, rowW_len d s k (by rw [HD.out.2.2.2]; omega), ← eD, getD_lt d k 0 (by rw [HD.out.2.2.2]; exact hkn), ← prodN_take_succ d k (by rw [HD.out.2.2.2]; exact hkn)]
        exact Nat.le_trans (prodN_take_le HD.out.1.2.1 _) HD.out.1.2.2
      have hND' : (N : Int) * (D : Int) ≤ 4096 := by rw [← Int.natCast_mul]; omega
      have hND0 : 0 ≤ (N : Int) * (D : Int) := by rw [← Int.natCast_mul]; omega
      have hN4 : N ≤ 4096 := by
        have := Nat.mul_le_mul (Nat.le_refl N) hdk.1
        omega
      have hN4' : (N : Int) ≤ 4096 := by omega
      have hD' : 1 ≤ (D : Int) ∧ (D : Int) ≤ 4096 := by omega
      have hst' : 0 ≤ (st : Int) ∧ (st : Int) ≤ 4096 := by omega
      obtain ⟨f, ef⟩ : ∃ f : Nat → List Nat, (fun a => (List.range D).map fun n => a + n * st) = f := ⟨_, rfl⟩
      have HF : Hid ((fun a => (List.range D).map fun n => a + n * st) = f ∧ rowW d s (k + 1) = l.flatMap f ∧ rowW d s k = l ∧ l.length = N) := ⟨ef, by rw [rowW, el, eD, es, ef], el, hN⟩
      have HLl : Hid (∀ j, j < N → l.getD j 0 ≤ 67108864) := fun j hj => by
        have hjl : j < l.length := by rw [HF.out.2.2.2]; exact hj
        have hmem : l.getD j 0 ∈ rowW d s k := by
          rw [HF.out.2.2.1, getD_lt l j 0 hjl]
          exact List.getElem_mem _
        have := rowW_le HD.out.1.le HD.out.2.2.1 k _ hmem
        omega
      obtain ⟨M, eM⟩ : ∃ M : Nat, N * D = M := ⟨_, rfl⟩
      have eM' : (N : Int) * (D : Int) = (M : Int) := by rw [← Int.natCast_mul, eM]
      have hM : M ≤ 4096 := by omega
      have HM : Hid (N * D = M) := eM
      clear eD es el hN ef hND hND' hND0 eM hdk hst
      go_wp2_with (at_make; refine wpList_make0K numT (by decide) _ rfl (.const (.int .i64 0)) (.tmp 23) rfl .i64 .i64 _ M rfl rfl rfl (by omega) ?_; intro w1 HO1 B1)
      rw [show ([] : List Int) = itl ((l.take 0).flatMap f) by simp [itl]] at HO1
      have HC2 : Hid (R0.cell? ⟨q2, o2 + k, none⟩ = some (.int .i64 (st : Int))) := hcell2
      clear hcell hcell2 HO eM'
      go_wp2_with fail
      go_loopg [8, 27] N (fun gg r i wz => ∃ (j : Nat), j ≤ N ∧ gg = N - j ∧ i = .int .i64 (j : Int) ∧ Hid (OwnK .i64 3 wz R0.heap.size r (itl ((l.take j).flatMap f))) ∧ Hid (Below R0.heap.size R0 wz))
      case atStart => exact ⟨0, by omega, by omega, by first | rfl | simp, HO1, B1⟩
      case round =>
        obtain ⟨j, hj, hg2, rfl, HO2, hB2⟩ := hrel
        obtain ⟨R1, hR1⟩ : ∃ R1 : World, R1 = wr := ⟨_, rfl⟩
        subst hR1
        by_cases hjn : j < N
        · have hj' : (j : Int) < (N : Int) := by omega
          obtain ⟨q3, o3, rfl, hc3⟩ := HR.out.2 j hjn
          have hcell := cell_low hc3 hB2.out
          rw [itl_getD, HF.out.2.2.1] at hcell
          have ha := HLl.out j hjn
          obtain ⟨at_, ea⟩ : ∃ a, l.getD j 0 = a := ⟨_, rfl⟩
          rw [ea] at hcell ha
          have HAt : Hid (l.getD j 0 = at_) := ea
          have ha' : (at_ : Int) ≤ 67108864 := by omega
          obtain ⟨A, eA⟩ : ∃ A, (l.take j).flatMap f = A := ⟨_, rfl⟩
          have hA : A.length = j * D := by
            rw [← eA, ← HF.out.1, flat_len, List.length_take, HF.out.2.2.2, Nat.min_eq_left hj]
          have hAD : A.length + D ≤ 4096 := by
            have h1 := Nat.mul_le_mul (show j + 1 ≤ N by omega) (Nat.le_refl D)
            rw [HM.out, Nat.add_mul] at h1
            omega
          have HAA : Hid ((l.take j).flatMap f = A ∧ A.length + D ≤ 4096) := ⟨eA, hAD⟩
          rw [eA, show A = A ++ (List.range 0).map (fun n => at_ + n * st) by simp] at HO2
          clear ea hc3 eA hA hAD
          go_wp2_with fail
          go_loopg [8, 32] D (fun gg r i wy => ∃ (m : Nat), m ≤ D ∧ gg = D - m ∧ i = .int .i64 (m : Int) ∧ Hid (OwnK .i64 3 wy R0.heap.size r (itl (A ++ (List.range m).map fun n => at_ + n * st))) ∧ Hid (Below R0.heap.size R0 wy))
          case atStart => exact ⟨0, by omega, by omega, by first | rfl | simp, HO2, hB2⟩
          case round =>
            obtain ⟨m, hm, hg3, rfl, HO3, hB3⟩ := hrel
            obtain ⟨R2, hR2⟩ : ∃ R2 : World, R2 = wr := ⟨_, rfl⟩
            subst hR2
            by_cases hmn : m < D
            · have hm' : (m : Int) < (D : Int) := by omega
              have hcl := cell_low HC2.out hB3.out
              obtain ⟨X, eX⟩ : ∃ X, at_ + m * st = X := ⟨_, rfl⟩
              have hms : m * st ≤ 16777216 := Nat.mul_le_mul (show m ≤ 4096 by omega) (show st ≤ 4096 by omega)
              obtain ⟨Y, eY⟩ : ∃ Y, m * st = Y := ⟨_, rfl⟩
              have eY' : (m : Int) * (st : Int) = (Y : Int) := by rw [← Int.natCast_mul, eY]
              rw [eY] at eX hms
              have hY' : (Y : Int) ≤ 16777216 := by omega
              have eX' : (at_ : Int) + (Y : Int) = (X : Int) := by omega
              have HX : Hid (at_ + m * st = X) := by show _ = _; rw [eY]; exact eX
              have H6 : Hid (OwnK .i64 3 (R2.alloc (.cells #[.int .i64 (X : Int)] 3)) R0.heap.size u8 (itl (A ++ (List.range m).map fun n => at_ + n * st))) := HO3.out.up (up_alloc R2 _)
              have H6n : Hid (Nums .i64 (R2.alloc (.cells #[.int .i64 (X : Int)] 3)) (.slice (some ⟨R2.heap.size, 0, none⟩) 1 1) [(X : Int)]) := nums_lit (k := .i64) R2 [(X : Int)] 1 (0, 0) rfl
              have H6b : Hid (Below R0.heap.size R0 (R2.alloc (.cells #[.int .i64 (X : Int)] 3))) := blit hB3.out _
              have H6l : Hid ((itl (A ++ (List.range m).map fun n => at_ + n * st)).length + [(X : Int)].length ≤ 1073741824) := by
                show _ ≤ _
                rw [itl_len, List.length_append, List.length_map, List.length_range, List.length_singleton]
                have := HAA.out.2
                omega
              clear eX eY
              go_wp2_with (at_builtin; refine wpList_appendK numT (by decide) rfl (.tmp 35) (.tmp 44) rfl R0.heap.size _ _ rfl H6.out _ [(X : Int)] rfl H6n.out H6l.out H6b.out.size R0 H6b.out ?_; intro v0 w0 H0 B0)
              have H7 : Hid (OwnK .i64 3 w0 R0.heap.size v0 (itl (A ++ (List.range (m + 1)).map fun n => at_ + n * st))) := by
                show OwnK _ _ _ _ _ _
                rw [range_map_succ, ← List.append_assoc, itl_app, HX.out]
                exact H0.out
              go_roundg (D - (m + 1))
              case measure => omega
              case rel => exact ⟨m + 1, by omega, rfl, by first | rfl | simp, H7, B0⟩
            · obtain rfl : m = D := by omega
              have H7 : Hid (OwnK .i64 3 R2 R0.heap.size u8 (itl ((l.take (j + 1)).flatMap f))) := by
                show OwnK _ _ _ _ _ _
                rw [flat_succ l f j (by rw [HF.out.2.2.2]; exact hjn), HAA.out.1, HAt.out, ← HF.out.1]
                exact HO3.out
              go_wp2
              go_roundg (N - (j + 1))
              case measure => omega
              case rel => exact ⟨j + 1, by omega, rfl, by first | rfl | simp, H7, hB3⟩
        · obtain rfl : j = N := by omega
          have H7 : Hid (OwnK .i64 3 R1 w.heap.size u8 (itl (rowW d s (k + 1)))) := by
            show OwnK _ _ _ _ _ _
            rw [HF.out.2.1]
            have := HO2.out
            rw [List.take_of_length_le (by rw [HF.out.2.2.2]; exact Nat.le_refl _)] at this
            exact this.low hB.out.size
          have H9 : Hid (Below w.heap.size w R1) := bstep hB.out hB2.out
          go_wp2
          go_roundg (n2 - (k + 1))
          case measure => omega
          case rel => exact ⟨k + 1, by omega, rfl, by first | rfl | simp, H7, H9⟩
    · obtain rfl : k = n2 := by omega
      have hfin := HO.out
      have hw := HL.out
      unfold walkN at hw
      rw [HD.out.2.2.2] at hw
      rw [hw] at hfin
      have HF : Hid (OwnK .i64 3 R0 w.heap.size _ L ∧ Below w.heap.size w R0) := ⟨hfin, hB.out⟩
      clear hfin hw
      go_wp2
      go_ret
      exact ⟨_, rfl, HF.out⟩
end Go.Proofs.YthcfeiddbffcfaaDoor.Wd
namespace Go.Proofs.YthcfeiddbffcfaaDoor.Wd
open Go.RowKit
set_option linter.unusedVariables false
set_option linter.unusedSimpArgs false
theorem itl_set (l : List Nat) (j x : Nat) : itl (l.set j x) = (itl l).set j (x : Int) := by unfold itl; rw [List.map_set]
end Go.Proofs.YthcfeiddbffcfaaDoor.Wd
namespace Go.Proofs.YthcfeiddbffcfaaDoor.Wd
open Go.RowKit
set_option linter.unusedVariables false
set_option linter.unusedSimpArgs false
theorem cell_lt {W : World} {b o : Nat} {v : Value} (h : W.cell? ⟨b, o, none⟩ = some v) : b < W.heap.size := cell_block (a := ⟨b, o, none⟩) h
/-- A struct of two values in a block, that may be stored into. -/
def Cel (W : World) (b : Nat) (s t : Value) : Prop := W.cell? ⟨b, 0, none⟩ = some s ∧ W.cell? ⟨b, 1, none⟩ = some t ∧ W.frozen? ⟨b, 0, none⟩ = false ∧ W.frozen? ⟨b, 1, none⟩ = false
theorem Cel.up {W W' : World} {b : Nat} {s t : Value} (h : Cel W b s t) (hB : Below W.heap.size W W') : Cel W' b s t := by
  have hb := cell_lt h.1
  refine ⟨cell_low h.1 hB, cell_low h.2.1 hB, ?_, ?_⟩
  · rw [hB.frozen (p := ⟨b, 0, none⟩) hb]; exact h.2.2.1
  · rw [hB.frozen (p := ⟨b, 1, none⟩) hb]; exact h.2.2.2
theorem Cel.stay {g : Nat} {W W' : World} {b : Nat} {s t : Value} (h : Cel W b s t) (hs : Stay g W W') (hg : b ≠ g) : Cel W' b s t := by
  have hb := cell_lt h.1
  refine ⟨hs.cell h.1 hg, hs.cell h.2.1 hg, ?_, ?_⟩
  · rw [hs.frozen hb hg]; exact h.2.2.1
  · rw [hs.frozen hb hg]; exact h.2.2.2
theorem set_same {W : World} {p : Addr} {x v : Value} (h : W.cell? p = some v) : (W.setCell p x).cell? p = some x := World.cell?_setCell_same _ _ _ h
theorem set_off {W : World} {b i j : Nat} {x : Value} (hij : j ≠ i) : (W.setCell ⟨b, i, none⟩ x).cell? ⟨b, j, none⟩ = W.cell? ⟨b, j, none⟩ := World.cell?_setCell_other _ _ _ _ (by simp; try omega)
/-- The struct, stored. -/
abbrev set2 (W : World) (b : Nat) (s t : Value) : World := (W.setCell ⟨b, 0, none⟩ s).setCell ⟨b, 1, none⟩ t
theorem Cel.set {W : World} {b : Nat} {s t : Value} (h : Cel W b s t) (s' t' : Value) : Cel (set2 W b s' t') b s' t' := by
  refine ⟨?_, ?_, ?_, ?_⟩
  · show ((W.setCell ⟨b, 0, none⟩ s').setCell ⟨b, 1, none⟩ t').cell? ⟨b, 0, none⟩ = _
    rw [set_off (by omega)]
    exact set_same h.1
  · exact set_same (by rw [set_off (by omega)]; exact h.2.1)
  · simp [h.2.2.1]
  · simp [h.2.2.2]
theorem Stay.set2 {g : Nat} (W : World) (s t : Value) : Stay g W (set2 W g s t) := ((Stay.refl g W).set 0 s).set 1 t
theorem OwnK.off_new {k : IntKind} {e : TypeId} {W : World} {B g : Nat} {v : Value} {l : List Int} (h : OwnK k e W B v l) (hg : W.heap.size ≤ g) : Off g v := by
  intro ad n c ev
  rcases h.2 with ⟨h1, _⟩ | ⟨q, cap, cur, h1, h2, h3, _⟩
  · rw [h1] at ev; cases ev
  · rw [h1] at ev
    cases ev
    have : q < W.heap.size := by
      rcases Nat.lt_or_ge q W.heap.size with h | h
      · exact h
      · rw [Array.getElem?_eq_none h] at h3; cases h3
    show q ≠ g
    omega
/-- What a call answers: a tensor in memory of its own. -/
def TRes (W : World) (B : Nat) (v : Value) (D X : List Int) : Prop := ∃ s t, v = .agg #[s, t] ∧ OwnK .i64 3 W B s D ∧ OwnK .i64 28 W B t X
theorem TRes.none (W : World) (B : Nat) : TRes W B (.agg #[.slice none 0 0, .slice none 0 0]) [] [] := ⟨_, _, rfl, OwnK.nil _ _ _ _, OwnK.nil _ _ _ _⟩
theorem TRes.up {W W' : World} {B : Nat} {v : Value} {D X : List Int} (h : TRes W B v D X) (hB : Below W.heap.size W W') : TRes W' B v D X := by
  obtain ⟨s, t, e, h1, h2⟩ := h
  exact ⟨s, t, e, h1.up hB, h2.up hB⟩
theorem TRes.low {W : World} {B B' : Nat} {v : Value} {D X : List Int} (h : TRes W B v D X) (hB : B' ≤ B) : TRes W B' v D X := by
  obtain ⟨s, t, e, h1, h2⟩ := h
  exact ⟨s, t, e, h1.low hB, h2.low hB⟩
theorem TRes.set {W : World} {B b : Nat} {s t : Value} {D X : List Int} (h1 : OwnK .i64 3 W B s D) (h2 : OwnK .i64 28 W B t X) (hb : b < B) : TRes (set2 W b s t) B (.agg #[s, t]) D X :=
  ⟨s, t, rfl, h1.stay (Stay.set2 W s t) (h1.off hb), h2.stay (Stay.set2 W s t) (h2.off hb)⟩
theorem below_cell {w W : World} (h : Below w.heap.size w W) (b : Nat) (hb : w.heap.size ≤ b) (x y : Value) : Below w.heap.size w (set2 W b x y) := below_set2 h b hb x y
/-- Both spread and reckoned, number by number. -/
def eachE (d x d' y : List Int) : Int := if isP d x ∧ isP d' y then joinE d d' else 1
def eachD (d x d' y : List Int) : List Int := if isP d x ∧ isP d' y then joinL d d' else []
def eachV (op : Int → Int → Int) (d x d' y : List Int) : List Int :=
  if (isP d x ∧ isP d' y) ∧ joinE d d' = 0 then (List.range (prodN (ntl (joinL d d')))).map fun i => op (x.getD (fromN (ntl d) (ntl (joinL d d')) i) 0) (y.getD (fromN (ntl d') (ntl (joinL d d')) i) 0) else []
theorem each_none {op : Int → Int → Int} {d x d' y : List Int} (h : ¬ (isP d x ∧ isP d' y)) : eachE d x d' y = 1 ∧ eachD d x d' y = [] ∧ eachV op d x d' y = [] := ⟨if_neg h, if_neg h, if_neg fun h' => h h'.1⟩
theorem joinL_bad {a b : List Int} (h : joinE a b ≠ 0) : joinL a b = [] := by
  unfold joinL
  rw [if_neg]
  rintro ⟨h1, h2, h3, h4⟩
  apply h
  unfold joinE
  rw [if_pos ⟨h1, h2⟩, if_pos h3, if_pos h4]
theorem each_bad {op : Int → Int → Int} {d x d' y : List Int} (h : isP d x ∧ isP d' y) (hE : joinE d d' ≠ 0) : eachE d x d' y = joinE d d' ∧ eachD d x d' y = [] ∧ eachV op d x d' y = [] :=
  ⟨if_pos h, by unfold eachD; rw [if_pos h]; exact joinL_bad hE, if_neg fun h' => hE h'.2⟩
/-- Both fit: what stands where. -/
structure Joint (d x d' y : List Int) (a b J : List Nat) : Prop where
  da : d = itl a
  db : d' = itl b
  ga : goodN a
  gb : goodN b
  gJ : goodN J
  jn : joinL d d' = itl J
  je : joinE d d' = 0
  lx : x.length = prodN a
  ly : y.length = prodN b
  fa : fitsN a J
  ja : joinN a J = J
  fb : fitsN b J
  jb : joinN b J = J
theorem joint {d x d' y : List Int} (h : isP d x ∧ isP d' y) (hE : joinE d d' = 0) : ∃ a b J, Joint d x d' y a b J := by
  obtain ⟨h1, h2, h3, h4⟩ := joinE_zero hE
  obtain ⟨a, ga, rfl⟩ := good_itl h1
  obtain ⟨b, gb, rfl⟩ := good_itl h2
  rw [ntl_itl, ntl_itl] at h3 h4
  have hj := (join_fine ga gb h3 h4).1
  have e1 := h.1.2
  have e2 := h.2.2
  rw [ntl_itl] at e1 e2
  refine ⟨a, b, joinN a b, rfl, rfl, ga, gb, h4, hj, hE, e1, e2, ?_, ?_, ?_, ?_⟩
  · rw [fitsN_comm]; exact fitsN_again ga.2.1 gb.2.1 h3
  · rw [joinN_comm, joinN_again]
  · rw [fitsN_comm, joinN_comm a b]; exact fitsN_again gb.2.1 ga.2.1 ((fitsN_comm _ _).1 h3)
  · rw [joinN_comm b, joinN_comm a b, joinN_again]
theorem Joint.E {op : Int → Int → Int} {d x d' y : List Int} {a b J : List Nat} (h : Joint d x d' y a b J) : eachE d x d' y = 0 ∧ eachD d x d' y = itl J ∧ eachV op d x d' y = (List.range (prodN J)).map fun i => op (x.getD (fromN a J i) 0) (y.getD (fromN b J i) 0) := by
  have hp : isP d x ∧ isP d' y := by
    rw [h.da, h.db]
    unfold isP
    rw [ntl_itl, ntl_itl]
    exact ⟨⟨h.ga, h.lx⟩, h.gb, h.ly⟩
  refine ⟨?_, ?_, ?_⟩
  · unfold eachE; rw [if_pos hp]; exact h.je
  · unfold eachD; rw [if_pos hp]; exact h.jn
  · unfold eachV
    rw [if_pos ⟨hp, h.je⟩, h.jn, ntl_itl]
    rw [h.da, h.db, ntl_itl, ntl_itl]
end Go.Proofs.YthcfeiddbffcfaaDoor.Wd
