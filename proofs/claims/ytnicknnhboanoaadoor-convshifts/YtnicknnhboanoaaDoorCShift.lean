/- ConvShifts: rows that begin one later give what they gave, one later. -/
import Derived.Test.YtnicknnhboanoaaDoorCvL
import Derived.Test.YtnicknnhboanoaaDoorApp
namespace Go.Proofs.YtnicknnhboanoaaDoor.Wd
open Go.RowKit Fx
set_option linter.unusedVariables false
set_option linter.unusedSimpArgs false
theorem isP_row {x : List Int} {n : Nat} (h : x.length = n) (h1 : 1 ≤ n) (h2 : n ≤ 4096) : isP [1, (n : Int)] x := by
  have e : prodN [1, n] = n := by simp [prodN]
  have en : ntl [1, (n : Int)] = [1, n] := ntl_itl [1, n]
  unfold isP
  rw [en, e]
  exact ⟨⟨by simp, fun y hy => by simp at hy; omega, by rw [e]; exact h2⟩, h⟩
theorem isP_win {x : List Int} {n : Nat} (h : x.length = n) (h1 : 1 ≤ n) (h2 : n ≤ 4096) : isP [1, 1, (n : Int)] x := by
  have e : prodN [1, 1, n] = n := by simp [prodN]
  have en : ntl [1, 1, (n : Int)] = [1, 1, n] := ntl_itl [1, 1, n]
  unfold isP
  rw [en, e]
  exact ⟨⟨by simp, fun y hy => by simp at hy; omega, by rw [e]; exact h2⟩, h⟩
theorem good_row {n : Nat} (h1 : 1 ≤ n) (h2 : n ≤ 4096) : goodN (ntl [1, (n : Int)]) := (good_two (D0 := 1) (D1 := n)).2 ⟨by omega, h1, by omega⟩
/-- append([]T{f}, v...), where v holds something: a new row. -/
theorem appF {P : Program} {t e : TypeId} {b : Nat} (T : NumT P t e .i64 b) (hb8 : b ≤ 8) (ty : TypeId) (W : World) (f : Int) (u : Value) (h0 : LitN [f] u W) (v : Value) (l : List Int) (hv : Nums .i64 W v l) (hl : l.length ≤ 100) (hpos : 0 < l.length) :
    ∃ v' w', (Builtin.append_ #[t, t] ty #[u, v]).run P W = .ok v' w' ∧ OwnK .i64 e w' W.heap.size v' (f :: l) ∧ Below W.heap.size W w' := by
  obtain ⟨g, rfl, h1⟩ := h0
  obtain ⟨i0, hi, hz0, hz1, hz2⟩ := info_of T
  rcases h1 with ⟨h1, _⟩ | ⟨ad0, c0, e0, hc0⟩
  · cases h1
  cases e0
  rcases hv with ⟨_, rfl⟩ | ⟨ad, c, rfl, hc⟩
  · simp at hpos
  have hm : (1 + l.length) * b ≤ 101 * 8 := Nat.mul_le_mul (by omega) hb8
  obtain ⟨v', w', hr, ho, hgr⟩ := run_append_arg_grows (P := P) (w := W) t ty e i0 (.int .i64 0) 1 b T.ht hi hz0 hz1 hz2 rfl (by decide) ⟨g, 0, none⟩ 1 1 (vals .i64 [f]) rfl hc0 ad l.length c (vals .i64 l) (by simp [vals]) hc (by omega) (by unfold maxLen; omega) (by omega)
  refine ⟨v', w', hr, ?_, Below.grown (Below.refl _ _) hgr (Nat.le_refl _) (fun j hj => by cases hj)⟩
  unfold OwnK
  rw [List.length_cons, Nat.add_comm l.length 1]
  exact ho
/-- A row's cells of its own, with room, that can be read. -/
def RowR (l : List Int) (v : Value) (W : World) : Prop := ∃ p n c, v = .slice p n c ∧ Nums .i64 W v l ∧ n ≤ c
theorem RowR.up {l : List Int} {v : Value} {W W' : World} (h : RowR l v W) (hB : Below W.heap.size W W') : RowR l v W' := by
  obtain ⟨p, n, c, e, h1, h2⟩ := h
  exact ⟨p, n, c, e, h1.up hB, h2⟩
theorem rows_row (l : List Int) (v : Value) (q : Nat) (hl : l.length ≤ 1000) (hq : l.length = q) (w : World) (h : RowR l v w) :
    Calls Tryd.prog 10 #[.int .i64 1, v] w fun e w' => ∃ v, e = .returned v ∧ TnC [1, (q : Int)] l v w' ∧ Below w.heap.size w w' := by
  obtain ⟨p, n, c, rfl, h1, h2⟩ := h
  exact rows_any 1 q l p n c (by omega) hl h2 (by rw [hq, Nat.div_one]) w h1
/-- What Row tells of a row of n + 1 and of its last n. -/
theorem shift_row {x y : List Int} {n k : Nat} (hx : x.length = n) (hy : y.length = k) (h1 : 1 ≤ k) (h2 : k ≤ n) (h3 : n ≤ 4096) : rwE [1, (n : Int)] x [1, 1, (k : Int)] y 1 = 0 ∧ rwD [1, (n : Int)] x [1, 1, (k : Int)] y 1 = [1, ((n - k + 1 : Nat) : Int)] ∧ rwV [1, (n : Int)] x [1, 1, (k : Int)] y 1 = convV 1 n k 1 (n - k + 1) 1 x y := by
  have hg : goodN (ntl [((1 : Nat) : Int), ((n - k + 1 : Nat) : Int)]) := good_two.2 ⟨by omega, by omega, by omega⟩
  have hS : stopsN n k 1 = n - k + 1 := by unfold stopsN; rw [Nat.div_one]
  obtain ⟨e1, e2, e3⟩ := rw_fine (R := 1) (L := n) (O := 1) (wd := k) (st := 1) (x := x) (y := y) ⟨isP_row hx (by omega) h3, isP_win hy h1 (by omega), by omega, by omega⟩ h2 hS
  exact ⟨e1.trans (if_pos hg), e2.trans (if_pos hg), e3.trans (if_pos hg)⟩
theorem shift_tail {x y : List Int} {n k : Nat} (f : Int) (h2 : k ≤ n) : (convV 1 (n + 1) k 1 (n + 1 - k + 1) 1 (f :: x) y).drop 1 = convV 1 n k 1 (n - k + 1) 1 x y := by
  have e : n + 1 - k + 1 = (n - k + 1) + 1 := by omega
  rw [e]
  refine List.ext_getElem (by rw [List.length_drop, convV_len, convV_len]; omega) fun i h1 h3 => ?_
  rw [convV_len] at h3
  rw [List.getElem_drop]
  simp only [convV, List.getElem_map, List.getElem_range]
  rw [Nat.add_comm 1 i]
  exact conv_shift f x y n k (n - k + 1) i (by omega)
set_option maxRecDepth 8000 in
set_option maxHeartbeats 8000000 in
theorem cshift_walk (w : World) (hT : Hid (Tz w)) (f : Int) (za : Nat → Int) (n c : Nat) (p : Option Addr) (zb : Nat → Int) (n2 c2 : Nat) (p2 : Option Addr) (hf0 : -9223372036854775808 ≤ f ∧ f ≤ 9223372036854775807) (r1 : RowN .i64 w p n c za) (r2 : RowN .i64 w p2 n2 c2 zb) :
    Calls Tryd.prog 8 #[.int .i64 f, .slice p n c, .slice p2 n2 c2] w fun e w' => e = .returned (.bool true) ∧ Below w.heap.size w w' := by
  have HA : Hid (Nums .i64 w (.slice p n c) (nlst n za) ∧ Nums .i64 w (.slice p2 n2 c2) (nlst n2 zb)) := ⟨r1.nums, r2.nums⟩
  have HI : Hid (RI (nlst n za) ∧ (nlst n za).length = n ∧ n ≤ c ∧ RI (nlst n2 zb) ∧ (nlst n2 zb).length = n2 ∧ n2 ≤ c2) := ⟨r1.riI, nlst_len _ _, r1.1.1, r2.riI, nlst_len _ _, r2.1.1⟩
  have HF0 : Hid (InR f) := hf0
  have hfew : (n : Int) ≤ 9223372036854775807 := by have := r1.few; unfold Few at this; rw [nlst_len] at this; omega
  have hfew2 : (n2 : Int) ≤ 9223372036854775807 := by have := r2.few; unfold Few at this; rw [nlst_len] at this; omega
  obtain ⟨x, ex⟩ : ∃ x, nlst n za = x := ⟨_, rfl⟩
  obtain ⟨y, ey⟩ : ∃ x, nlst n2 zb = x := ⟨_, rfl⟩
  rw [ex, ey] at HA HI
  clear ex ey r1 r2 hf0
  haveI : Nonempty World := ⟨w⟩
  go_enter Tryd.func8, Tryd.ntmps8
  go_wp2_with fail
  have HB_w : Hid (Below w.heap.size w w) := Below.refl _ _
  refine (awake8_any w (hT)).mono ?_
  rintro e wa ⟨rfl, hBa⟩
  have HB_wa : Hid (Below w.heap.size w wa) := bstep HB_w.out hBa
  clear hBa
  by_cases hn1 : n2 < 1
  · obtain rfl : n2 = 0 := by omega
    go_wp2
    go_ret
    exact ⟨rfl, HB_wa.out⟩
  have hd1 : decide ((n2 : Int) < 1) = false := decide_eq_false (by omega)
  by_cases hn2 : n < n2
  · have hd2 : decide ((n : Int) < (n2 : Int)) = true := decide_eq_true (by omega)
    have hd2n : decide (n < n2) = true := decide_eq_true (by omega)
    go_wp2
    go_ret
    exact ⟨rfl, HB_wa.out⟩
  have hd2 : decide ((n : Int) < (n2 : Int)) = false := decide_eq_false (by omega)
  have hd2n : decide (n < n2) = false := decide_eq_false (by omega)
  by_cases hn3 : 60 < n
  · have hd3 : decide ((60 : Int) < (n : Int)) = true := decide_eq_true (by omega)
    have hd3n : decide (60 < n) = true := decide_eq_true (by omega)
    go_wp2
    go_ret
    exact ⟨rfl, HB_wa.out⟩
  have hd3 : decide ((60 : Int) < (n : Int)) = false := decide_eq_false (by omega)
  have hd3n : decide (60 < n) = false := decide_eq_false (by omega)
  have hb1 : 1 ≤ (n2 : Int) ∧ (n2 : Int) ≤ (n : Int) ∧ (n : Int) ≤ 60 := by omega
  go_wp2_with fail
  refine (windows_any 1 1 n2 y p2 n2 c2 (by omega) (by omega) (by rw [HI.out.2.2.2.2.1]; omega) HI.out.2.2.2.2.2 (by rw [HI.out.2.2.2.2.1, Nat.div_one, Nat.div_one]) wa (HA.out.2.up HB_wa.out)).mono ?_
  rintro e w1 ⟨v1, rfl, ⟨ps1, ns1, cs1, pt1, nt1, ct1, rfl, hs1, ht1, hk1⟩, hB1⟩
  have HB_w1 : Hid (Below w.heap.size w w1) := bstep HB_wa.out hB1
  have T1_v0 : Hid (TnC [1, 1, (n2 : Int)] y (.agg #[.slice ps1 ns1 cs1, .slice pt1 nt1 ct1]) w1) := ⟨_, _, _, _, _, _, rfl, hs1, ht1, hk1⟩
  clear hs1 ht1 hk1 hB1
  go_wp2_with fail
  generalize hW1 : World.alloc _ _ = W1
  have hC1 : Below w1.heap.size w1 W1 := by rw [← hW1]; exact up_alloc w1 _
  have HB_W1 : Hid (Below w.heap.size w W1) := bstep HB_w1.out hC1
  have T1_v1 : Hid (TnC [1, 1, (n2 : Int)] y (.agg #[.slice ps1 ns1 cs1, .slice pt1 nt1 ct1]) W1) := T1_v0.out.up hC1
  clear T1_v0
  have X1_v1 : Hid (Cel W1 w1.heap.size (.slice ps1 ns1 cs1) (.slice pt1 nt1 ct1)) := by show Cel _ _ _ _; unfold Cel; rw [← hW1]; simp [go_sem]
  clear hW1 hC1 
  have HR : Hid (RI [1, (n : Int)] ∧ RI [1, ((n + 1 : Nat) : Int)] ∧ RI [1, 1, (n2 : Int)] ∧ RI (f :: x)) := ⟨fun q hq => by simp at hq; omega, fun q hq => by simp at hq; omega, fun q hq => by simp at hq; omega, fun q hq => by
    rcases List.mem_cons.1 hq with rfl | h
    · exact HF0.out
    · exact HI.out.1 q h⟩
  obtain ⟨q, eq⟩ : ∃ q, n - n2 + 1 = q := ⟨_, rfl⟩
  have eq2 : n + 1 - n2 + 1 = q + 1 := by omega
  obtain ⟨V1, eV1⟩ : ∃ V, convV 1 (n + 1) n2 1 (q + 1) 1 (f :: x) y = V := ⟨_, rfl⟩
  obtain ⟨V2, eV2⟩ : ∃ V, convV 1 n n2 1 q 1 x y = V := ⟨_, rfl⟩
  have HV : Hid (V1.length = q + 1 ∧ V2.length = q ∧ V1.drop 1 = V2) := ⟨by rw [← eV1, convV_len, Nat.one_mul], by rw [← eV2, convV_len, Nat.one_mul], by rw [← eV1, ← eV2, ← eq2, ← eq]; exact shift_tail f (by omega)⟩
  have HK1 : Hid (rwE [1, ((n + 1 : Nat) : Int)] (f :: x) [1, 1, (n2 : Int)] y 1 = 0 ∧ rwD [1, ((n + 1 : Nat) : Int)] (f :: x) [1, 1, (n2 : Int)] y 1 = [1, ((q + 1 : Nat) : Int)] ∧ rwV [1, ((n + 1 : Nat) : Int)] (f :: x) [1, 1, (n2 : Int)] y 1 = V1) := by
    have := shift_row (x := f :: x) (y := y) (n := n + 1) (k := n2) (by rw [List.length_cons, HI.out.2.1]) HI.out.2.2.2.2.1 (by omega) (by omega) (by omega)
    rw [eq2, eV1] at this
    exact this
  have HK2 : Hid (rwE [1, (n : Int)] x [1, 1, (n2 : Int)] y 1 = 0 ∧ rwD [1, (n : Int)] x [1, 1, (n2 : Int)] y 1 = [1, (q : Int)] ∧ rwV [1, (n : Int)] x [1, 1, (n2 : Int)] y 1 = V2) := by
    have := shift_row (x := x) (y := y) (n := n) (k := n2) HI.out.2.1 HI.out.2.2.2.2.1 (by omega) (by omega) (by omega)
    rw [eq, eV2] at this
    exact this
  have hq1 : 1 ≤ q ∧ q ≤ 60 := by omega
  have hq' : 1 ≤ (q : Int) ∧ (q : Int) ≤ 60 := by omega
  clear eV1 eV2 eq eq2
  have HC6 : Hid (∀ B W v, B ≤ W.heap.size → Below W1.heap.size W1 W → TnC [1, ((n + 1 : Nat) : Int)] (f :: x) v W → Calls Tryd.prog 12 #[v, .agg #[.slice ps1 ns1 cs1, .slice pt1 nt1 ct1], .int .i64 1] W fun e w' => ∃ u, e = .returned u ∧ TupP B [1, ((q + 1 : Nat) : Int)] V1 0 u w' ∧ Below W.heap.size W w') := fun B W v hB hW hv => by
    have cm := row_tn 1 hv.tn (T1_v1.out.up hW).tn HR.out.2.1 HR.out.2.2.2 HR.out.2.2.1 HI.out.2.2.2.1 (Hid.up_tz hT (bstep HB_W1.out hW))
    rw [HK1.out.1, HK1.out.2.1, HK1.out.2.2] at cm
    refine cm.mono ?_
    rintro e w' ⟨u, rfl, h, hb⟩
    exact ⟨_, rfl, ⟨u, rfl, (h.low hB).own⟩, hb⟩
  have HX6 : Hid (∀ W, Below W1.heap.size W1 W → Nums .i64 W (.slice p n c) x) := fun W hW => HA.out.1.up (bstep HB_W1.out hW)
  obtain ⟨x10, x11, _, _⟩ := X1_v1.out
  have x1z := cell_lt x10
  refine relE [⟨1, 33, LitN [f]⟩, ⟨3, 35, RowR (f :: x)⟩, ⟨4, 36, TnC [1, ((n + 1 : Nat) : Int)] (f :: x)⟩, ⟨6, 38, TupP W1.heap.size [1, ((q + 1 : Nat) : Int)] V1 0⟩, ⟨7, 31, TupP W1.heap.size [1, ((q + 1 : Nat) : Int)] V1 0⟩, ⟨8, 39, OwnT W1.heap.size [1, ((q + 1 : Nat) : Int)] V1⟩, ⟨10, 8, NewC W1.heap.size⟩] 11 72 (by kernel_rfl) rfl rfl 9 _ rfl (by decide) rfl (by kernel_rfl) (by kernel_rfl) (fun _ _ _ _ h => h) (by rfl) ?_ ?_
  · intro e he v W W' h hb
    simp only [List.mem_cons, List.not_mem_nil, or_false] at he
    rcases he with rfl | rfl | rfl | rfl | rfl | rfl | rfl
    · exact LitN.up h hb
    · exact RowR.up h hb
    · exact TnC.up h hb
    · exact TupP.up h hb
    · exact TupP.up h hb
    · exact OwnT.up h hb
    · exact NewC.up h hb
  apply Exists.intro
  refine ⟨?yl6, ?wk6, ?pk6, ?rest6⟩
  case wk6 =>
    intro xz
    simp only [List.take_succ_cons, List.take_zero]
    refine relQuiet rfl rfl ?_
    apply Exists.intro
    refine ⟨fun F hF hf K hK => ?_, ?_⟩
    · have hFc := hF.cell
      have hFf := hF.frozen
      go_big_quiet_op
      first | exact hK | (apply Exists.intro; refine ⟨fun _ => ?_, ?_⟩; (· fail); exact hK)
    (try simp only [Act.put, List.setIfInBounds_toArray, List.set_cons_zero, List.set_cons_succ])
    refine relTold rfl rfl ?_ ?_
    · intro F hF hf d
      have hFc := hF.cell
      have hFf := hF.frozen
      simp [yieldsR, yieldsUpon, go_sem]
      exact ⟨⟨(F d).heap.size, rfl, nums_lit (k := .i64) (F d) [f] 1 (0, 0) rfl⟩, up_alloc _ _⟩
    (try simp only [Act.put, List.setIfInBounds_toArray, List.set_cons_zero, List.set_cons_succ])
    refine relQuiet rfl rfl ?_
    apply Exists.intro
    refine ⟨fun F hF hf K hK => ?_, ?_⟩
    · have hFc := hF.cell
      have hFf := hF.frozen
      go_big_quiet_op
      first | exact hK | (apply Exists.intro; refine ⟨fun _ => ?_, ?_⟩; (· fail); exact hK)
    (try simp only [Act.put, List.setIfInBounds_toArray, List.set_cons_zero, List.set_cons_succ])
    refine relTold rfl rfl ?_ ?_
    · intro F hF hf d
      have hFc := hF.cell
      have hFf := hF.frozen
      have h9 := hf _ List.mem_cons_self (by rfl) d
      obtain ⟨v8, w8, hr8, ho8, hb8⟩ := appF fixT (by decide) 24 (F d) f _ h9 _ _ (HX6.out (F d) (hF.below d)) (by rw [HI.out.2.1]; omega) (by rw [HI.out.2.1]; omega)
      simp [yieldsR, yieldsUpon, execOp, resolve, invoke, builtin, Act.eval, hr8, Result.andThen]
      obtain ⟨p8, n8, c8, rfl, _⟩ := ho8.nums.lst
      exact ⟨⟨p8, n8, c8, rfl, ho8.nums, ho8.cap⟩, hb8⟩
    (try simp only [Act.put, List.setIfInBounds_toArray, List.set_cons_zero, List.set_cons_succ])
    refine relTold rfl rfl ?_ ?_
    · intro F hF hf d
      have hFc := hF.cell
      have hFf := hF.frozen
      have h9 := hf _ (List.mem_cons_of_mem _ List.mem_cons_self) (by rfl) d
      simp [yieldsR, yieldsUpon, go_sem]
      refine (rows_row (f :: x) _ (n + 1) (by rw [List.length_cons, HI.out.2.1]; omega) (by rw [List.length_cons, HI.out.2.1]) (F d) h9).mono ?_
      rintro e' w8 ⟨v8, rfl, h8, hb8⟩
      exact ⟨_, rfl, h8, hb8⟩
    (try simp only [Act.put, List.setIfInBounds_toArray, List.set_cons_zero, List.set_cons_succ])
    refine relQuiet rfl rfl ?_
    apply Exists.intro
    refine ⟨fun F hF hf K hK => ?_, ?_⟩
    · have hFc := hF.cell
      have hFf := hF.frozen
      go_big_quiet_op
      first | exact hK | (apply Exists.intro; refine ⟨fun _ => ?_, ?_⟩; (· fail); exact hK)
    (try simp only [Act.put, List.setIfInBounds_toArray, List.set_cons_zero, List.set_cons_succ])
    refine relTold rfl rfl ?_ ?_
    · intro F hF hf d
      have hFc := hF.cell
      have hFf := hF.frozen
      have h9 := hf _ (List.mem_cons_of_mem _ (List.mem_cons_of_mem _ List.mem_cons_self)) (by rfl) d
      simp [yieldsR, yieldsUpon, go_sem]
      refine (HC6.out W1.heap.size (F d) _ (hF.below d).size (hF.below d) h9).mono ?_
      rintro e' w8 ⟨v8, rfl, h8, hb8⟩
      exact ⟨_, rfl, h8, hb8⟩
    (try simp only [Act.put, List.setIfInBounds_toArray, List.set_cons_zero, List.set_cons_succ])
    refine relTold rfl rfl ?_ ?_
    · intro F hF hf d
      have hFc := hF.cell
      have hFf := hF.frozen
      have h9 := hf _ (List.mem_cons_of_mem _ (List.mem_cons_of_mem _ (List.mem_cons_of_mem _ List.mem_cons_self))) (by rfl) d
      simp [yieldsR, yieldsUpon, go_sem]
      exact ⟨h9, Below.refl _ _⟩
    (try simp only [Act.put, List.setIfInBounds_toArray, List.set_cons_zero, List.set_cons_succ])
    refine relTold rfl rfl ?_ ?_
    · intro F hF hf d
      have hFc := hF.cell
      have hFf := hF.frozen
      have h9 := hf _ (List.mem_cons_of_mem _ (List.mem_cons_of_mem _ (List.mem_cons_of_mem _ (List.mem_cons_of_mem _ List.mem_cons_self)))) (by rfl) d
      obtain ⟨u9, e9, n9⟩ := h9
      simp only [] at e9 n9
      simp [yieldsR, yieldsUpon, go_sem, e9]
      exact ⟨n9, Below.refl _ _⟩
    (try simp only [Act.put, List.setIfInBounds_toArray, List.set_cons_zero, List.set_cons_succ])
    refine relQuiet rfl rfl ?_
    apply Exists.intro
    refine ⟨fun F hF hf K hK => ?_, ?_⟩
    · have hFc := hF.cell
      have hFf := hF.frozen
      have h9 := hf _ (List.mem_cons_of_mem _ (List.mem_cons_of_mem _ (List.mem_cons_of_mem _ (List.mem_cons_of_mem _ List.mem_cons_self)))) (by rfl)
      obtain ⟨u9, e9, _⟩ := h9 w
      simp only [] at e9
      go_big_quiet_op
      first | exact hK | (apply Exists.intro; refine ⟨fun _ => ?_, ?_⟩; (· fail); exact hK)
    (try simp only [Act.put, List.setIfInBounds_toArray, List.set_cons_zero, List.set_cons_succ])
    refine relTold rfl rfl ?_ ?_
    · intro F hF hf d
      have hFc := hF.cell
      have hFf := hF.frozen
      simp [yieldsR, yieldsUpon, go_sem]
      exact ⟨⟨(F d).heap.size, rfl, by show ((F d).heap.push _)[(F d).heap.size]? = _; simp, (hF.below d).size⟩, up_alloc _ _⟩
    (try simp only [Act.put, List.setIfInBounds_toArray, List.set_cons_zero, List.set_cons_succ])
    refine relEnd ?_
    exact rfl
  case pk6 =>
    intro xz
    simp only [putsK, List.foldl_cons, List.foldl_nil, Act.put, List.setIfInBounds_toArray, List.set_cons_zero, List.set_cons_succ]
  case yl6 =>
    intro xz hx
    obtain ⟨W9, u9, e9, _⟩ := hx _ (List.mem_cons_of_mem _ (List.mem_cons_of_mem _ (List.mem_cons_of_mem _ (List.mem_cons_of_mem _ List.mem_cons_self)))) (by rfl)
    simp only [] at e9
    refine ⟨.int .i64 0, fun t ht => ?_, .inl ⟨by rfl, fun w => ?_⟩⟩
    · cases ht
      rfl
    · simp [execOp, Act.eval, e9, go_sem]
  intro z6 xs hBz hf
  simp only [List.drop_succ_cons, List.drop_zero]
  have hT1 := hf _ (List.mem_cons_of_mem _ (List.mem_cons_of_mem _ (List.mem_cons_of_mem _ (List.mem_cons_of_mem _ (List.mem_cons_of_mem _ List.mem_cons_self)))))
  have hN := hf _ (List.mem_cons_of_mem _ (List.mem_cons_of_mem _ (List.mem_cons_of_mem _ (List.mem_cons_of_mem _ (List.mem_cons_of_mem _ (List.mem_cons_of_mem _ List.mem_cons_self))))))
  obtain ⟨ps6, ns6, cs6, pt6, nt6, ct6, ev, o1, o2⟩ := hT1
  obtain ⟨g6, eb, hb1, hb2⟩ := hN
  simp only [] at ev eb
  obtain ⟨y1, e1⟩ : ∃ q, xs 1 = q := ⟨_, rfl⟩
  obtain ⟨y3, e3⟩ : ∃ q, xs 3 = q := ⟨_, rfl⟩
  obtain ⟨y4, e4⟩ : ∃ q, xs 4 = q := ⟨_, rfl⟩
  obtain ⟨y6, e6⟩ : ∃ q, xs 6 = q := ⟨_, rfl⟩
  obtain ⟨y7, e7⟩ : ∃ q, xs 7 = q := ⟨_, rfl⟩
  simp only [ev, eb, e1, e3, e4, e6, e7]
  have cbl := new_cel hb1
  have f1 := o1.off_type hb1 (by decide)
  have f2 := o2.off_type hb1 (by decide)
  obtain ⟨c0_, c1_, c2_, c3_⟩ := cbl
  clear x10 x11 x1z
  go_wp2_with fail
  refine name_world (fun Z6 hZ => ?_)
  have hS : Below W1.heap.size W1 Z6 := by rw [hZ]; exact below_set2 hBz g6 hb2 _ _
  have HB_Z6 : Hid (Below w.heap.size w Z6) := bstep HB_W1.out hS
  have T1_v2 : Hid (TnC [1, 1, (n2 : Int)] y (.agg #[.slice ps1 ns1 cs1, .slice pt1 nt1 ct1]) Z6) := T1_v1.out.up hS
  have X1_v2 : Hid (Cel Z6 w1.heap.size (.slice ps1 ns1 cs1) (.slice pt1 nt1 ct1)) := X1_v1.out.up hS
  clear T1_v1 X1_v1
  have T6_v2 : Hid (TnC [1, ((q + 1 : Nat) : Int)] V1 (.agg #[.slice ps6 ns6 cs6, .slice pt6 nt6 ct6]) Z6) := by show TnC _ _ _ _; rw [hZ]; exact ⟨_, _, _, _, _, _, rfl, (o1.stay (Stay.set2 _ _ _) f1).nums, (o2.stay (Stay.set2 _ _ _) f2).nums, o2.cap⟩
  have X6_v2 : Hid (Cel Z6 g6 (.slice ps6 ns6 cs6) (.slice pt6 nt6 ct6)) := by show Cel _ _ _ _; rw [hZ]; exact (new_cel hb1).set _ _
  clear hZ hS o1 o2 f1 f2 hb1 hb2 hBz hf c0_ c1_ c2_ c3_ ev eb e1 e3 e4 e6 e7 HC6 HX6
  have HC7 : Hid (∀ B W v, B ≤ W.heap.size → Below Z6.heap.size Z6 W → TnC [1, (n : Int)] x v W → Calls Tryd.prog 12 #[v, .agg #[.slice ps1 ns1 cs1, .slice pt1 nt1 ct1], .int .i64 1] W fun e w' => ∃ u, e = .returned u ∧ TupP B [1, (q : Int)] V2 0 u w' ∧ Below W.heap.size W w') := fun B W v hB hW hv => by
    have cm := row_tn 1 hv.tn (T1_v2.out.up hW).tn HR.out.1 HI.out.1 HR.out.2.2.1 HI.out.2.2.2.1 (Hid.up_tz hT (bstep HB_Z6.out hW))
    rw [HK2.out.1, HK2.out.2.1, HK2.out.2.2] at cm
    refine cm.mono ?_
    rintro e w' ⟨u, rfl, h, hb⟩
    exact ⟨_, rfl, ⟨u, rfl, (h.low hB).own⟩, hb⟩
  have HX7 : Hid (∀ W, Below Z6.heap.size Z6 W → Nums .i64 W (.slice p n c) x) := fun W hW => HA.out.1.up (bstep HB_Z6.out hW)
  obtain ⟨x10, x11, _, _⟩ := X1_v2.out
  have x1z := cell_lt x10
  refine relE [⟨1, 43, TnC [1, (n : Int)] x⟩, ⟨3, 45, TupP Z6.heap.size [1, (q : Int)] V2 0⟩, ⟨4, 41, TupP Z6.heap.size [1, (q : Int)] V2 0⟩, ⟨5, 46, OwnT Z6.heap.size [1, (q : Int)] V2⟩, ⟨7, 10, NewC Z6.heap.size⟩] 8 72 (by kernel_rfl) rfl rfl 6 _ rfl (by decide) rfl (by kernel_rfl) (by kernel_rfl) (fun _ _ _ _ h => h) (by rfl) ?_ ?_
  · intro e he v W W' h hb
    simp only [List.mem_cons, List.not_mem_nil, or_false] at he
    rcases he with rfl | rfl | rfl | rfl | rfl
    · exact TnC.up h hb
    · exact TupP.up h hb
    · exact TupP.up h hb
    · exact OwnT.up h hb
    · exact NewC.up h hb
  apply Exists.intro
  refine ⟨?yl7, ?wk7, ?pk7, ?rest7⟩
  case wk7 =>
    intro xz
    simp only [List.take_succ_cons, List.take_zero]
    refine relQuiet rfl rfl ?_
    apply Exists.intro
    refine ⟨fun F hF hf K hK => ?_, ?_⟩
    · have hFc := hF.cell
      have hFf := hF.frozen
      go_big_quiet_op
      first | exact hK | (apply Exists.intro; refine ⟨fun _ => ?_, ?_⟩; (· fail); exact hK)
    (try simp only [Act.put, List.setIfInBounds_toArray, List.set_cons_zero, List.set_cons_succ])
    refine relTold rfl rfl ?_ ?_
    · intro F hF hf d
      have hFc := hF.cell
      have hFf := hF.frozen
      simp [yieldsR, yieldsUpon, go_sem]
      refine (rows_any 1 n x p n c (by omega) (by rw [HI.out.2.1]; omega) HI.out.2.2.1 (by rw [HI.out.2.1, Nat.div_one]) (F d) (HX7.out (F d) (hF.below d))).mono ?_
      rintro e' w8 ⟨v8, rfl, h8, hb8⟩
      exact ⟨_, rfl, h8, hb8⟩
    (try simp only [Act.put, List.setIfInBounds_toArray, List.set_cons_zero, List.set_cons_succ])
    refine relQuiet rfl rfl ?_
    apply Exists.intro
    refine ⟨fun F hF hf K hK => ?_, ?_⟩
    · have hFc := hF.cell
      have hFf := hF.frozen
      go_big_quiet_op
      first | exact hK | (apply Exists.intro; refine ⟨fun _ => ?_, ?_⟩; (· fail); exact hK)
    (try simp only [Act.put, List.setIfInBounds_toArray, List.set_cons_zero, List.set_cons_succ])
    refine relTold rfl rfl ?_ ?_
    · intro F hF hf d
      have hFc := hF.cell
      have hFf := hF.frozen
      have h9 := hf _ List.mem_cons_self (by rfl) d
      simp [yieldsR, yieldsUpon, go_sem]
      refine (HC7.out Z6.heap.size (F d) _ (hF.below d).size (hF.below d) h9).mono ?_
      rintro e' w8 ⟨v8, rfl, h8, hb8⟩
      exact ⟨_, rfl, h8, hb8⟩
    (try simp only [Act.put, List.setIfInBounds_toArray, List.set_cons_zero, List.set_cons_succ])
    refine relTold rfl rfl ?_ ?_
    · intro F hF hf d
      have hFc := hF.cell
      have hFf := hF.frozen
      have h9 := hf _ (List.mem_cons_of_mem _ List.mem_cons_self) (by rfl) d
      simp [yieldsR, yieldsUpon, go_sem]
      exact ⟨h9, Below.refl _ _⟩
    (try simp only [Act.put, List.setIfInBounds_toArray, List.set_cons_zero, List.set_cons_succ])
    refine relTold rfl rfl ?_ ?_
    · intro F hF hf d
      have hFc := hF.cell
      have hFf := hF.frozen
      have h9 := hf _ (List.mem_cons_of_mem _ (List.mem_cons_of_mem _ List.mem_cons_self)) (by rfl) d
      obtain ⟨u9, e9, n9⟩ := h9
      simp only [] at e9 n9
      simp [yieldsR, yieldsUpon, go_sem, e9]
      exact ⟨n9, Below.refl _ _⟩
    (try simp only [Act.put, List.setIfInBounds_toArray, List.set_cons_zero, List.set_cons_succ])
    refine relQuiet rfl rfl ?_
    apply Exists.intro
    refine ⟨fun F hF hf K hK => ?_, ?_⟩
    · have hFc := hF.cell
      have hFf := hF.frozen
      have h9 := hf _ (List.mem_cons_of_mem _ (List.mem_cons_of_mem _ List.mem_cons_self)) (by rfl)
      obtain ⟨u9, e9, _⟩ := h9 w
      simp only [] at e9
      go_big_quiet_op
      first | exact hK | (apply Exists.intro; refine ⟨fun _ => ?_, ?_⟩; (· fail); exact hK)
    (try simp only [Act.put, List.setIfInBounds_toArray, List.set_cons_zero, List.set_cons_succ])
    refine relTold rfl rfl ?_ ?_
    · intro F hF hf d
      have hFc := hF.cell
      have hFf := hF.frozen
      simp [yieldsR, yieldsUpon, go_sem]
      exact ⟨⟨(F d).heap.size, rfl, by show ((F d).heap.push _)[(F d).heap.size]? = _; simp, (hF.below d).size⟩, up_alloc _ _⟩
    (try simp only [Act.put, List.setIfInBounds_toArray, List.set_cons_zero, List.set_cons_succ])
    refine relEnd ?_
    exact rfl
  case pk7 =>
    intro xz
    simp only [putsK, List.foldl_cons, List.foldl_nil, Act.put, List.setIfInBounds_toArray, List.set_cons_zero, List.set_cons_succ]
  case yl7 =>
    intro xz hx
    obtain ⟨W9, u9, e9, _⟩ := hx _ (List.mem_cons_of_mem _ (List.mem_cons_of_mem _ List.mem_cons_self)) (by rfl)
    simp only [] at e9
    refine ⟨.int .i64 0, fun t ht => ?_, .inl ⟨by rfl, fun w => ?_⟩⟩
    · cases ht
      rfl
    · simp [execOp, Act.eval, e9, go_sem]
  intro z7 xs hBz hf
  simp only [List.drop_succ_cons, List.drop_zero]
  have hT1 := hf _ (List.mem_cons_of_mem _ (List.mem_cons_of_mem _ (List.mem_cons_of_mem _ List.mem_cons_self)))
  have hN := hf _ (List.mem_cons_of_mem _ (List.mem_cons_of_mem _ (List.mem_cons_of_mem _ (List.mem_cons_of_mem _ List.mem_cons_self))))
  obtain ⟨ps7, ns7, cs7, pt7, nt7, ct7, ev, o1, o2⟩ := hT1
  obtain ⟨g7, eb, hb1, hb2⟩ := hN
  simp only [] at ev eb
  obtain ⟨y1, e1⟩ : ∃ q, xs 1 = q := ⟨_, rfl⟩
  obtain ⟨y3, e3⟩ : ∃ q, xs 3 = q := ⟨_, rfl⟩
  obtain ⟨y4, e4⟩ : ∃ q, xs 4 = q := ⟨_, rfl⟩
  simp only [ev, eb, e1, e3, e4]
  have cbl := new_cel hb1
  have f1 := o1.off_type hb1 (by decide)
  have f2 := o2.off_type hb1 (by decide)
  obtain ⟨c0_, c1_, c2_, c3_⟩ := cbl
  clear x10 x11 x1z
  go_wp2_with fail
  refine name_world (fun Z7 hZ => ?_)
  have hS : Below Z6.heap.size Z6 Z7 := by rw [hZ]; exact below_set2 hBz g7 hb2 _ _
  have HB_Z7 : Hid (Below w.heap.size w Z7) := bstep HB_Z6.out hS
  have T1_v3 : Hid (TnC [1, 1, (n2 : Int)] y (.agg #[.slice ps1 ns1 cs1, .slice pt1 nt1 ct1]) Z7) := T1_v2.out.up hS
  have X1_v3 : Hid (Cel Z7 w1.heap.size (.slice ps1 ns1 cs1) (.slice pt1 nt1 ct1)) := X1_v2.out.up hS
  have T6_v3 : Hid (TnC [1, ((q + 1 : Nat) : Int)] V1 (.agg #[.slice ps6 ns6 cs6, .slice pt6 nt6 ct6]) Z7) := T6_v2.out.up hS
  have X6_v3 : Hid (Cel Z7 g6 (.slice ps6 ns6 cs6) (.slice pt6 nt6 ct6)) := X6_v2.out.up hS
  clear T1_v2 X1_v2 T6_v2 X6_v2
  have T7_v3 : Hid (TnC [1, (q : Int)] V2 (.agg #[.slice ps7 ns7 cs7, .slice pt7 nt7 ct7]) Z7) := by show TnC _ _ _ _; rw [hZ]; exact ⟨_, _, _, _, _, _, rfl, (o1.stay (Stay.set2 _ _ _) f1).nums, (o2.stay (Stay.set2 _ _ _) f2).nums, o2.cap⟩
  have X7_v3 : Hid (Cel Z7 g7 (.slice ps7 ns7 cs7) (.slice pt7 nt7 ct7)) := by show Cel _ _ _ _; rw [hZ]; exact (new_cel hb1).set _ _
  clear hZ hS o1 o2 f1 f2 hb1 hb2 hBz hf c0_ c1_ c2_ c3_ ev eb e1 e3 e4 HC7 HX7
  have hnt : q + 1 = nt6 := by
    obtain ⟨_, _, _, _, _, _, e9, _, hn9, _⟩ := T6_v3.out
    cases e9
    obtain ⟨_, _, _, e8, HXq⟩ := hn9.lst
    cases e8
    rw [← HXq.out.1]
    exact HV.out.1.symm
  have hnu : q = nt7 := by
    obtain ⟨_, _, _, _, _, _, e9, _, hn9, _⟩ := T7_v3.out
    cases e9
    obtain ⟨_, _, _, e8, HXq⟩ := hn9.lst
    cases e8
    rw [← HXq.out.1]
    exact HV.out.2.1.symm
  subst hnt
  subst hnu
  have hc6 : q + 1 ≤ ct6 := by
    obtain ⟨_, _, _, _, _, _, e9, _, _, h9⟩ := T6_v3.out
    cases e9
    exact h9
  have kcut : ∀ W, Sem.run Tryd.prog (Instr.slice 24 (.slice pt6 (q + 1) ct6) (some (.int .i64 1)) none none) W = .ok (sliced pt6 1 (q + 1) ct6 1) W := fun W => cutF_l pt6 (q + 1) ct6 1 (by omega) W
  obtain ⟨pc, epc⟩ := sliced_is pt6 1 (q + 1) ct6
  rw [show q + 1 - 1 = q by omega] at epc
  have HCu : Hid (∀ W, Below Z7.heap.size Z7 W → Nums .i64 W (.slice pc q (ct6 - 1)) V2) := fun W hW => by
    obtain ⟨_, _, _, _, _, _, e9, _, hn9, h9⟩ := T6_v3.out
    cases e9
    have hc := cut_nums (i := 1) (j := q + 1) (by omega) (Nat.le_refl _) HV.out.1 hc6 (hn9.up hW)
    rw [epc, show q + 1 - 1 = q by omega, HV.out.2.2, List.take_of_length_le (Nat.le_of_eq HV.out.2.1)] at hc
    exact hc
  rw [epc] at kcut
  have HRw : Hid (∀ W, Below Z7.heap.size Z7 W → Calls Tryd.prog 10 #[.int .i64 1, .slice pc q (ct6 - 1)] W fun e w' => ∃ v, e = .returned v ∧ TnC [1, (q : Int)] V2 v w' ∧ Below W.heap.size W w') := fun W hW => rows_any 1 q V2 pc q (ct6 - 1) (by omega) (by rw [HV.out.2.1]; omega) (by omega) (by rw [HV.out.2.1, Nat.div_one]) W (HCu.out W hW)
  have HS : Hid (∀ W v, Below Z7.heap.size Z7 W → TnC [1, (q : Int)] V2 v W → Calls Tryd.prog 16 #[v, .agg #[.slice ps7 ns7 cs7, .slice pt7 q ct7]] W fun e w' => e = .returned (.bool true) ∧ Below W.heap.size W w') := fun W v hW hv => by
    have := alike_tn hv.tn (T7_v3.out.tn.up hW) (by unfold Few; simp) (by unfold Few; rw [HV.out.2.1]; omega)
    rw [decide_eq_true ⟨rfl, rfl⟩] at this
    exact this
  have heq : (((q + 1 : Nat) : Int) == (q : Int) + 1) = true := by simp
  have hqq : ((q + 1 : Nat) : Int) = (q : Int) + 1 := by push_cast; rfl
  have hc6' : (q : Int) + 1 ≤ (ct6 : Int) := by omega
  have X6q := X6_v3.out
  obtain ⟨x60, x61, _, _⟩ := X6q
  have x6z := cell_lt x60
  obtain ⟨x70, x71, _, _⟩ := X7_v3.out
  have x7z := cell_lt x70
  clear T1_v3 X1_v3 T6_v3 X6_v3 T7_v3 X7_v3
  refine rel [⟨20, 68, TnC [1, (q : Int)] V2⟩] 24 72 (by kernel_rfl) rfl rfl (by kernel_rfl) (by rfl) ?_ ?_
  · intro e he v W W' h hb
    simp only [List.mem_cons, List.not_mem_nil, or_false] at he
    rcases he with rfl
    exact TnC.up h hb
  apply Exists.intro
  refine ⟨fun x => ?_, ?_, ?_⟩
  · simp only [List.take_succ_cons, List.take_zero]
    refine relQuiet rfl rfl ?_
    apply Exists.intro
    refine ⟨fun F hF hf K hK => ?_, ?_⟩
    · have hFc := hF.cell
      have hFf := hF.frozen
      go_big_quiet_op
      first | exact hK | (apply Exists.intro; refine ⟨fun _ => ?_, ?_⟩; (· fail); exact hK)
    (try simp only [Act.put, List.setIfInBounds_toArray, List.set_cons_zero, List.set_cons_succ])
    refine relQuiet rfl rfl ?_
    apply Exists.intro
    refine ⟨fun F hF hf K hK => ?_, ?_⟩
    · have hFc := hF.cell
      have hFf := hF.frozen
      go_big_quiet_op
      first | exact hK | (apply Exists.intro; refine ⟨fun _ => ?_, ?_⟩; (· fail); exact hK)
    (try simp only [Act.put, List.setIfInBounds_toArray, List.set_cons_zero, List.set_cons_succ])
    refine relQuiet rfl rfl ?_
    apply Exists.intro
    refine ⟨fun F hF hf K hK => ?_, ?_⟩
    · have hFc := hF.cell
      have hFf := hF.frozen
      go_big_quiet_op
      first | exact hK | (apply Exists.intro; refine ⟨fun _ => ?_, ?_⟩; (· fail); exact hK)
    (try simp only [Act.put, List.setIfInBounds_toArray, List.set_cons_zero, List.set_cons_succ])
    refine relQuiet rfl rfl ?_
    apply Exists.intro
    refine ⟨fun F hF hf K hK => ?_, ?_⟩
    · have hFc := hF.cell
      have hFf := hF.frozen
      go_big_quiet_op
      first | exact hK | (apply Exists.intro; refine ⟨fun _ => ?_, ?_⟩; (· fail); exact hK)
    (try simp only [Act.put, List.setIfInBounds_toArray, List.set_cons_zero, List.set_cons_succ])
    refine relQuiet rfl rfl ?_
    apply Exists.intro
    refine ⟨fun F hF hf K hK => ?_, ?_⟩
    · have hFc := hF.cell
      have hFf := hF.frozen
      go_big_quiet_op
      first | exact hK | (apply Exists.intro; refine ⟨fun _ => ?_, ?_⟩; (· fail); exact hK)
    (try simp only [Act.put, List.setIfInBounds_toArray, List.set_cons_zero, List.set_cons_succ])
    refine relQuiet rfl rfl ?_
    apply Exists.intro
    refine ⟨fun F hF hf K hK => ?_, ?_⟩
    · have hFc := hF.cell
      have hFf := hF.frozen
      go_big_quiet_op
      first | exact hK | (apply Exists.intro; refine ⟨fun _ => ?_, ?_⟩; (· fail); exact hK)
    (try simp only [Act.put, List.setIfInBounds_toArray, List.set_cons_zero, List.set_cons_succ])
    refine relQuiet rfl rfl ?_
    apply Exists.intro
    refine ⟨fun F hF hf K hK => ?_, ?_⟩
    · have hFc := hF.cell
      have hFf := hF.frozen
      go_big_quiet_op
      first | exact hK | (apply Exists.intro; refine ⟨fun _ => ?_, ?_⟩; (· fail); exact hK)
    (try simp only [Act.put, List.setIfInBounds_toArray, List.set_cons_zero, List.set_cons_succ])
    refine relQuiet rfl rfl ?_
    apply Exists.intro
    refine ⟨fun F hF hf K hK => ?_, ?_⟩
    · have hFc := hF.cell
      have hFf := hF.frozen
      go_big_quiet_op
      first | exact hK | (apply Exists.intro; refine ⟨fun _ => ?_, ?_⟩; (· fail); exact hK)
    (try simp only [Act.put, List.setIfInBounds_toArray, List.set_cons_zero, List.set_cons_succ])
    refine relQuiet rfl rfl ?_
    apply Exists.intro
    refine ⟨fun F hF hf K hK => ?_, ?_⟩
    · have hFc := hF.cell
      have hFf := hF.frozen
      go_big_quiet_op
      first | exact hK | (apply Exists.intro; refine ⟨fun _ => ?_, ?_⟩; (· fail); exact hK)
    (try simp only [Act.put, List.setIfInBounds_toArray, List.set_cons_zero, List.set_cons_succ])
    refine relQuiet rfl rfl ?_
    apply Exists.intro
    refine ⟨fun F hF hf K hK => ?_, ?_⟩
    · have hFc := hF.cell
      have hFf := hF.frozen
      go_big_quiet_op
      first | exact hK | (apply Exists.intro; refine ⟨fun _ => ?_, ?_⟩; (· fail); exact hK)
    (try simp only [Act.put, List.setIfInBounds_toArray, List.set_cons_zero, List.set_cons_succ])
    refine relQuiet rfl rfl ?_
    apply Exists.intro
    refine ⟨fun F hF hf K hK => ?_, ?_⟩
    · have hFc := hF.cell
      have hFf := hF.frozen
      go_big_quiet_op
      first | exact hK | (apply Exists.intro; refine ⟨fun _ => ?_, ?_⟩; (· fail); exact hK)
    (try simp only [Act.put, List.setIfInBounds_toArray, List.set_cons_zero, List.set_cons_succ])
    refine relQuiet rfl rfl ?_
    apply Exists.intro
    refine ⟨fun F hF hf K hK => ?_, ?_⟩
    · have hFc := hF.cell
      have hFf := hF.frozen
      go_big_quiet_op
      first | exact hK | (apply Exists.intro; refine ⟨fun _ => ?_, ?_⟩; (· fail); exact hK)
    (try simp only [Act.put, List.setIfInBounds_toArray, List.set_cons_zero, List.set_cons_succ])
    refine relQuiet rfl rfl ?_
    apply Exists.intro
    refine ⟨fun F hF hf K hK => ?_, ?_⟩
    · have hFc := hF.cell
      have hFf := hF.frozen
      go_big_quiet_op
      first | exact hK | (apply Exists.intro; refine ⟨fun _ => ?_, ?_⟩; (· fail); exact hK)
    (try simp only [Act.put, List.setIfInBounds_toArray, List.set_cons_zero, List.set_cons_succ])
    refine relQuiet rfl rfl ?_
    apply Exists.intro
    refine ⟨fun F hF hf K hK => ?_, ?_⟩
    · have hFc := hF.cell
      have hFf := hF.frozen
      go_big_quiet_op
      first | exact hK | (apply Exists.intro; refine ⟨fun _ => ?_, ?_⟩; (· fail); exact hK)
    (try simp only [Act.put, List.setIfInBounds_toArray, List.set_cons_zero, List.set_cons_succ])
    refine relQuiet rfl rfl ?_
    apply Exists.intro
    refine ⟨fun F hF hf K hK => ?_, ?_⟩
    · have hFc := hF.cell
      have hFf := hF.frozen
      go_big_quiet_op
      first | exact hK | (apply Exists.intro; refine ⟨fun _ => ?_, ?_⟩; (· fail); exact hK)
    (try simp only [Act.put, List.setIfInBounds_toArray, List.set_cons_zero, List.set_cons_succ])
    refine relQuiet rfl rfl ?_
    apply Exists.intro
    refine ⟨fun F hF hf K hK => ?_, ?_⟩
    · have hFc := hF.cell
      have hFf := hF.frozen
      go_big_quiet_op
      first | exact hK | (apply Exists.intro; refine ⟨fun _ => ?_, ?_⟩; (· fail); exact hK)
    (try simp only [Act.put, List.setIfInBounds_toArray, List.set_cons_zero, List.set_cons_succ])
    refine relQuiet rfl rfl ?_
    apply Exists.intro
    refine ⟨fun F hF hf K hK => ?_, ?_⟩
    · have hFc := hF.cell
      have hFf := hF.frozen
      go_big_quiet_op
      first | exact hK | (apply Exists.intro; refine ⟨fun _ => ?_, ?_⟩; (· fail); exact hK)
    (try simp only [Act.put, List.setIfInBounds_toArray, List.set_cons_zero, List.set_cons_succ])
    refine relQuiet rfl rfl ?_
    apply Exists.intro
    refine ⟨fun F hF hf K hK => ?_, ?_⟩
    · have hFc := hF.cell
      have hFf := hF.frozen
      go_big_quiet_op
      first | exact hK | (apply Exists.intro; refine ⟨fun _ => ?_, ?_⟩; (· fail); exact hK)
    (try simp only [Act.put, List.setIfInBounds_toArray, List.set_cons_zero, List.set_cons_succ])
    refine relQuiet rfl rfl ?_
    apply Exists.intro
    refine ⟨fun F hF hf K hK => ?_, ?_⟩
    · have hFc := hF.cell
      have hFf := hF.frozen
      go_big_quiet_op
      first | exact hK | (apply Exists.intro; refine ⟨fun _ => ?_, ?_⟩; (· fail); exact hK)
    (try simp only [Act.put, List.setIfInBounds_toArray, List.set_cons_zero, List.set_cons_succ])
    refine relQuiet rfl rfl ?_
    apply Exists.intro
    refine ⟨fun F hF hf K hK => ?_, ?_⟩
    · have hFc := hF.cell
      have hFf := hF.frozen
      go_big_quiet_op
      first | exact hK | (apply Exists.intro; refine ⟨fun _ => ?_, ?_⟩; (· fail); exact hK)
    (try simp only [Act.put, List.setIfInBounds_toArray, List.set_cons_zero, List.set_cons_succ])
    refine relTold rfl rfl ?_ ?_
    · intro F hF hf d
      have hFc := hF.cell
      have hFf := hF.frozen
      simp [yieldsR, yieldsUpon, go_sem]
      refine (HRw.out (F d) (hF.below d)).mono ?_
      rintro e' w8 ⟨v8, rfl, h8, hb8⟩
      exact ⟨_, rfl, h8, hb8⟩
    (try simp only [Act.put, List.setIfInBounds_toArray, List.set_cons_zero, List.set_cons_succ])
    refine relQuiet rfl rfl ?_
    apply Exists.intro
    refine ⟨fun F hF hf K hK => ?_, ?_⟩
    · have hFc := hF.cell
      have hFf := hF.frozen
      go_big_quiet_op
      first | exact hK | (apply Exists.intro; refine ⟨fun _ => ?_, ?_⟩; (· fail); exact hK)
    (try simp only [Act.put, List.setIfInBounds_toArray, List.set_cons_zero, List.set_cons_succ])
    refine relQuiet rfl rfl ?_
    apply Exists.intro
    refine ⟨fun F hF hf K hK => ?_, ?_⟩
    · have hFc := hF.cell
      have hFf := hF.frozen
      go_big_quiet_op
      first | exact hK | (apply Exists.intro; refine ⟨fun _ => ?_, ?_⟩; (· exact hF.call (HS.out _ _ (hF.below _) (hf _ List.mem_cons_self (by rfl) _))); exact hK)
    (try simp only [Act.put, List.setIfInBounds_toArray, List.set_cons_zero, List.set_cons_succ])
    refine relQuiet rfl rfl ?_
    apply Exists.intro
    refine ⟨fun F hF hf K hK => ?_, ?_⟩
    · have hFc := hF.cell
      have hFf := hF.frozen
      go_big_quiet_op
      first | exact hK | (apply Exists.intro; refine ⟨fun _ => ?_, ?_⟩; (· fail); exact hK)
    (try simp only [Act.put, List.setIfInBounds_toArray, List.set_cons_zero, List.set_cons_succ])
    refine relEnd ?_
    exact rfl
  · exact fun x => rfl
  · intro w9 xs hB9 hf
    simp only [List.drop_succ_cons, List.drop_zero]
    have HB9 : Hid (Below w.heap.size w w9) := bstep HB_Z7.out hB9
    clear hf hB9
    go_wp2
    go_ret
    exact ⟨rfl, HB9.out⟩
end Go.Proofs.YtnicknnhboanoaaDoor.Wd
