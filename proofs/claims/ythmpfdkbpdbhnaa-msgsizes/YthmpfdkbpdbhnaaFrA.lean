/- The program's frames: Good, Encode, Decode. -/
import Derived.Test.YthmpfdkbpdbhnaaFrN
import Derived.Test.YthmpfdkbpdbhnaaFrQ
import Derived.Test.YthmpfdkbpdbhnaaCrcC
namespace Go.Proofs.Ythmpfdkbpdbhnaa.Wd
open Go.RowKit
set_option linter.unusedVariables false
set_option linter.unusedSimpArgs false
set_option maxRecDepth 8000
set_option maxHeartbeats 4000000
theorem fwork_any (v : Int) (z : Bool) (ez : decide (0 ≤ v ∧ v ≤ 15) = z) (w : World) : Calls Try.prog 50 #[.int .i64 v] w fun e w' => e = .returned (.bool z) ∧ w' = w := by
  have HZ : Hid (decide (0 ≤ v ∧ v ≤ 15) = z) := ez
  clear ez
  go_enter Try.func50, Try.ntmps50
  by_cases h1 : 0 ≤ v
  · by_cases h2 : v < 16
    · go_wp2
      go_ret
      exact ⟨by rw [← HZ.out, decide_eq_true ⟨h1, by omega⟩]; rfl, rfl⟩
    · have h2' : 16 ≤ v := by omega
      go_wp2
      go_ret
      exact ⟨by rw [← HZ.out, decide_eq_false fun h => by omega]; rfl, rfl⟩
  · have h1' : v < 0 := by omega
    go_wp2
    go_ret
    exact ⟨by rw [← HZ.out, decide_eq_false fun h => by omega]; rfl, rfl⟩
theorem pfgood_any (k f t v s : Int) (p : Option Addr) (n c : Nat) (w : World) :
    Calls Try.prog 27 #[.agg #[.int .i64 k, .int .i64 f, .int .i64 t, .int .u32 v, .int .u32 s, .slice p n c]] w fun e w' => e = .returned (.bool (decide (goodF k f t n))) ∧ Below w.heap.size w w' := by
  obtain ⟨r, er⟩ : ∃ r, decide (goodF k f t n) = r := ⟨_, rfl⟩
  obtain ⟨z2, e2⟩ : ∃ z, decide (0 ≤ f ∧ f ≤ 15) = z := ⟨_, rfl⟩
  obtain ⟨z3, e3⟩ : ∃ z, decide (0 ≤ t ∧ t ≤ 15) = z := ⟨_, rfl⟩
  have c2 := fun W => fwork_any f z2 e2 W
  have c3 := fun W => fwork_any t z3 e3 W
  have HZ : Hid (r = (((decide (1 ≤ k ∧ k ≤ 20) && z2) && z3) && decide (n ≤ 16384))) := by
    show _ = _
    rw [← er, ← e2, ← e3]
    simp only [← Bool.decide_and]
    exact decide_eq_decide.2 (by unfold goodF; omega)
  rw [er]
  clear er e2 e3
  by_cases h1 : 1 ≤ k
  case neg =>
    have h1' : k < 1 := by omega
    rw [decide_eq_false (show ¬ (1 ≤ k ∧ k ≤ 20) by omega)] at HZ
    go_enter Try.func27, Try.ntmps27
    go_wp2
    go_ret
    exact ⟨by rw [HZ.out]; rfl, up_alloc _ _⟩
  by_cases h2 : k ≤ 20
  case neg =>
    have h2' : 20 < k := by omega
    rw [decide_eq_false (show ¬ (1 ≤ k ∧ k ≤ 20) by omega)] at HZ
    go_enter Try.func27, Try.ntmps27
    go_wp2
    go_ret
    exact ⟨by rw [HZ.out]; rfl, up_alloc _ _⟩
  rw [decide_eq_true (show 1 ≤ k ∧ k ≤ 20 from ⟨h1, h2⟩)] at HZ
  go_enter Try.func27, Try.ntmps27
  go_wp2_with fail
  refine (c2 _).mono ?_
  rintro e w1 ⟨rfl, rfl⟩
  cases z2 with
  | false =>
    go_wp2
    go_ret
    exact ⟨by rw [HZ.out]; rfl, up_alloc _ _⟩
  | true =>
    go_wp2_with fail
    refine (c3 _).mono ?_
    rintro e w1 ⟨rfl, rfl⟩
    cases z3 with
    | false =>
      go_wp2
      go_ret
      exact ⟨by rw [HZ.out]; rfl, up_alloc _ _⟩
    | true =>
      go_wp2
      go_ret
      exact ⟨by rw [HZ.out, decide_eq_decide.2 (show ((n : Int) ≤ 16384) ↔ n ≤ 16384 by omega)]; rfl, up_alloc _ _⟩
theorem pfenc_any (k f t v s : Int) (p : Option Addr) (n c : Nat) (b : List Int) (hv : 0 ≤ v ∧ v < 4294967296) (hs : 0 ≤ s ∧ s < 4294967296) (hb : By8 b) (w : World) (hB : Bytes w (.slice p n c) b) (hn : b.length = n) :
    Calls Try.prog 24 #[.agg #[.int .i64 k, .int .i64 f, .int .i64 t, .int .u32 v, .int .u32 s, .slice p n c]] w fun e w' => ∃ v', e = .returned v' ∧ Own8 w' w.heap.size v' (encF k f t v s b) ∧ Below w.heap.size w w' := by
  haveI : Nonempty World := ⟨w⟩
  have cg := fun W => pfgood_any k f t v s p n c W
  by_cases hg : goodF k f t n
  case neg =>
    rw [decide_eq_false hg] at cg
    have HE : Hid (encF k f t v s b = []) := if_neg (by rw [hn]; exact hg)
    rw [HE.out]
    clear hg hB
    go_enter Try.func24, Try.ntmps24
    go_wp2_with fail
    refine (cg _).mono ?_
    rintro e w1 ⟨rfl, hB1⟩
    have HB1 : Hid (Below w.heap.size w w1) := bstep (up_alloc w _) hB1
    clear hB1 cg
    go_wp2
    exact bodyPost_ret (v := .slice none 0 0) (by simp [results, Try.results24, go_sem]) rfl ⟨_, rfl, ⟨rfl, .inl ⟨rfl, rfl⟩⟩, HB1.out⟩
  rw [decide_eq_true hg] at cg
  obtain ⟨L, eL⟩ : ∃ L, encF k f t v s b = L := ⟨_, rfl⟩
  have HE : Hid (encL k f t v s b = L ∧ n ≤ 16384 ∧ b.length = n ∧ Bytes w (.slice p n c) b ∧ By8 b ∧ By8 (hF k f t v s b)) := by
    obtain ⟨g1, g2, g3⟩ := good_by hg
    exact ⟨by rw [← eL]; exact (if_pos (by rw [hn]; exact hg)).symm, hg.2.2.2, hn, hB, hb, hF_by g1 g2 g3 hb⟩
  rw [eL]
  have k1 : k % 256 = k := by have := hg.1; omega
  have k2 : f % 256 = f := by have := hg.2.1; omega
  have k3 : t % 256 = t := by have := hg.2.2.1; omega
  have hn2 : n ≤ 16384 := hg.2.2.2
  clear hg eL hB hb
  go_enter Try.func24, Try.ntmps24
  go_wp2_with fail
  refine (cg _).mono ?_
  rintro e w1 ⟨rfl, hB1⟩
  have hBw : Below w.heap.size w w1 := bstep (up_alloc w _) hB1
  obtain ⟨x0, x1, x2, x3, x4, x5⟩ : w1.cell? ⟨w.heap.size, 0, none⟩ = some (.int .i64 k) ∧ w1.cell? ⟨w.heap.size, 1, none⟩ = some (.int .i64 f) ∧ w1.cell? ⟨w.heap.size, 2, none⟩ = some (.int .i64 t) ∧ w1.cell? ⟨w.heap.size, 3, none⟩ = some (.int .u32 v) ∧ w1.cell? ⟨w.heap.size, 4, none⟩ = some (.int .u32 s) ∧ w1.cell? ⟨w.heap.size, 5, none⟩ = some (.slice p n c) := by
    have g : ∀ j u, (w.alloc (.cells #[.int .i64 k, .int .i64 f, .int .i64 t, .int .u32 v, .int .u32 s, .slice p n c] 49)).cell? ⟨w.heap.size, j, none⟩ = some u → w1.cell? ⟨w.heap.size, j, none⟩ = some u := fun j u h => still_cell hB1 h
    exact ⟨g 0 _ (by simp [go_sem]), g 1 _ (by simp [go_sem]), g 2 _ (by simp [go_sem]), g 3 _ (by simp [go_sem]), g 4 _ (by simp [go_sem]), g 5 _ (by simp [go_sem])⟩
  have kx := cell_lt x0
  have HB1 : Hid (Below w.heap.size w w1) := hBw
  clear hB1 hBw cg
  go_wp2_with fail
  generalize hW2 : World.alloc _ _ = W2
  have H2 : Hid (Below w.heap.size w W2 ∧ Below w1.heap.size w1 W2 ∧ Bytes W2 (.slice (some ⟨w1.heap.size, 0, none⟩) 5 5) [82, 1, k, f, t]) := by
    rw [← hW2]
    exact ⟨bstep HB1.out (up_alloc _ _), up_alloc _ _, lit8 w1 [82, 1, k, f, t] 5 (0, 0) rfl⟩
  replace x4 := still_cell H2.out.2.1 x4
  replace x5 := still_cell H2.out.2.1 x5
  replace kx := cell_lt x4
  clear hW2 x0 x1 x2 x3 HB1
  refine (pu32_any _ [82, 1, k, f, t] (by simp) v hv W2 H2.out.2.2).mono ?_
  rintro e W3 ⟨v3, rfl, ho3, hb3⟩
  have H3 : Hid (Below w.heap.size w W3 ∧ Own8 W3 W2.heap.size v3 ([82, 1, k, f, t] ++ be 4 v)) := ⟨bstep H2.out.1 hb3, ho3⟩
  replace x4 := still_cell hb3 x4
  replace x5 := still_cell hb3 x5
  replace kx := cell_lt x4
  clear ho3 hb3 H2
  go_wp2_with fail
  refine (pu32_any v3 _ (by simp [be_len]) s hs W3 H3.out.2.bytes).mono ?_
  rintro e W4 ⟨v4, rfl, ho4, hb4⟩
  have H4 : Hid (Below w.heap.size w W4 ∧ Own8 W4 W3.heap.size v4 ([82, 1, k, f, t] ++ be 4 v ++ be 4 s)) := ⟨bstep H3.out.1 hb4, ho4⟩
  replace x5 := still_cell hb4 x5
  replace kx := cell_lt x5
  clear ho4 hb4 H3 x4
  go_wp2_with fail
  refine (pu16_any v4 _ (by simp [be_len]) (n : Int) (by omega) W4 H4.out.2.bytes).mono ?_
  rintro e W5 ⟨v5, rfl, ho5, hb5⟩
  have H5 : Hid (Below w.heap.size w W5 ∧ Own8 W5 W4.heap.size v5 ([82, 1, k, f, t] ++ be 4 v ++ be 4 s ++ be 2 (n : Int)) ∧ Below W4.heap.size W4 W5 ∧ Bytes W5 (.slice p n c) b ∧ Below w.heap.size w W4) := ⟨bstep H4.out.1 hb5, ho5, hb5, HE.out.2.2.2.1.up (bstep H4.out.1 hb5), H4.out.1⟩
  have hl5 : ([82, 1, k, f, t] ++ be 4 v ++ be 4 s ++ be 2 (n : Int)).length + b.length ≤ 1073741824 := by rw [HE.out.2.2.1]; simp [be_len]; omega
  replace x5 := still_cell hb5 x5
  replace kx := cell_lt x5
  clear ho5 hb5 H4
  go_wp2_with (at_builtin; refine wpList_append8 rfl (.tmp 30) (.tmp 32) rfl W4.heap.size _ _ rfl H5.out.2.1 _ b rfl H5.out.2.2.2.1 hl5 H5.out.2.2.1.size W4 H5.out.2.2.1 ?_; intro v6 W6 HO6 B6; have HB6 := hid2 B6 B6; clear B6)
  have H6 : Hid (Own8 W6 W4.heap.size v6 (hF k f t v s b) ∧ Below w.heap.size w W6) := ⟨by
    have := HO6.out
    rw [show hF k f t v s b = [82, 1, k, f, t] ++ be 4 v ++ be 4 s ++ be 2 (n : Int) ++ b by simp [hF, HE.out.2.2.1]]
    exact this, bstep H5.out.2.2.2.2 HB6.out.1⟩
  clear HO6 hl5 H5 HB6
  have cr := of_any v6 (hF k f t v s b) HE.out.2.2.2.2.2 (by rw [hF_len, HE.out.2.2.1]; omega) W6 H6.out.1.bytes
  refine cr.mono ?_
  rintro e w7 ⟨rfl, rfl⟩
  clear cr x5 kx
  go_wp2_with fail
  have hcl := crc_lt _ HE.out.2.2.2.2.2
  refine (pu32_any v6 (hF k f t v s b) (by rw [hF_len, HE.out.2.2.1]; omega) _ (by omega) w7 H6.out.1.bytes).mono ?_
  rintro e w8 ⟨v8, rfl, ho8, hb8⟩
  have H8 : Hid (Own8 w8 w.heap.size v8 L ∧ Below w.heap.size w w8) := by
    have h8 : Below w.heap.size w w7 := H6.out.2
    refine ⟨?_, bstep h8 hb8⟩
    rw [← HE.out.1]
    exact ho8.low h8.size
  clear ho8 hb8 hcl
  go_wp2
  exact bodyPost_ret (v := v8) (by simp [results, Try.results24, go_sem]) rfl ⟨_, rfl, H8.out⟩
theorem pequal_any (a b : Value) (la lb : List Int) (ha : By8 la) (hb : By8 lb) (w : World) (hA : Bytes w a la) (hB : Bytes w b lb) :
    Calls Try.prog 39 #[a, b] w fun e w' => e = .returned (.bool (decide (la = lb))) ∧ w' = w := by
  have c1 := conv_any hA ha
  have c2 := conv_any hB hb
  have hq := str_eq ha hb
  obtain ⟨z, ez⟩ : ∃ z, decide (la = lb) = z := ⟨_, rfl⟩
  rw [ez] at hq ⊢
  clear hA hB ha hb ez
  go_enter Try.func39, Try.ntmps39
  go_wp2
  go_ret
  exact ⟨rfl, rfl⟩
end Go.Proofs.Ythmpfdkbpdbhnaa.Wd
