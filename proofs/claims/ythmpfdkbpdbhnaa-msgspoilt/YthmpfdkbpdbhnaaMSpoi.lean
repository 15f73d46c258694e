/- MsgSpoilt: a message's bytes with one changed are none. -/
import Derived.Test.YthmpfdkbpdbhnaaMsW
import Derived.Test.YthmpfdkbpdbhnaaMsO
namespace Go.Proofs.Ythmpfdkbpdbhnaa.Wd
open Go.RowKit
set_option linter.unusedVariables false
set_option linter.unusedSimpArgs false
set_option maxRecDepth 20000
set_option maxHeartbeats 8000000
theorem mspoi_walk (w : World) (k1 f1 t1 v1 s1 : Int) (z1 : Nat → Int) (n1 cn1 : Nat) (pn1 : Option Addr) (V1 : List Int) (m1 cv1 : Nat) (pv1 : Option Addr) (at_ by_ : Int)
    (hv1 : 0 ≤ v1 ∧ v1 < 4294967296) (hs1 : 0 ≤ s1 ∧ s1 < 4294967296) (hr1 : RowN .i64 w pn1 n1 cn1 z1) (hw1 : WdsN w pv1 m1 cv1 V1) (hat_ : -9223372036854775808 ≤ at_ ∧ at_ ≤ 9223372036854775807) (hby_ : 0 ≤ by_ ∧ by_ ≤ 255) :
    Calls Try.prog 6 #[MsV k1 f1 t1 v1 s1 (.slice pn1 n1 cn1) (.slice pv1 m1 cv1), .int .i64 at_, .int .u8 by_] w fun e w' => e = .returned (.bool true) ∧ Below w.heap.size w w' := by
  haveI : Nonempty World := ⟨w⟩
  obtain ⟨N1, eN1⟩ : ∃ l, nlst n1 z1 = l := ⟨_, rfl⟩
  have HR1 : Hid (MsgR w pn1 n1 cn1 pv1 m1 cv1 N1 V1 ∧ (0 ≤ v1 ∧ v1 < 4294967296) ∧ (0 ≤ s1 ∧ s1 < 4294967296)) := ⟨by rw [← eN1]; exact msgR_in hr1 hw1, hv1, hs1⟩
  clear eN1 hr1 hw1 hv1 hs1
  have HBY : Hid (0 ≤ by_ ∧ by_ < 256) := ⟨hby_.1, by omega⟩
  clear hby_ hat_
  go_enter Try.func6, Try.ntmps6
  go_wp2_with fail
  generalize hW0 : World.alloc _ _ = W0
  have H0 : Hid (Below w.heap.size w W0 ∧ W0.heap[w.heap.size]? = some (.cells #[.int .i64 k1, .int .i64 f1, .int .i64 t1, .int .u32 v1, .int .u32 s1, .slice pn1 n1 cn1, .slice pv1 m1 cv1] 27 (0, 0))) := by
    rw [← hW0]
    exact ⟨up_alloc _ _, by show (w.heap.push _)[w.heap.size]? = _; simp⟩
  clear hW0
  have HX : Hid (∀ W, Below W0.heap.size W0 W → Below w.heap.size w W ∧ W.heap[w.heap.size]? = some (.cells #[.int .i64 k1, .int .i64 f1, .int .i64 t1, .int .u32 v1, .int .u32 s1, .slice pn1 n1 cn1, .slice pv1 m1 cv1] 27 (0, 0))) := fun W hW => ⟨bstep H0.out.1 hW, (hW.block _ (heap_in8 H0.out.2)).trans H0.out.2⟩
  refine (awake19_any W0).mono ?_
  rintro e w1 ⟨rfl, hB⟩
  have H1 : Hid (Below W0.heap.size W0 w1) := hB
  clear hB
  obtain ⟨⟨x0, x1, x2, x3, x4, x5, x6⟩, _⟩ := ms_cells (HX.out w1 H1.out).2
  have kx := cell_lt x0
  go_wp2_with fail
  refine (mheavy_any k1 f1 t1 v1 s1 pn1 pv1 n1 cn1 m1 cv1 w1).mono ?_
  rintro e w2 ⟨rfl, hB⟩
  have H2 : Hid (Below W0.heap.size W0 w2) := bstep H1.out hB
  clear hB H1 x0 x1 x2 x3 x4 x5 x6 kx
  by_cases hh : 520 < n1 ∨ 520 < m1
  · rw [decide_eq_true hh]
    go_wp2
    go_ret
    exact ⟨rfl, (HX.out w2 H2.out).1⟩
  rw [decide_eq_false hh]
  obtain ⟨⟨x0, x1, x2, x3, x4, x5, x6⟩, _⟩ := ms_cells (HX.out w2 H2.out).2
  have kx := cell_lt x0
  go_wp2_with fail
  refine (pmgood_any k1 f1 t1 v1 s1 pn1 pv1 n1 cn1 m1 cv1 w2).mono ?_
  rintro e w3 ⟨rfl, hB⟩
  have H3 : Hid (Below W0.heap.size W0 w3) := bstep H2.out hB
  clear hB H2 x0 x1 x2 x3 x4 x5 x6 kx
  by_cases g1 : goodG k1 f1 t1 n1 m1
  case neg =>
    rw [decide_eq_false g1]
    go_wp2
    go_ret
    exact ⟨rfl, (HX.out w3 H3.out).1⟩
  rw [decide_eq_true g1]
  by_cases hb0 : by_ = 0
  · have : (by_ == 0) = true := by simpa using hb0
    go_wp2
    go_ret
    exact ⟨rfl, (HX.out w3 H3.out).1⟩
  have hb0' : (by_ == 0) = false := by simpa using hb0
  have hg : goodG k1 f1 t1 N1.length V1.length := by rw [HR1.out.1.nlen, HR1.out.1.wds.1]; exact g1
  obtain ⟨E, eE⟩ : ∃ l, putG k1 f1 t1 v1 s1 N1 V1 = l := ⟨_, rfl⟩
  have cE := pmput_any k1 f1 t1 v1 s1 pn1 pv1 n1 cn1 m1 cv1 N1 V1 HR1.out.2.1 HR1.out.2.2 w3 (HR1.out.1.up (HX.out w3 H3.out).1)
  rw [eE] at cE
  obtain ⟨n, en⟩ : ∃ x, E.length = x := ⟨_, rfl⟩
  have hE9 : 1 ≤ E.length ∧ E.length ≤ 12023 := by
    rw [← eE]
    exact ⟨by rw [putG_len hg]; omega, putG_le⟩
  have HE : Hid (getP E ∧ By8 E ∧ E.length = n ∧ by_ ≠ 0) := ⟨by rw [← eE]; exact (put_q hg HR1.out.2.1 HR1.out.2.2 HR1.out.1.n64 HR1.out.1.v128).1, by rw [← eE]; exact putG_by, en, hb0⟩
  have hn : (n : Int) ≤ 12023 ∧ 1 ≤ n := by omega
  obtain ⟨hn1, hn2⟩ := hn
  obtain ⟨⟨x0, x1, x2, x3, x4, x5, x6⟩, _⟩ := ms_cells (HX.out w3 H3.out).2
  have kx := cell_lt x0
  clear eE hE9 g1 hg hb0 hh
  go_wp2_with fail
  refine cE.mono ?_
  rintro e w4 ⟨v4, rfl, ho, hB⟩
  have H4 : Hid (Below W0.heap.size W0 w4) := bstep H3.out hB
  rcases ho.2 with ⟨_, h0⟩ | ⟨g, cap, cur, ev3, hg2, hg3, hcap, _⟩
  · omega
  rw [en] at ev3 hcap
  subst ev3
  have HO : Hid (Own8 w4 w3.heap.size (.slice (some ⟨g, 0, none⟩) n cap) E ∧ g < w4.heap.size ∧ w.heap.size ≤ g) := ⟨ho, heap_in8 hg3, Nat.le_trans (HX.out w3 H3.out).1.size hg2⟩
  clear cE ho hB en hg2 hg3 H3 x0 x1 x2 x3 x4 x5 x6 kx
  by_cases t1' : at_ < 0
  · go_wp2
    go_ret
    exact ⟨rfl, (HX.out w4 H4.out).1⟩
  obtain ⟨A, rfl⟩ := Int.eq_ofNat_of_zero_le (show 0 ≤ at_ by omega)
  by_cases t2' : n ≤ A
  · have : (n : Int) ≤ (A : Int) := by omega
    go_wp2
    go_ret
    exact ⟨rfl, (HX.out w4 H4.out).1⟩
  have t2'' : (A : Int) < (n : Int) := by omega
  have HCC : Hid (A < E.length) := by show A < E.length; rw [HE.out.2.2.1]; omega
  have HO8 := HO.out.1
  obtain ⟨x, ex⟩ : ∃ x, E.getD A 0 = x := ⟨_, rfl⟩
  have hx : 0 ≤ x ∧ x < 256 := by
    rw [← ex, List.getD_eq_getElem?_getD, List.getElem?_eq_getElem HCC.out]
    exact HE.out.2.1 _ (List.getElem_mem _)
  obtain ⟨y, ey⟩ : ∃ y : Int, ((x.toNat ^^^ by_.toNat : Nat) : Int) = y := ⟨_, rfl⟩
  have hxy : bits .xor .u8 x by_ = y := by
    have := xor_8 x.toNat by_.toNat (by omega) (by have := HBY.out; omega)
    rw [Int.toNat_of_nonneg hx.1, Int.toNat_of_nonneg HBY.out.1] at this
    rw [this, ey]
  have hyr : 0 ≤ y ∧ y < 256 := by
    have := Nat.xor_lt_two_pow (n := 8) (x := x.toNat) (y := by_.toNat) (by omega) (by have := HBY.out; omega)
    omega
  have hyx : y ≠ x := fun h => by
    have h2 : x.toNat ^^^ by_.toNat = x.toNat := by omega
    have h3 := congrArg (fun m => x.toNat ^^^ m) h2
    simp only [← Nat.xor_assoc, Nat.xor_self, Nat.zero_xor] at h3
    have := HBY.out
    have := HE.out.2.2.2
    omega
  obtain ⟨hcell, hfz⟩ := OwnK.cell (k := .u8) HO8 HE.out.2.2.1 A (by have := HCC.out; rw [HE.out.2.2.1] at this; exact this)
  rw [ex] at hcell
  have kgl := cell_lt hcell
  have HS : Hid (Own8 (w4.setCell ⟨g, A, none⟩ (.int .u8 y)) w3.heap.size (.slice (some ⟨g, 0, none⟩) n cap) (E.set A y) ∧ Below w.heap.size w (w4.setCell ⟨g, A, none⟩ (.int .u8 y)) ∧ By8 (E.set A y) ∧ (E.set A y).length = n ∧ ¬ getP (E.set A y)) := by
    refine ⟨OwnK.store (k := .u8) HO8 HE.out.2.2.1 A y, (HX.out w4 H4.out).1.setCell (p := ⟨g, A, none⟩) HO.out.2.2 _, fun z hz => ?_, by rw [List.length_set]; exact HE.out.2.2.1, fun h => set_none HE.out.1.1 HE.out.2.1 HCC.out hyr (by rw [ex]; exact hyx) h.1⟩
    rcases List.mem_or_eq_of_mem_set hz with h | h
    · exact HE.out.2.1 z h
    · rw [h]
      exact hyr
  clear HO8 ex hx ey hyr hyx H4 HO HCC HBY HR1 t1' t2'
  go_wp2_with fail
  refine (pmget_any (some ⟨g, 0, none⟩) n cap (E.set A y) HS.out.2.2.1 HS.out.2.2.2.1 (by omega) hcap _ (Own8.bytes HS.out.1)).mono ?_
  rintro e w9 ⟨vN, vV, rfl, hN, hV, hB⟩
  obtain ⟨pn, nn, cn, rfl⟩ := hN.sl
  obtain ⟨pv, mm, cv, rfl⟩ := hV.sl
  rw [if_neg HS.out.2.2.2.2]
  have H9 : Hid (Below w.heap.size w w9) := bstep HS.out.2.1 hB
  clear hB hN hV HS hcell hfz kgl hxy HE HX H0
  go_wp2
  go_ret
  exact ⟨rfl, bstep H9.out (up_alloc _ _)⟩
end Go.Proofs.Ythmpfdkbpdbhnaa.Wd
