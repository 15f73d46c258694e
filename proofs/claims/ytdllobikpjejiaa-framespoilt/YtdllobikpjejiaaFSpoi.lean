/- FrameSpoilt: a frame with one byte changed is none; cut, or with more behind it, neither. -/
import Derived.Test.YtdllobikpjejiaaFrW
import Derived.Test.YtdllobikpjejiaaRow
namespace Go.Proofs.Ytdllobikpjejiaa.Wd
open Go.RowKit
set_option linter.unusedVariables false
set_option linter.unusedSimpArgs false
set_option maxRecDepth 8000
set_option maxHeartbeats 8000000
theorem cuth8_run (p : Option Addr) (n cap a : Nat) (h : a ≤ cap) (W : World) : Sem.run Try.prog (Instr.slice 24 (.slice p n cap) none (some (.int .i64 (a : Int))) none) W = .ok (sliced p 0 a cap 1) W := by
  have hz : ∀ W, Sem.run Try.prog (sizeOf (Try.prog.elem 24)) W = .ok 1 W := fun W => by kernel_rfl
  have := run_slice_h (P := Try.prog) W 24 p n cap (by kernel_rfl) .i64 (a : Int) (by omega) (by omega)
  rw [this, hz]
  simp [Result.andThen]
theorem fspoi_walk (w : World) (k1 f1 t1 v1 s1 : Int) (z1 : Nat → Int) (n1 c1 : Nat) (p1 : Option Addr) (at_ by_ cut : Int) (z2 : Nat → Int) (n2 c2 : Nat) (p2 : Option Addr)
    (hv1 : 0 ≤ v1 ∧ v1 < 4294967296) (hs1 : 0 ≤ s1 ∧ s1 < 4294967296) (hr1 : RowN .u8 w p1 n1 c1 z1) (hat_ : -9223372036854775808 ≤ at_ ∧ at_ ≤ 9223372036854775807) (hby_ : 0 ≤ by_ ∧ by_ ≤ 255) (hcut_ : -9223372036854775808 ≤ cut ∧ cut ≤ 9223372036854775807) (hr2 : RowN .u8 w p2 n2 c2 z2) :
    Calls Try.prog 6 #[.agg #[.int .i64 k1, .int .i64 f1, .int .i64 t1, .int .u32 v1, .int .u32 s1, .slice p1 n1 c1], .int .i64 at_, .int .u8 by_, .int .i64 cut, .slice p2 n2 c2] w fun e w' => e = .returned (.bool true) ∧ Below w.heap.size w w' := by
  have hby : 0 ≤ by_ ∧ by_ < 256 := ⟨hby_.1, by omega⟩
  clear hat_ hby_ hcut_
  haveI : Nonempty World := ⟨w⟩
  obtain ⟨b1, eb1⟩ : ∃ l, lst n1 z1 = l := ⟨_, rfl⟩
  obtain ⟨l2, el2⟩ : ∃ l, lst n2 z2 = l := ⟨_, rfl⟩
  have HN : Hid ((Bytes w (.slice p1 n1 c1) b1 ∧ By8 b1 ∧ b1.length = n1) ∧ (Bytes w (.slice p2 n2 c2) l2 ∧ By8 l2 ∧ l2.length = n2) ∧ (0 ≤ v1 ∧ v1 < 4294967296) ∧ (0 ≤ s1 ∧ s1 < 4294967296)) := by
    rw [← eb1, ← el2]
    exact ⟨⟨hr1.bytes, hr1.rng, lst_len _ _⟩, ⟨hr2.bytes, hr2.rng, lst_len _ _⟩, hv1, hs1⟩
  have HBY : Hid (0 ≤ by_ ∧ by_ < 256) := hby
  clear hr1 hr2 eb1 el2 hv1 hs1 hby
  go_enter Try.func6, Try.ntmps6
  go_wp2_with fail
  generalize hW0 : World.alloc _ _ = W0
  have HB0 : Hid (Below w.heap.size w W0) := by rw [← hW0]; exact up_alloc _ _
  obtain ⟨x0, x1, x2, x3, x4, x5⟩ : W0.cell? ⟨w.heap.size, 0, none⟩ = some (.int .i64 k1) ∧ W0.cell? ⟨w.heap.size, 1, none⟩ = some (.int .i64 f1) ∧ W0.cell? ⟨w.heap.size, 2, none⟩ = some (.int .i64 t1) ∧ W0.cell? ⟨w.heap.size, 3, none⟩ = some (.int .u32 v1) ∧ W0.cell? ⟨w.heap.size, 4, none⟩ = some (.int .u32 s1) ∧ W0.cell? ⟨w.heap.size, 5, none⟩ = some (.slice p1 n1 c1) := by rw [← hW0]; simp [go_sem]
  clear hW0
  refine (awake18_any W0).mono ?_
  rintro e w1 ⟨rfl, hB⟩
  replace x0 := still_cell hB x0
  replace x1 := still_cell hB x1
  replace x2 := still_cell hB x2
  replace x3 := still_cell hB x3
  replace x4 := still_cell hB x4
  replace x5 := still_cell hB x5
  have kx := cell_lt x0
  have HB1 : Hid (Below w.heap.size w w1) := bstep HB0.out hB
  clear hB HB0
  by_cases a1 : 600 < n1
  · have : (600 : Int) < (n1 : Int) := by omega
    go_wp2
    go_ret
    exact ⟨rfl, HB1.out⟩
  have a1' : (n1 : Int) ≤ 600 := by omega
  go_wp2_with fail
  refine (pfgood_any k1 f1 t1 v1 s1 p1 n1 c1 w1).mono ?_
  rintro e w2 ⟨rfl, hB⟩
  replace x0 := still_cell hB x0
  replace x1 := still_cell hB x1
  replace x2 := still_cell hB x2
  replace x3 := still_cell hB x3
  replace x4 := still_cell hB x4
  replace x5 := still_cell hB x5
  replace kx := cell_lt x0
  have HB2 : Hid (Below w.heap.size w w2) := bstep HB1.out hB
  clear hB HB1
  by_cases g1 : goodF k1 f1 t1 n1
  case neg =>
    rw [decide_eq_false g1]
    go_wp2
    go_ret
    exact ⟨rfl, HB2.out⟩
  rw [decide_eq_true g1]
  by_cases hb0 : by_ = 0
  · have : (by_ == 0) = true := by simpa using hb0
    go_wp2
    go_ret
    exact ⟨rfl, HB2.out⟩
  have hb0' : (by_ == 0) = false := by simpa using hb0
  by_cases m1 : n2 < 1
  · have : (n2 : Int) < 1 := by omega
    go_wp2
    go_ret
    exact ⟨rfl, HB2.out⟩
  have m1' : 1 ≤ (n2 : Int) := by omega
  by_cases m2 : 100 < n2
  · have : (100 : Int) < (n2 : Int) := by omega
    go_wp2
    go_ret
    exact ⟨rfl, HB2.out⟩
  have m2' : (n2 : Int) ≤ 100 := by omega
  obtain ⟨E, eE⟩ : ∃ l, encF k1 f1 t1 v1 s1 b1 = l := ⟨_, rfl⟩
  have cE := pfenc_any k1 f1 t1 v1 s1 p1 n1 c1 b1 HN.out.2.2.1 HN.out.2.2.2 HN.out.1.2.1 w2 (HN.out.1.1.up HB2.out) HN.out.1.2.2
  rw [eE] at cE
  have hEl : E.length = 19 + n1 := by rw [← eE, show encF k1 f1 t1 v1 s1 b1 = encL k1 f1 t1 v1 s1 b1 from if_pos (by rw [HN.out.1.2.2]; exact g1), encL_len, HN.out.1.2.2]
  obtain ⟨n, en⟩ : ∃ x, E.length = x := ⟨_, rfl⟩
  have HE : Hid (decP E ∧ By8 E ∧ E.length = n ∧ by_ ≠ 0) := ⟨by rw [← eE]; exact (dec_enc (by rw [HN.out.1.2.2]; exact g1) HN.out.2.2.1 HN.out.2.2.2 (.slice none 0 0)).1, by rw [← eE]; exact encF_by HN.out.1.2.1, en, hb0⟩
  have hn : (n : Int) ≤ 619 ∧ 19 ≤ n := by omega
  obtain ⟨hn1, hn2⟩ := hn
  clear eE hEl g1 hb0 m1 m2
  go_wp2_with fail
  refine cE.mono ?_
  rintro e w3 ⟨v3, rfl, ho, hB⟩
  have HB3 : Hid (Below w.heap.size w w3) := bstep HB2.out hB
  rcases ho.2 with ⟨_, h0⟩ | ⟨g, cap, cur, ev3, hg2, hg3, hcap, _⟩
  · omega
  rw [en] at ev3 hcap
  subst ev3
  have HO : Hid (Own8 w3 w2.heap.size (.slice (some ⟨g, 0, none⟩) n cap) E ∧ g < w3.heap.size ∧ w.heap.size ≤ g) := ⟨ho, heap_in8 hg3, Nat.le_trans HB2.out.size hg2⟩
  clear cE ho hB en hg2 hg3 HB2 x0 x1 x2 x3 x4 x5 kx
  by_cases t1' : at_ < 0
  · go_wp2
    go_ret
    exact ⟨rfl, HB3.out⟩
  obtain ⟨A, rfl⟩ := Int.eq_ofNat_of_zero_le (show 0 ≤ at_ by omega)
  by_cases t2' : n ≤ A
  · have : (n : Int) ≤ (A : Int) := by omega
    go_wp2
    go_ret
    exact ⟨rfl, HB3.out⟩
  have t2'' : (A : Int) < (n : Int) := by omega
  by_cases t3' : cut < 0
  · go_wp2
    go_ret
    exact ⟨rfl, HB3.out⟩
  obtain ⟨C, rfl⟩ := Int.eq_ofNat_of_zero_le (show 0 ≤ cut by omega)
  by_cases t4' : n ≤ C
  · have : (n : Int) ≤ (C : Int) := by omega
    go_wp2
    go_ret
    exact ⟨rfl, HB3.out⟩
  have t4'' : (C : Int) < (n : Int) := by omega
  have hrC := fun W => cuth8_run (some ⟨g, 0, none⟩) n cap C (by omega) W
  have hbC := fun (W : World) (hW : Bytes W (.slice (some ⟨g, 0, none⟩) n cap) E) => cut_bytes (p := some ⟨g, 0, none⟩) (n := n) (cap := cap) (at_ := 0) (a2 := C) (l := E) (Nat.zero_le _) (by omega) HE.out.2.2.1 hcap hW
  obtain ⟨pz, ez⟩ : ∃ pz, sliced (some ⟨g, 0, none⟩) 0 C cap 1 = .slice pz C cap := ⟨_, rfl⟩
  simp only [ez, List.drop_zero, Nat.sub_zero] at hrC hbC
  have HC : Hid (∀ W, Bytes W (.slice (some ⟨g, 0, none⟩) n cap) E → Bytes W (.slice pz C cap) (E.take C)) := hbC
  have HCC : Hid (C < E.length ∧ A < E.length) := by rw [HE.out.2.2.1]; exact ⟨by omega, by omega⟩
  have hcl : (E.take C).length = C := by rw [List.length_take, HE.out.2.2.1]; omega
  have hCc : C ≤ cap := by omega
  clear hbC ez t1' t3'
  go_wp2_with fail
  refine (pfdec_any pz C cap (E.take C) (HE.out.2.1.take _) hcl (by omega) hCc w3 (HC.out w3 (Own8.bytes HO.out.1))).mono ?_
  rintro e w4 ⟨v4, rfl, ho4, hB⟩
  obtain ⟨pb, nb, cb, rfl⟩ := own8_sl ho4
  rw [if_neg (cut_none HE.out.1 HCC.out.1)]
  have HB4 : Hid (Below w.heap.size w w4 ∧ Own8 w4 w2.heap.size (.slice (some ⟨g, 0, none⟩) n cap) E) := ⟨bstep HB3.out hB, HO.out.1.up hB⟩
  unfold FrD FrV
  obtain ⟨U4, hU4⟩ : ∃ U, w4.alloc (.cells #[.int .i64 (dN (E.take C) (uK (E.take C))), .int .i64 (dN (E.take C) (uF (E.take C))), .int .i64 (dN (E.take C) (uT (E.take C))), .int .u32 (dN (E.take C) (uV (E.take C))), .int .u32 (dN (E.take C) (uS (E.take C))), .slice pb nb cb] 26) = U := ⟨_, rfl⟩
  have HU4 : Hid (Below w4.heap.size w4 U4) := by rw [← hU4]; exact up_alloc _ _
  have hl9 : 0 + E.length ≤ 1073741824 := by rw [HE.out.2.2.1]; omega
  have hl10 : E.length + l2.length ≤ 1073741824 := by rw [HE.out.2.2.1, HN.out.2.1.2.2]; omega
  have H9 : Hid (Bytes (U4.alloc (.cells #[] 5)) (.slice (some ⟨g, 0, none⟩) n cap) E ∧ Below w.heap.size w (U4.alloc (.cells #[] 5)) ∧ U4.heap.size ≤ (U4.alloc (.cells #[] 5)).heap.size) := by
    have h := bstep HU4.out (up_alloc U4 (.cells #[] 5))
    exact ⟨(Own8.bytes HB4.out.2).up h, bstep HB4.out.1 h, (up_alloc U4 (.cells #[] 5)).size⟩
  clear hB HB3 HC hcl ho4
  go_wp2_with (first
    | (at_builtin; refine wpList_append8 rfl (.tmp 71) (.tmp 72) rfl U4.heap.size _ [] rfl (own8_new U4) _ E rfl H9.out.1 hl9 H9.out.2.2 U4 (up_alloc _ _) ?_; intro v5 W5 HO5 B5; have HB5 := hid2 B5 B5; clear B5)
    | (at_builtin; refine wpList_append8 rfl (.tmp 73) (.tmp 74) rfl U4.heap.size _ E rfl HO5.out _ l2 rfl (HN.out.2.1.1.up (bstep HB4.out.1 (bstep HU4.out HB5.out.1))) hl10 HB5.out.1.size U4 HB5.out.1 ?_; intro v6 W6 HO6 B6; have HB6 := hid2 B6 B6; clear B6; obtain ⟨p6, c6, rfl, hc6⟩ := own8_form HO6.out; have hl6 : (E ++ l2).length = n + n2 := (by rw [List.length_append, HE.out.2.2.1, HN.out.2.1.2.2]); rw [hl6] at HO6 hc6 ⊢)
    | fail)
  have HB7 : Hid (Below w.heap.size w W6 ∧ Own8 W6 w2.heap.size (.slice (some ⟨g, 0, none⟩) n cap) E ∧ Own8 W6 U4.heap.size (.slice p6 (n + n2) c6) (E ++ l2)) := ⟨bstep HB4.out.1 (bstep HU4.out HB6.out.1), HB4.out.2.up (bstep HU4.out HB6.out.1), HO6.out⟩
  clear HO5 HO6 HB5 HB6 HU4 hU4 H9 HB4 hl9 hl10
  refine (pfdec_any p6 (n + n2) c6 (E ++ l2) (HE.out.2.1.app HN.out.2.1.2.1) hl6 (by omega) hc6 W6 (Own8.bytes HB7.out.2.2)).mono ?_
  rintro e w7 ⟨v7, rfl, ho7, hB⟩
  obtain ⟨pd, nd, cd, rfl⟩ := own8_sl ho7
  rw [if_neg (more_none HE.out.1 (by rw [HN.out.2.1.2.2]; omega))]
  have H8 : Hid (Below w.heap.size w w7 ∧ Own8 w7 w2.heap.size (.slice (some ⟨g, 0, none⟩) n cap) E) := ⟨bstep HB7.out.1 hB, HB7.out.2.1.up hB⟩
  unfold FrD FrV
  clear hB HB7 ho7 hl6 hc6
  obtain ⟨U8, hU8⟩ : ∃ U, w7.alloc (.cells #[.int .i64 (dN (E ++ l2) (uK (E ++ l2))), .int .i64 (dN (E ++ l2) (uF (E ++ l2))), .int .i64 (dN (E ++ l2) (uT (E ++ l2))), .int .u32 (dN (E ++ l2) (uV (E ++ l2))), .int .u32 (dN (E ++ l2) (uS (E ++ l2))), .slice pd nd cd] 26) = U := ⟨_, rfl⟩
  have HU8 : Below w7.heap.size w7 U8 := by rw [← hU8]; exact up_alloc _ _
  have HO8 := H8.out.2.up HU8
  obtain ⟨x, ex⟩ : ∃ x, E.getD A 0 = x := ⟨_, rfl⟩
  have hx : 0 ≤ x ∧ x < 256 := by
    rw [← ex, List.getD_eq_getElem?_getD, List.getElem?_eq_getElem HCC.out.2]
    exact HE.out.2.1 _ (List.getElem_mem _)
  obtain ⟨y, ey⟩ : ∃ y : Int, ((x.toNat ^^^ by_.toNat : Nat) : Int) = y := ⟨_, rfl⟩
  have hxy : bits .xor .u8 x by_ = y := by
    have := xor_8 x.toNat by_.toNat (by omega) (by have := HBY.out; omega)
    rw [Int.toNat_of_nonneg hx.1, Int.toNat_of_nonneg HBY.out.1] at this
    rw [this, ey]
  have hyr : 0 ≤ y ∧ y < 256 := by
    have := Nat.xor_lt_two_pow (n := 8) (x := x.toNat) (y := by_.toNat) (by omega) (by have := HBY.out; omega)
    omega
  have hyx : y ≠ x := fun h => by
    have h2 : x.toNat ^^^ by_.toNat = x.toNat := by omega
    have h3 := congrArg (fun m => x.toNat ^^^ m) h2
    simp only [← Nat.xor_assoc, Nat.xor_self, Nat.zero_xor] at h3
    have := HBY.out
    have := HE.out.2.2.2
    omega
  obtain ⟨hcell, hfz⟩ := OwnK.cell (k := .u8) HO8 HE.out.2.2.1 A (by have := HCC.out.2; rw [HE.out.2.2.1] at this; exact this)
  rw [ex] at hcell
  have kgl := cell_lt hcell
  have HS : Hid (Own8 (U8.setCell ⟨g, A, none⟩ (.int .u8 y)) w2.heap.size (.slice (some ⟨g, 0, none⟩) n cap) (E.set A y) ∧ Below w.heap.size w (U8.setCell ⟨g, A, none⟩ (.int .u8 y)) ∧ By8 (E.set A y) ∧ (E.set A y).length = n ∧ ¬ decP (E.set A y)) := by
    refine ⟨OwnK.store (k := .u8) HO8 HE.out.2.2.1 A y, (bstep H8.out.1 HU8).setCell (p := ⟨g, A, none⟩) HO.out.2.2 _, fun z hz => ?_, by rw [List.length_set]; exact HE.out.2.2.1, set_none HE.out.1 HE.out.2.1 HCC.out.2 hyr (by rw [ex]; exact hyx)⟩
    rcases List.mem_or_eq_of_mem_set hz with h | h
    · exact HE.out.2.1 z h
    · rw [h]
      exact hyr
  clear HU8 HO8 ex hx ey hyr hyx H8 HO HCC HBY HN
  go_wp2_with fail
  refine (pfdec_any (some ⟨g, 0, none⟩) n cap (E.set A y) HS.out.2.2.1 HS.out.2.2.2.1 (by omega) hcap _ (Own8.bytes HS.out.1)).mono ?_
  rintro e w9 ⟨v9, rfl, ho9, hB⟩
  obtain ⟨pe, ne, ce, rfl⟩ := own8_sl ho9
  rw [if_neg HS.out.2.2.2.2]
  have H9 : Hid (Below w.heap.size w w9) := bstep HS.out.2.1 hB
  unfold FrD FrV
  clear hB ho9 HS hcell hfz kgl hU8 hxy
  go_wp2
  go_ret
  exact ⟨rfl, bstep H9.out (up_alloc _ _)⟩
end Go.Proofs.Ytdllobikpjejiaa.Wd
