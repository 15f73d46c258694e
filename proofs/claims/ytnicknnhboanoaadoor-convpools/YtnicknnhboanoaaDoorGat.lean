/- Sums of products gathered into a tensor: what conv's gathered does with whatever fills them. -/
import Derived.Test.YtnicknnhboanoaaDoorEac
import Derived.Test.YtnicknnhboanoaaDoorTenP
import Derived.Test.YtnicknnhboanoaaDoorTold
namespace Go.Proofs.YtnicknnhboanoaaDoor.Wd
open Go.RowKit Fx
set_option linter.unusedVariables false
set_option linter.unusedSimpArgs false
theorem infoS : ∃ i0, Tryd.prog.info? 55 = some i0 ∧ i0.zero = some (.agg #[.int .i64 0, .int .u64 0, .int .i64 0, .int .u64 0]) ∧ i0.size = 4 ∧ i0.bytes = 32 := by
  have h : (Tryd.prog.info? 55).map (fun i => (i.zero, i.size, i.bytes)) = some (some (.agg #[.int .i64 0, .int .u64 0, .int .i64 0, .int .u64 0]), 4, 32) := by kernel_rfl
  cases h0 : Tryd.prog.info? 55 with
  | none => rw [h0] at h; cases h
  | some i =>
    rw [h0] at h
    simp only [Option.map_some, Option.some.injEq, Prod.mk.injEq] at h
    exact ⟨i, rfl, h.1, h.2.1, h.2.2⟩
/-- Sums that were just made: all 0. -/
theorem made_sums {W : World} {B g n : Nat} {e : TypeId} (h : W.ownsRow B e 4 (.slice (some ⟨g, 0, none⟩) n n) n (madeCells (Value.agg #[.int .i64 0, .int .u64 0, .int .i64 0, .int .u64 0]).cells (n * 4)).toList) : ∀ i, i < n → SumAt W g (i * 4) 0 0 := by
  intro i hi
  have hf : ∀ j, W.frozen? ⟨g, j, none⟩ = false := by
    intro j
    rcases h.2 with ⟨h1, _⟩ | ⟨q, cap, cur, h1, h2, h3, _⟩
    · cases h1
    · cases h1
      unfold World.frozen?
      simp [h3]
  have hz : ∀ r, r < 4 → (madeCells (Value.agg #[.int .i64 0, .int .u64 0, .int .i64 0, .int .u64 0]).cells (n * 4)).toList[i * 4 + r]? = (#[Value.int .i64 0, .int .u64 0, .int .i64 0, .int .u64 0] : Array Value)[r]? := by
    intro r hr
    have e0 : (Value.agg #[.int .i64 0, .int .u64 0, .int .i64 0, .int .u64 0]).cells = #[Value.int .i64 0, .int .u64 0, .int .i64 0, .int .u64 0] := rfl
    unfold madeCells
    rw [e0, Array.getElem?_toList, Array.getElem?_map, Array.getElem?_range]
    rw [if_pos (by omega)]
    have e1 : (i * 4 + r) % 4 = r := by omega
    simp only [Option.map_some]
    match r, hr with
    | 0, _ => rw [show (#[Value.int .i64 0, .int .u64 0, .int .i64 0, .int .u64 0] : Array Value).size = 4 from rfl, e1]; rfl
    | 1, _ => rw [show (#[Value.int .i64 0, .int .u64 0, .int .i64 0, .int .u64 0] : Array Value).size = 4 from rfl, e1]; rfl
    | 2, _ => rw [show (#[Value.int .i64 0, .int .u64 0, .int .i64 0, .int .u64 0] : Array Value).size = 4 from rfl, e1]; rfl
    | 3, _ => rw [show (#[Value.int .i64 0, .int .u64 0, .int .i64 0, .int .u64 0] : Array Value).size = 4 from rfl, e1]; rfl
  have hc : ∀ r u, r < 4 → (#[Value.int .i64 0, .int .u64 0, .int .i64 0, .int .u64 0] : Array Value)[r]? = some u → W.cell? ⟨g, i * 4 + r, none⟩ = some u := by
    intro r u hr hu
    have := World.ownsRow.cells h rfl (i * 4 + r) u (by rw [hz r hr]; exact hu)
    rw [addr_plus, Nat.zero_add] at this
    exact this
  have c0 := hc 0 _ (by omega) rfl
  have c1 := hc 1 _ (by omega) rfl
  have c2 := hc 2 _ (by omega) rfl
  have c3 := hc 3 _ (by omega) rfl
  have hl := wcell_lt c0
  exact ⟨0, 0, by omega, by omega, by omega, by omega, by omega, ⟨hl, c0, c1, hf _, hf _⟩, hl, c2, c3, hf _, hf _⟩
theorem LieA.stay {W W' : World} {g b o : Nat} {x : Int} (h : LieA W b o x) (hs : Stay g W W') (hg : b ≠ g) : LieA W' b o x :=
  ⟨Nat.lt_of_lt_of_le h.1 hs.size, hs.cell h.2.1 hg, hs.cell h.2.2.1 hg, by rw [hs.frozen h.1 hg]; exact h.2.2.2.1, by rw [hs.frozen h.1 hg]; exact h.2.2.2.2⟩
theorem SumAt.stay {W W' : World} {g b o m : Nat} {T : Int} (h : SumAt W b o m T) (hs : Stay g W W') (hg : b ≠ g) : SumAt W' b o m T := by
  obtain ⟨A, B, e, h1, h2, h3, h4, h5, h6⟩ := h
  exact ⟨A, B, e, h1, h2, h3, h4, h5.stay hs hg, h6.stay hs hg⟩
/-- The tensor of the sums. -/
def gatE (d : List Int) : Int := if goodN (ntl d) then 0 else 2
def gatV (d : List Int) (F : Nat → Int) : List Int := if goodN (ntl d) then (List.range (prodN (ntl d))).map fun i => rnd (F i) else []
set_option maxRecDepth 8000 in
set_option maxHeartbeats 8000000 in
theorem gathered_any (K : FuncId) (hEnt : ∀ args W, (callFunc K args).run Tryd.prog W = .ok (.enter K args) W) (u0 u1 u2 : Value) (p : Option Addr) (n c : Nat) (d : List Int) (hd : RI d) (F : Nat → Int) (M : Nat) (hM : M ≤ 1073741824) (w : World) (hT : Hid (Tz w)) (h1 : Nums .i64 w (.slice p n c) d)
    (hK : goodN (ntl d) → ∀ W b, Below w.heap.size w W → w.heap.size ≤ b → b < W.heap.size → (∀ i, i < prodN (ntl d) → SumAt W b (i * 4) 0 0) → Calls Tryd.prog K #[.slice (some ⟨b, 0, none⟩) (prodN (ntl d)) (prodN (ntl d)), u0, u1, u2] W fun e w' => e = .returned (.tuple #[]) ∧ (∀ i, i < prodN (ntl d) → SumAt w' b (i * 4) M (F i)) ∧ Stay b W w' ∧ Below b W w') :
    Calls Tryd.prog 25 #[.slice p n c, .func (.func K) #[] #[u0, u1, u2]] w fun e w' => ∃ v', e = .returned (.tuple #[v', .int .i64 (gatE d)]) ∧ TRes w' w.heap.size v' (newD d) (gatV d F) ∧ Below w.heap.size w w' := by
  have cN : ∀ W, Below w.heap.size w W → Calls Tryd.prog 46 #[.slice p n c, .int .i64 0] W fun e w' => ∃ v', e = .returned (.tuple #[v', .int .i64 (newE d)]) ∧ TRes w' W.heap.size v' (newD d) (newV d 0) ∧ Below W.heap.size W w' := fun W hW => tnew_any _ d hd 0 W (h1.up hW)
  haveI : Nonempty World := ⟨w⟩
  by_cases hg : goodN (ntl d)
  · have e1 : newE d = 0 ∧ newD d = d ∧ newV d 0 = List.replicate (prodN (ntl d)) 0 ∧ gatE d = 0 ∧ gatV d F = (List.range (prodN (ntl d))).map fun i => rnd (F i) := ⟨if_pos hg, if_pos hg, if_pos hg, if_pos hg, if_pos hg⟩
    rw [e1.1, e1.2.1, e1.2.2.1] at cN
    rw [e1.2.1, e1.2.2.2.1, e1.2.2.2.2]
    have hK' := hK hg
    have hN : 1 ≤ prodN (ntl d) ∧ prodN (ntl d) ≤ 4096 := ⟨hg.pos, hg.2.2⟩
    obtain ⟨N, eN⟩ : ∃ N, prodN (ntl d) = N := ⟨_, rfl⟩
    rw [eN] at cN hK' hN ⊢
    have hN' : 1 ≤ (N : Int) ∧ (N : Int) ≤ 4096 := by omega
    obtain ⟨V, eV⟩ : ∃ V, (List.range N).map (fun i => rnd (F i)) = V := ⟨_, rfl⟩
    rw [eV]
    have HV : Hid (V.length = N ∧ ∀ i, i < N → V.getD i 0 = rnd (F i)) := ⟨by rw [← eV]; simp, fun i hi => by rw [← eV]; exact getD_map_range _ _ _ _ hi⟩
    have HK : Hid (∀ W b, Below w.heap.size w W → w.heap.size ≤ b → b < W.heap.size → (∀ i, i < N → SumAt W b (i * 4) 0 0) → Calls Tryd.prog K #[.slice (some ⟨b, 0, none⟩) N N, u0, u1, u2] W fun e w' => e = .returned (.tuple #[]) ∧ (∀ i, i < N → SumAt w' b (i * 4) M (F i)) ∧ Stay b W w' ∧ Below b W w') := hK'
    have HMM : Hid (M ≤ 1073741824) := hM
    clear e1 hK hK' eN eV hg hd h1 hM
    obtain ⟨i0, hi, hz0, hz1, hz2⟩ := infoS
    go_enter Tryd.func25, Tryd.ntmps25
    go_wp2_with fail
    generalize hW0 : World.alloc _ _ = W0
    have B0 : Below w.heap.size w W0 := by rw [← hW0]; exact up_alloc w _
    have XR : Hid (Cel W0 w.heap.size (.slice none 0 0) (.slice none 0 0)) := by show Cel _ _ _ _; unfold Cel; rw [← hW0]; simp [go_sem]
    have HB0 : Hid (Below w.heap.size w W0 ∧ w.heap.size < W0.heap.size) := ⟨B0, cell_lt XR.out.1⟩
    clear hW0 B0
    refine (cN W0 HB0.out.1).mono ?_
    rintro e w1 ⟨v1, rfl, ⟨s1, t1, rfl, hs1, ht1⟩, hB1⟩
    obtain ⟨p1, n1, c1, rfl, _⟩ := hs1.nums.lst
    obtain ⟨gv, cv, rfl, hgv⟩ := ht1.at (by rw [List.length_replicate]; omega)
    rw [List.length_replicate] at ht1 ⊢
    obtain ⟨cs, fz, hob⟩ := ht1.obj
    have hOff : Off gv (.slice p1 n1 c1) := hs1.off_type hob (by decide)
    go_wp2_with (at_make; generalize hW2 : World.alloc _ _ = W2; refine wpList_make_full W2 rfl (.tmp 20) (.tmp 20) 49 rfl W2.heap.size 55 i0 _ 4 Tryd.underlying49 hi hz0 hz1 .i64 .i64 N N N rfl rfl rfl rfl (by rw [hz2]; omega) (by unfold maxLen; omega) (Nat.le_refl _) ?_; intro w3 hown hgrow; have B3 : Below W2.heap.size W2 w3 := Below.grown (Below.refl _ _) hgrow (Nat.le_refl _) (fun j hj => by cases hj); have H3 : Hid (∀ i, i < N → SumAt w3 W2.heap.size (i * 4) 0 0) := made_sums hown; clear hown hgrow)
    have B2 : Below w1.heap.size w1 W2 := by rw [← hW2]; exact up_alloc w1 _
    have XT : Hid (Cel W2 w1.heap.size (.slice p1 n1 c1) (.slice (some ⟨gv, 0, none⟩) N cv)) := by show Cel _ _ _ _; unfold Cel; rw [← hW2]; simp [go_sem]
    have HS2 : Hid (OwnK .i64 3 W2 W0.heap.size (.slice p1 n1 c1) d ∧ OwnK .i64 28 W2 W0.heap.size (.slice (some ⟨gv, 0, none⟩) N cv) (rowF V 0) ∧ Off gv (.slice p1 n1 c1) ∧ W0.heap.size ≤ gv) := ⟨hs1.up B2, by rw [rowF_zero, HV.out.1]; exact ht1.up B2, hOff, hgv⟩
    have HB2 : Hid (Below w.heap.size w W2 ∧ Below W0.heap.size W0 W2) := ⟨bstep HB0.out.1 (bstep hB1 B2), bstep hB1 B2⟩
    have Hg : Hid (w1.heap.size < W2.heap.size ∧ W0.heap.size ≤ w1.heap.size ∧ gv < w1.heap.size ∧ w.heap.size < W0.heap.size) := ⟨cell_lt XT.out.1, hB1.size, ht1.size, HB0.out.2⟩
    obtain ⟨g6, e6⟩ : ∃ g, w1.heap.size = g := ⟨_, rfl⟩
    rw [e6] at XT Hg ⊢
    clear hW2 B2 hs1 ht1 hB1 hOff hgv hob cN e6
    have hB3w : Below w.heap.size w w3 := bstep HB2.out.1 B3
    refine (HK.out w3 W2.heap.size hB3w HB2.out.1.size (H3.out 0 (by omega)).lt H3.out).mono ?_
    rintro e w4 ⟨rfl, hF4, hSt4, hBl4⟩
    have hgs : w.heap.size ≤ W2.heap.size := HB2.out.1.size
    have HB4 : Hid (Below w.heap.size w w4) := hB3w.trans (hBl4.mono hgs)
    have HS4 : Hid (OwnK .i64 3 w4 W0.heap.size (.slice p1 n1 c1) d ∧ OwnK .i64 28 w4 W0.heap.size (.slice (some ⟨gv, 0, none⟩) N cv) (rowF V 0) ∧ Off gv (.slice p1 n1 c1) ∧ W0.heap.size ≤ gv) := by
      have q := HS2.out
      have g := Hg.out
      have hb : Below W2.heap.size w3 w4 := hBl4
      have hb2 : Below W2.heap.size W2 w4 := B3.trans hb
      exact ⟨q.1.up hb2, q.2.1.up hb2, q.2.2⟩
    have XT4 : Hid (Cel w4 g6 (.slice p1 n1 c1) (.slice (some ⟨gv, 0, none⟩) N cv)) := XT.out.up (B3.trans hBl4)
    have XR4 : Hid (Cel w4 w.heap.size (.slice none 0 0) (.slice none 0 0)) := (XR.out.up HB2.out.2).up (B3.trans hBl4)
    have HF4 : Hid (∀ i, i < N → SumAt w4 W2.heap.size (i * 4) M (F i)) := hF4
    have Hgs : Hid (gv < W2.heap.size ∧ g6 < W2.heap.size) := ⟨by have := Hg.out; omega, Hg.out.1⟩
    obtain ⟨gs, egs⟩ : ∃ g, W2.heap.size = g := ⟨_, rfl⟩
    rw [egs] at HF4 Hgs ⊢
    clear hF4 hSt4 hBl4 hB3w hgs H3 B3 XT XR HS2 egs hi hz0 hz1 hz2 i0
    go_wp2_with fail
    go_loopg [27] N (fun gg i wr => ∃ (k : Nat), k ≤ N ∧ gg = N - k ∧ i = .int .i64 (k : Int) ∧ Hid (OwnK .i64 28 wr W0.heap.size (.slice (some ⟨gv, 0, none⟩) N cv) (rowF V k)) ∧ Hid (Below w.heap.size w wr ∧ Stay gv w4 wr))
    case atStart => exact ⟨0, by omega, by omega, by first | rfl | simp, HS4.out.2.1, HB4.out, Stay.refl _ _⟩
    case round =>
      obtain ⟨k, hk, hgk, rfl, HO, HBk⟩ := hrel
      obtain ⟨R1, hR1⟩ : ∃ R1 : World, R1 = wr := ⟨_, rfl⟩
      subst hR1
      by_cases hkn : k < N
      · have hk' : (k : Int) < (N : Int) := by omega
        have hsum : Hid (SumAt R1 gs (k * 4) M (F k)) := (HF4.out k hkn).stay HBk.out.2 (by have := Hgs.out; omega)
        obtain ⟨Z, eZ⟩ : ∃ Z, V.getD k 0 = Z := ⟨_, rfl⟩
        have HZ : Hid (V.getD k 0 = Z) := eZ
        have cz : ∀ W, Below R1.heap.size R1 W → Calls Tryd.prog 47 #[.pointer (some ⟨gs, k * 4, none⟩)] W fun e w' => e = .returned (.int .i64 Z) ∧ Below W.heap.size W w' := fun W hW => by
          rw [← eZ, HV.out.2 k hkn]
          exact sfix_any gs (k * 4) M (F k) HMM.out W (Hid.up_tz hT (bstep HBk.out.1 hW)) (hsum.out.up hW)
        obtain ⟨t0, t1, _, _⟩ := XT4.out.stay HBk.out.2 (by have := Hg.out; omega)
        have t9 := cell_lt t0
        have s9 := hsum.out.lt
        clear eZ
        go_wp2_with fail
        refine flow 8 40 (by kernel_rfl) rfl rfl (by kernel_rfl) ?_
        apply Exists.intro
        refine ⟨?_, ?_⟩
        · intro F hF
          have hFc := hF.cell
          have hFf := hF.frozen
          simp only [List.take_succ_cons, List.take_zero, List.eraseIdx_cons_succ, List.eraseIdx_cons_zero]
          repeat (go_big_quiet_step (first | (go_at_call 47; with_reducible exact hF.call (cz _ (hF.below _)))))
          refine wpQuiet_nil ?_
          exact rfl
        · intro W5 hW5
          simp only [List.drop_succ_cons, List.drop_zero]
          have HR2 := HO.out.up hW5
          obtain ⟨hown, hfz⟩ := HR2.cell (by rw [rowF_len]; exact HV.out.1) k hkn
          have lt2 := cell_lt hown
          have H5 : Hid (OwnK .i64 28 (W5.setCell ⟨gv, k, none⟩ (.int .i64 Z)) W0.heap.size (.slice (some ⟨gv, 0, none⟩) N cv) (rowF V (k + 1))) := by
            have := HR2.store (by rw [rowF_len]; exact HV.out.1) k Z
            rw [← HZ.out, rowF_set V k (by rw [HV.out.1]; exact hkn)] at this
            rw [← HZ.out]
            exact this
          have hgw : w.heap.size ≤ gv := by have := Hg.out; have := HS4.out.2.2.2; omega
          have H6 : Hid (Below w.heap.size w (W5.setCell ⟨gv, k, none⟩ (.int .i64 Z)) ∧ Stay gv w4 (W5.setCell ⟨gv, k, none⟩ (.int .i64 Z))) := ⟨(bstep HBk.out.1 hW5).setCell (p := ⟨gv, k, none⟩) hgw _, (HBk.out.2.up hW5).set _ _⟩
          clear hW5 HR2 cz t0 t1 t9 s9 hsum HO HBk hgw
          go_wp2
          go_roundg (N - (k + 1))
          case measure => omega
          case rel => exact ⟨k + 1, by omega, rfl, by first | rfl | simp, H5, H6⟩
      · obtain rfl : k = N := by omega
        have hfin := HO.out
        rw [← HV.out.1, rowF_full, HV.out.1] at hfin
        have xR := XR4.out.stay HBk.out.2 (by have := Hg.out; have := HS4.out.2.2.2; omega)
        have xT := XT4.out.stay HBk.out.2 (by have := Hg.out; omega)
        have o1 := HS4.out.1.stay HBk.out.2 HS4.out.2.2.1
        have HF : Hid (TRes (set2 R1 w.heap.size (.slice p1 n1 c1) (.slice (some ⟨gv, 0, none⟩) k cv)) w.heap.size (.agg #[.slice p1 n1 c1, .slice (some ⟨gv, 0, none⟩) k cv]) d V ∧ Below w.heap.size w (set2 R1 w.heap.size (.slice p1 n1 c1) (.slice (some ⟨gv, 0, none⟩) k cv))) :=
          ⟨(TRes.set o1 hfin (by have := Hg.out; omega)).low (by have := Hg.out; omega), below_cell HBk.out.1 _ (Nat.le_refl _) _ _⟩
        have cf := xR.set (.slice p1 n1 c1) (.slice (some ⟨gv, 0, none⟩) k cv)
        obtain ⟨t0, t1, _, _⟩ := xT
        obtain ⟨r0, r1, r2, r3⟩ := xR
        obtain ⟨y0, y1, _, _⟩ := cf
        have t9 := cell_lt t0
        have r9 := cell_lt r0
        go_wp2
        exact bodyPost_ret (v := .tuple #[.agg #[.slice p1 n1 c1, .slice (some ⟨gv, 0, none⟩) k cv], .int .i64 0]) (by simp [results, Tryd.results25, go_sem, y0, y1]) rfl ⟨_, rfl, HF.out⟩
  · have e1 : newE d = 1 ∧ newD d = [] ∧ newV d 0 = [] ∧ gatE d = 2 ∧ gatV d F = [] := ⟨if_neg hg, if_neg hg, if_neg hg, if_neg hg, if_neg hg⟩
    rw [e1.1, e1.2.1, e1.2.2.1] at cN
    rw [e1.2.1, e1.2.2.2.1, e1.2.2.2.2]
    clear e1 hK hg hd h1 hM
    go_enter Tryd.func25, Tryd.ntmps25
    go_wp2_with fail
    generalize hW0 : World.alloc _ _ = W0
    have B0 : Below w.heap.size w W0 := by rw [← hW0]; exact up_alloc w _
    have XR : Hid (Cel W0 w.heap.size (.slice none 0 0) (.slice none 0 0)) := by show Cel _ _ _ _; unfold Cel; rw [← hW0]; simp [go_sem]
    have HB0 : Hid (Below w.heap.size w W0) := B0
    clear hW0 B0
    refine (cN W0 HB0.out).mono ?_
    rintro e w1 ⟨v1, rfl, ⟨s1, t1, rfl, hs1, ht1⟩, hB1⟩
    obtain ⟨p1, n1, c1, rfl, _⟩ := hs1.nums.lst
    obtain ⟨p2, n2, c2, rfl, _⟩ := ht1.nums.lst
    have xr : Cel (w1.alloc (.cells #[.slice p1 n1 c1, .slice p2 n2 c2] 26)) w.heap.size (.slice none 0 0) (.slice none 0 0) := (XR.out.up hB1).up (up_alloc w1 _)
    have BF := below_cell (bstep (bstep HB0.out hB1) (up_alloc w1 (.cells #[.slice p1 n1 c1, .slice p2 n2 c2] 26))) w.heap.size (Nat.le_refl _) (.slice none 0 0) (.slice none 0 0)
    have cf := xr.set (.slice none 0 0) (.slice none 0 0)
    obtain ⟨r0, r1, r2, r3⟩ := xr
    obtain ⟨y0, y1, _, _⟩ := cf
    go_wp2
    exact bodyPost_ret (v := .tuple #[.agg #[.slice none 0 0, .slice none 0 0], .int .i64 2]) (by simp [results, Tryd.results25, go_sem, y0, y1]) rfl ⟨_, rfl, TRes.none _ _, BF⟩
end Go.Proofs.YtnicknnhboanoaaDoor.Wd
