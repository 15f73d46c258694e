/- What package shape's Join hands back. -/
import Derived.Test.YtbndiadgnglkhaaShpC
namespace Go.Proofs.Ytbndiadgnglkhaa.Wd
open Go.RowKit
set_option linter.unusedVariables false
set_option linter.unusedSimpArgs false
theorem RI_itl {d : List Nat} (h : ∀ x, x ∈ d → x ≤ 4096) : RI (itl d) := by
  intro y hy
  obtain ⟨x, hx, rfl⟩ := List.mem_map.1 hy
  have := h x hx
  omega
theorem RI_join {a b : List Nat} (ha : goodN a) (hb : goodN b) : RI (itl (joinN a b)) := by
  refine RI_itl fun x hx => ?_
  obtain ⟨j, _, rfl⟩ := List.mem_map.1 hx
  have h1 := side_rng ha (max a.length b.length - j)
  have h2 := side_rng hb (max a.length b.length - j)
  show max _ _ ≤ 4096
  omega
theorem Lst.nums {w : World} {p : Option Addr} {n c : Nat} {l : List Int} (h : Nums .i64 w (.slice p n c) l) {w' : World} (hB : Below w.heap.size w w') : Nums .i64 w' (.slice p n c) l := h.up hB
theorem run_max_nat {P : Program} {w : World} (ts : Array TypeId) (t : TypeId) (k k' : IntKind) (x y : Nat) : (Builtin.max_ ts t #[.int k (x : Int), .int k' (y : Int)]).run P w = .ok (.int k ((max x y : Nat) : Int)) w := by
  rw [run_max_int2]
  congr 2
  split <;> omega
set_option maxHeartbeats 2000000 in
theorem join_any (u v : Value) (a b : List Int) (ha : RI a) (hb : RI b) (w : World) (hu : Nums .i64 w u a) (hv : Nums .i64 w v b) :
    Calls Try.prog 40 #[u, v] w fun e w' => ∃ v', e = .returned (.tuple #[v', .int .i64 (joinE a b)]) ∧ OwnK .i64 3 w' w.heap.size v' (joinL a b) ∧ Below w.heap.size w w' := by
  have ca := good_any u a ha w hu
  have cb := good_any v b hb w hv
  have HU : Hid (Nums .i64 w u a) := hu
  have HV : Hid (Nums .i64 w v b) := hv
  obtain ⟨p, n, c, rfl, HA⟩ := hu.lst
  obtain ⟨p2, n2, c2, rfl, HB⟩ := hv.lst
  clear hu hv ha hb
  by_cases hga : goodN (ntl a)
  · rw [decide_eq_true hga] at ca
    by_cases hgb : goodN (ntl b)
    · rw [decide_eq_true hgb] at cb
      obtain ⟨a, ha, rfl⟩ := good_itl hga
      obtain ⟨b, hb, rfl⟩ := good_itl hgb
      have hna : a.length = n := by rw [← itl_len a]; exact HA.out.1
      have hnb : b.length = n2 := by rw [← itl_len b]; exact HB.out.1
      have hn1 : n ≤ 4 := by rw [← hna]; exact ha.1
      have hn2 : n2 ≤ 4 := by rw [← hnb]; exact hb.1
      obtain ⟨m, em⟩ : ∃ m, max n n2 = m := ⟨_, rfl⟩
      have hm : m ≤ 4 := by omega
      have hm' : (m : Int) ≤ 4 := by omega
      have HG : Hid (goodN a ∧ goodN b ∧ max a.length b.length = m) := ⟨ha, hb, by rw [hna, hnb]; exact em⟩
      obtain ⟨L, eL⟩ : ∃ L, itl (joinN a b) = L := ⟨_, rfl⟩
      have HL : Hid (itl (joinN a b) = L ∧ L.length = m) := ⟨eL, by rw [← eL, itl_len, joinN_len]; exact HG.out.2.2⟩
      obtain ⟨X, eX⟩ : ∃ X, joinL (itl a) (itl b) = X := ⟨_, rfl⟩
      obtain ⟨E, eE⟩ : ∃ E, joinE (itl a) (itl b) = E := ⟨_, rfl⟩
      have HX : Hid (joinL (itl a) (itl b) = X ∧ joinE (itl a) (itl b) = E) := ⟨eX, eE⟩
      have Hm : Hid (max n n2 = m) := em
      rw [eX, eE]
      clear hga hgb ha hb hna hnb eL eX eE HA HB
      have kmax : ∀ (ts : Array TypeId) (t : TypeId) (w : World), (Builtin.max_ ts t #[.int .i64 (n : Int), .int .i64 (n2 : Int)]).run Try.prog w = .ok (.int .i64 (m : Int)) w := fun ts t w => by rw [run_max_nat, em]
      clear em
      go_enter Try.func40, Try.ntmps40
      go_wp2_with fail
      refine ca.mono ?_
      rintro e w0 ⟨rfl, rfl⟩
      clear ca
      go_wp2_with fail
      refine cb.mono ?_
      rintro e w0 ⟨rfl, rfl⟩
      clear cb
      go_wp2_with (at_make; refine wpList_makeK numT (by decide) _ rfl (.tmp 22) (.tmp 22) rfl .i64 .i64 m m m rfl rfl rfl rfl (by omega) w0.heap.size w0 (Nat.le_refl _) (Below.refl _ _) ?_; intro w1 HO B0 B1; clear B0)
      clear kmax
      rw [← HL.out.2, ← rowB_zero L, HL.out.2] at HO
      go_loopg [7] m (fun gg v wr => ∃ (k : Nat), k ≤ m ∧ gg = m - k ∧ v = .int .i64 ((k : Int) + 1) ∧ Hid (∀ i, 1 ≤ i → i ≤ k → fitN (sideN a i) (sideN b i)) ∧ Hid (OwnK .i64 3 wr w0.heap.size (.slice (some ⟨w0.heap.size, 0, none⟩) m m) (rowB L k)) ∧ Hid (Below w0.heap.size w0 wr))
      case atStart => exact ⟨0, by omega, by omega, by first | rfl | simp, fun i h1 h2 => by omega, HO, B1⟩
      case round =>
        obtain ⟨k, hk, hg, rfl, Hx, HR, hB⟩ := hrel
        by_cases hkn : k < m
        · have hkn' : (k : Int) + 1 ≤ (m : Int) := by omega
          have c1 := last_any _ a HG.out.1 (k + 1) ⟨by omega, by omega⟩ wr (HU.out.up hB.out)
          have c2 := last_any _ b HG.out.2.1 (k + 1) ⟨by omega, by omega⟩ wr (HV.out.up hB.out)
          rw [show ((k + 1 : Nat) : Int) = (k : Int) + 1 by omega] at c1 c2
          have s1 := side_rng HG.out.1 (k + 1)
          have s2 := side_rng HG.out.2.1 (k + 1)
          have hok := jok_fit (sideN a (k + 1)) (sideN b (k + 1))
          have hmx := jnd_max (sideN a (k + 1)) (sideN b (k + 1)) s1.1 s2.1
          obtain ⟨x, ex⟩ : ∃ x : Int, ((sideN a (k + 1) : Nat) : Int) = x := ⟨_, rfl⟩
          obtain ⟨y, ey⟩ : ∃ y : Int, ((sideN b (k + 1) : Nat) : Int) = y := ⟨_, rfl⟩
          rw [ex] at c1 hok hmx
          rw [ey] at c2 hok hmx
          have c3 := fun W => joined_any x y W
          obtain ⟨j, hj⟩ : ∃ j, j = m - 1 - k := ⟨_, rfl⟩
          have hjm : j < m := by omega
          have hjk : (m : Int) - ((k : Int) + 1) = (j : Int) := by omega
          have hjn : (j : Int) < (m : Int) := by omega
          have Hj : Hid (j + k + 1 = m) := by show _ = _; omega
          clear hj ex ey s1 s2
          by_cases hf : fitN (sideN a (k + 1)) (sideN b (k + 1))
          · rw [decide_eq_true hf] at hok
            have hmx := hmx hf
            rw [hok] at c3
            obtain ⟨z, ez⟩ : ∃ z, jnd x y = z := ⟨_, rfl⟩
            rw [ez] at c3 hmx
            have HZ : Hid (z = L.getD j 0) := by
              show _ = _
              rw [hmx, ← HL.out.1, join_at a b j k (by rw [HG.out.2.2]; exact Hj.out)]
            have Hn : Hid (∀ i, 1 ≤ i → i ≤ k + 1 → fitN (sideN a i) (sideN b i)) := fun i h1 h2 => by
              rcases Nat.lt_or_ge k i with h | h
              · rw [show i = k + 1 by omega]; exact hf
              · exact Hx.out i h1 h
            obtain ⟨hown, hfz⟩ := HR.out.cell (by rw [rowB_len]; exact HL.out.2) j hjm
            have H2 : Hid (OwnK .i64 3 (wr.setCell ⟨w0.heap.size, j, none⟩ (.int .i64 z)) w0.heap.size (.slice (some ⟨w0.heap.size, 0, none⟩) m m) (rowB L (k + 1))) := by
              have := HR.out.store (by rw [rowB_len]; exact HL.out.2) j z
              rw [HZ.out, rowB_set L j k (by rw [HL.out.2]; exact Hj.out)] at this
              rw [HZ.out]
              exact this
            have HB2 : Hid (Below w0.heap.size w0 (wr.setCell ⟨w0.heap.size, j, none⟩ (.int .i64 z))) := hB.out.setCell (p := ⟨w0.heap.size, j, none⟩) (Nat.le_refl _) _
            clear hf hok hmx ez Hx
            go_wp2_with fail
            refine c1.mono ?_
            rintro e w5 ⟨rfl, rfl⟩
            go_wp2_with fail
            refine c2.mono ?_
            rintro e w5 ⟨rfl, rfl⟩
            go_wp2_with fail
            refine (c3 _).mono ?_
            rintro e w5 ⟨rfl, rfl⟩
            go_wp2
            go_roundg (m - (k + 1))
            case measure => omega
            case rel => exact ⟨k + 1, by omega, rfl, by first | rfl | simp, Hn, H2, HB2⟩
          · rw [decide_eq_false hf] at hok
            rw [hok] at c3
            have hX := join_unlike HG.out.1 HG.out.2.1 (fun h => hf (h (k + 1) (by omega) (by rw [HG.out.2.2]; omega)))
            rw [HX.out.1, HX.out.2] at hX
            obtain ⟨rfl, rfl⟩ := hX
            clear hf hok hmx Hx
            go_wp2_with fail
            refine c1.mono ?_
            rintro e w5 ⟨rfl, rfl⟩
            go_wp2_with fail
            refine c2.mono ?_
            rintro e w5 ⟨rfl, rfl⟩
            go_wp2_with fail
            refine (c3 _).mono ?_
            rintro e w5 ⟨rfl, rfl⟩
            go_wp2
            go_ret2
            exact ⟨_, rfl, OwnK.nil _ _ _ _, hB.out⟩
        · obtain rfl : k = m := by omega
          have hfin := HR.out
          rw [← HL.out.2, rowB_full, HL.out.2] at hfin
          have HF : Hid (OwnK .i64 3 wr w0.heap.size (.slice (some ⟨w0.heap.size, 0, none⟩) k k) L ∧ Below w0.heap.size w0 wr) := ⟨hfin, hB.out⟩
          have hfits : fitsN a b := fun i h1 h2 => Hx.out i h1 (by rw [HG.out.2.2] at h2; exact h2)
          have cg := good_any _ L (by rw [← HL.out.1]; exact RI_join HG.out.1 HG.out.2.1) wr hfin.nums
          rw [← HL.out.1, ntl_itl] at cg
          by_cases hgj : goodN (joinN a b)
          · rw [decide_eq_true hgj] at cg
            have hX := join_fine HG.out.1 HG.out.2.1 hfits hgj
            rw [HX.out.1, HX.out.2, HL.out.1] at hX
            obtain ⟨rfl, rfl⟩ := hX
            clear hfin hfits hgj Hx
            go_wp2_with fail
            refine cg.mono ?_
            rintro e w5 ⟨rfl, rfl⟩
            go_wp2
            go_ret2
            exact ⟨_, rfl, HF.out⟩
          · rw [decide_eq_false hgj] at cg
            have hX := join_great HG.out.1 HG.out.2.1 hfits hgj
            rw [HX.out.1, HX.out.2] at hX
            obtain ⟨rfl, rfl⟩ := hX
            clear hfin hfits hgj Hx
            go_wp2_with fail
            refine cg.mono ?_
            rintro e w5 ⟨rfl, rfl⟩
            go_wp2
            go_ret2
            exact ⟨_, rfl, OwnK.nil _ _ _ _, HF.out.2⟩
    · rw [decide_eq_false hgb] at cb
      obtain ⟨e1, e2⟩ := join_none (a := a) (b := b) fun h => hgb h.2
      rw [e1, e2]
      clear e1 e2 hga hgb
      go_enter Try.func40, Try.ntmps40
      go_wp2_with fail
      refine ca.mono ?_
      rintro e w0 ⟨rfl, rfl⟩
      go_wp2_with fail
      refine cb.mono ?_
      rintro e w0 ⟨rfl, rfl⟩
      go_wp2
      go_ret2
      exact ⟨_, rfl, OwnK.nil _ _ _ _, Below.refl _ _⟩
  · rw [decide_eq_false hga] at ca
    obtain ⟨e1, e2⟩ := join_none (a := a) (b := b) fun h => hga h.1
    rw [e1, e2]
    clear e1 e2 hga
    go_enter Try.func40, Try.ntmps40
    go_wp2_with fail
    refine ca.mono ?_
    rintro e w0 ⟨rfl, rfl⟩
    go_wp2
    go_ret2
    exact ⟨_, rfl, OwnK.nil _ _ _ _, Below.refl _ _⟩
end Go.Proofs.Ytbndiadgnglkhaa.Wd
