/- What Put and Get of package wide hand back (beside bytes: no arithmetic of Wides). -/
import Derived.Test.YthmpfdkbpdbhnaaWdl
import Derived.Test.YthmpfdkbpdbhnaaFlow
import Derived.Deep.LoopGhost
namespace Go.Proofs.Ythmpfdkbpdbhnaa.Wd
open Go.RowKit
set_option linter.unusedVariables false
set_option linter.unusedSimpArgs false
theorem wset_same {W : World} {p : Addr} {x v : Value} (h : W.cell? p = some v) : (W.setCell p x).cell? p = some x := World.cell?_setCell_same _ _ _ h
theorem wset_off {W : World} {b i j : Nat} {x : Value} (hij : j ≠ i) : (W.setCell ⟨b, i, none⟩ x).cell? ⟨b, j, none⟩ = W.cell? ⟨b, j, none⟩ := World.cell?_setCell_other _ _ _ _ (by simp; try omega)
theorem two (W : World) (b : Nat) (x0 x1 : Value) {y0 y1 : Value} (h0 : W.cell? ⟨b, 0, none⟩ = some y0) (h1 : W.cell? ⟨b, 1, none⟩ = some y1) :
    ((W.setCell ⟨b, 0, none⟩ x0).setCell ⟨b, 1, none⟩ x1).cell? ⟨b, 0, none⟩ = some x0 ∧ ((W.setCell ⟨b, 0, none⟩ x0).setCell ⟨b, 1, none⟩ x1).cell? ⟨b, 1, none⟩ = some x1 := by
  refine ⟨?_, ?_⟩
  · rw [wset_off (by omega)]; exact wset_same h0
  · exact wset_same (by rw [wset_off (by omega)]; exact h1)
/-- The world behind so many rounds of putWord. -/
def wrt (w : World) (b o : Nat) (n : Int) : Nat → World
  | 0 => w
  | k + 1 => (wrt w b o n k).setCell ⟨b, o + (7 - k), none⟩ (.int .u8 (n / 256 ^ k % 256))
theorem wrt_size (w : World) (b o : Nat) (n : Int) : ∀ k, (wrt w b o n k).heap.size = w.heap.size
  | 0 => rfl
  | k + 1 => by simp only [wrt, World.size_setCell, wrt_size w b o n k]
theorem wrt_frozen (w : World) (b o : Nat) (n : Int) (q : Addr) : ∀ k, (wrt w b o n k).frozen? q = w.frozen? q
  | 0 => rfl
  | k + 1 => by rw [wrt, World.frozen?_setCell, wrt_frozen w b o n q k]
theorem wrt_other (w : World) (b o : Nat) (n : Int) (c i : Nat) (h : c ≠ b ∨ i < o ∨ o + 8 ≤ i) : ∀ k, k ≤ 8 → (wrt w b o n k).cell? ⟨c, i, none⟩ = w.cell? ⟨c, i, none⟩
  | 0, _ => rfl
  | k + 1, hk => by
    rw [wrt, World.cell?_setCell_other _ _ _ _ (by simp; try omega), wrt_other w b o n c i h k (by omega)]
theorem wrt_cell (w : World) (b o : Nat) (n : Int) (hc : ∀ j, j < 8 → ∃ v, w.cell? ⟨b, o + j, none⟩ = some v) (j : Nat) (hj : j < 8) : ∀ k, k ≤ 8 →
    (wrt w b o n k).cell? ⟨b, o + j, none⟩ = if 8 - k ≤ j then some (.int .u8 (n / 256 ^ (7 - j) % 256)) else w.cell? ⟨b, o + j, none⟩
  | 0, _ => by rw [if_neg (by omega)]; rfl
  | k + 1, hk => by
    have ih := wrt_cell w b o n hc j hj k (by omega)
    by_cases c : j = 7 - k
    · subst c
      rw [if_pos (by omega), wrt]
      obtain ⟨v, hv⟩ := hc (7 - k) (by omega)
      rw [if_neg (by omega), hv] at ih
      rw [World.cell?_setCell_same _ _ _ ih, show 7 - (7 - k) = k by omega]
    · rw [wrt, World.cell?_setCell_other _ _ _ _ (by simp; try omega), ih]
      by_cases d : 8 - k ≤ j
      · rw [if_pos d, if_pos (by omega)]
      · rw [if_neg d, if_neg (by omega)]
theorem wrt_below {B : Nat} {a w : World} (h : Below B a w) (b o : Nat) (hb : B ≤ b) (n : Int) : ∀ k, Below B a (wrt w b o n k)
  | 0 => h
  | k + 1 => (wrt_below h b o hb n k).setCell (p := ⟨b, o + (7 - k), none⟩) hb _
set_option maxHeartbeats 1000000 in
theorem putWord_any (b o c : Nat) (n : Int) (hn : 0 ≤ n ∧ n < 18446744073709551616) (w : World) (hc : Hid (∀ j, j < 8 → ∃ v, w.cell? ⟨b, o + j, none⟩ = some v)) (hf : Hid (∀ j, j < 8 → w.frozen? ⟨b, o + j, none⟩ = false)) :
    Calls Try.prog 61 #[.slice (some ⟨b, o, none⟩) 8 c, .int .u64 n] w fun e w' => e = .returned (.tuple #[]) ∧ w' = wrt w b o n 8 := by
  go_enter Try.func61, Try.ntmps61
  go_wp2_with fail
  go_loopg [1, 4] 8 (fun g u v wr => ∃ (k : Nat) (m i : Int), k ≤ 8 ∧ g = 8 - k ∧ u = .int .u64 m ∧ v = .int .i64 i ∧ Hid (i = 7 - (k : Int)) ∧ Hid (m = n / 256 ^ k) ∧ 0 ≤ m ∧ m < 18446744073709551616 ∧ Hid (wr = wrt w b o n k))
  case atStart => exact ⟨0, n, 7, by omega, by omega, rfl, rfl, rfl, show n = n / 256 ^ 0 by simp, by omega, by omega, rfl⟩
  case round =>
    obtain ⟨k, m, i, hk, hg, rfl, rfl, Hi, Hm, hm1, hm2, Hw⟩ := hrel
    by_cases hk8 : k < 8
    · obtain ⟨j, hj⟩ : ∃ j, j = 7 - k := ⟨_, rfl⟩
      have hij : i = (j : Int) := by have := Hi.out; omega
      subst hij
      have hj8 : (j : Int) < 8 := by omega
      have hj7 : j < 8 := by omega
      have Hj : Hid (j = 7 - k) := hj
      clear hj
      obtain ⟨v, hv⟩ : ∃ v, wr.cell? ⟨b, o + j, none⟩ = some v := by
        rw [Hw.out, wrt_cell w b o n hc.out j hj7 k hk]
        split
        · exact ⟨_, rfl⟩
        · exact hc.out j hj7
      have hfz : wr.frozen? ⟨b, o + j, none⟩ = false := by rw [Hw.out, wrt_frozen]; exact hf.out j hj7
      go_wp2
      go_roundg (8 - (k + 1))
      case measure => omega
      case rel =>
        refine ⟨k + 1, m / 256, (j : Int) - 1, by omega, rfl, rfl, by first | rfl | simp, ?_, ?_, by omega, by omega, ?_⟩
        · have := Hj.out
          show _ = _
          omega
        · show _ = _
          rw [Hm.out, Int.pow_succ, Int.ediv_ediv_of_nonneg (Int.pow_nonneg (by decide))]
        · show _ = _
          rw [wrt, ← Hw.out, ← Hm.out, ← Hj.out]
    · obtain rfl : k = 8 := by omega
      have : i = -1 := by have := Hi.out; omega
      subst this
      go_wp2
      go_end0
      exact ⟨rfl, Hw.out⟩
set_option maxHeartbeats 1000000 in
theorem word_any (b o c : Nat) (z : Nat → Int) (hz : ∀ i, i < 8 → 0 ≤ z i ∧ z i < 256) (w : World) (hc : Hid (∀ j, j < 8 → w.cell? ⟨b, o + j, none⟩ = some (.int .u8 (z j)))) :
    Calls Try.prog 57 #[.slice (some ⟨b, o, none⟩) 8 c] w fun e w' => e = .returned (.int .u64 (val z 8)) ∧ w' = w := by
  go_enter Try.func57, Try.ntmps57
  go_wp2_with fail
  go_loopg [3, 8] 8 (fun g u v wr => ∃ (k : Nat) (m : Int), k ≤ 8 ∧ g = 8 - k ∧ u = .int .u64 m ∧ v = .int .i64 (k : Int) ∧ Hid (m = val z k) ∧ wr = w)
  case atStart => exact ⟨0, 0, by omega, by omega, rfl, rfl, rfl, rfl⟩
  case round =>
    obtain ⟨k, m, hk, hg, rfl, rfl, Hm, rfl⟩ := hrel
    by_cases hk8 : k < 8
    · have hk' : (k : Int) < 8 := by omega
      have hcell := hc.out k hk8
      obtain ⟨x, ex⟩ : ∃ x, z k = x := ⟨_, rfl⟩
      rw [ex] at hcell
      have hx := hz k hk8
      rw [ex] at hx
      have hm := val_lt z 8 hz k hk
      have hp := pow7 k hk8
      have hm1 : 0 ≤ m ∧ m < 72057594037927936 := by have := Hm.out; omega
      have eo : bits .or .u64 (m * 256) x = m * 256 + x := by
        have := or_split m x 8 (by decide) hm1.1 (by simp; try omega) hx.1 (by simp; try omega)
        simpa using this
      have Hn : Hid (m * 256 + x = val z (k + 1)) := by show _ = _; rw [val, ← Hm.out, ex]
      clear hm hp
      go_wp2
      go_roundg (8 - (k + 1))
      case measure => omega
      case rel => exact ⟨k + 1, m * 256 + x, by omega, rfl, rfl, by first | rfl | simp, Hn, rfl⟩
    · obtain rfl : k = 8 := by omega
      have e := Hm.out
      subst e
      go_wp2
      go_ret
      exact ⟨rfl, rfl⟩
theorem mk16 (W : World) : Sem.run Try.prog (Instr.makeSlice 31 (.int .i64 16) (.int .i64 16)) W = .ok (.slice (some ⟨W.heap.size, 0, none⟩) 16 16) (W.alloc (.cells #[.int .u8 0, .int .u8 0, .int .u8 0, .int .u8 0, .int .u8 0, .int .u8 0, .int .u8 0, .int .u8 0, .int .u8 0, .int .u8 0, .int .u8 0, .int .u8 0, .int .u8 0, .int .u8 0, .int .u8 0, .int .u8 0] 5)) := by
  kernel_rfl
attribute [local go_sem] mk16
theorem new16 (W : World) (cs : Array Value) (t : TypeId) (h : cs.size = 16) : (∀ j, j < 16 → ∃ v, (W.alloc (.cells cs t)).cell? ⟨W.heap.size, j, none⟩ = some v) ∧ (∀ j, (W.alloc (.cells cs t)).frozen? ⟨W.heap.size, j, none⟩ = false) := by
  have e : (W.alloc (.cells cs t)).heap[W.heap.size]? = some (.cells cs t) := by
    show (W.heap.push _)[W.heap.size]? = _
    simp
  refine ⟨fun j hj => ⟨cs[j]'(by omega), ?_⟩, fun j => ?_⟩
  · unfold World.cell?
    simp only [e]
    simp
  · unfold World.frozen?
    simp only [e]
    simp
set_option maxHeartbeats 2000000 in
theorem put_any (a : Int) (ha : InW a) (w : World) :
    Calls Try.prog 49 #[wd a] w fun e w' => ∃ b, e = .returned (.slice (some ⟨b, 0, none⟩) 16 16) ∧ w.heap.size ≤ b ∧ Bytes w' (.slice (some ⟨b, 0, none⟩) 16 16) (be 16 a) ∧ Below w.heap.size w w' := by
  obtain ⟨h, l, e, h1, h2, l1, l2, H⟩ := words ha
  rw [e]
  clear e
  obtain ⟨x, ex⟩ : ∃ x, h % 18446744073709551616 = x := ⟨_, rfl⟩
  have hx : 0 ≤ x ∧ x < 18446744073709551616 := by omega
  have hl : 0 ≤ l ∧ l < 18446744073709551616 := by omega
  have ew : IntKind.u64.wrap h = x := by rw [IntKind.wrap_u64, ex]
  have HF : Hid (be 8 x ++ be 8 l = be 16 a) := by
    have := H.out
    show _ = _
    rw [← ex, be8_mod, ← be_88 a, show a / 18446744073709551616 = h by omega, ← be8_mod a, show a % 18446744073709551616 = l by omega]
  clear ex H ha
  haveI : Nonempty World := ⟨w⟩
  go_enter Try.func49, Try.ntmps49
  go_wp2_with fail
  refine name_world (fun W0 hW0 => ?_)
  have B0 : Below w.heap.size w W0 := by rw [hW0]; go_grown
  have X0 : W0.cell? ⟨w.heap.size, 0, none⟩ = some (.int .i64 h) ∧ W0.cell? ⟨w.heap.size, 1, none⟩ = some (.int .u64 l) := by rw [hW0]; simp [go_sem]
  have s0 : w.heap.size + 1 < W0.heap.size := by rw [hW0]; simp
  have s0' : w.heap.size < W0.heap.size := by omega
  have ZF : Hid ((∀ j, j < 16 → ∃ v, W0.cell? ⟨w.heap.size + 1, j, none⟩ = some v) ∧ (∀ j, W0.frozen? ⟨w.heap.size + 1, j, none⟩ = false)) := by
    rw [hW0]
    have := new16 (w.alloc (.cells #[.int .i64 h, .int .u64 l] 47)) #[.int .u8 0, .int .u8 0, .int .u8 0, .int .u8 0, .int .u8 0, .int .u8 0, .int .u8 0, .int .u8 0, .int .u8 0, .int .u8 0, .int .u8 0, .int .u8 0, .int .u8 0, .int .u8 0, .int .u8 0, .int .u8 0] 5 rfl
    rw [World.size_alloc] at this
    exact this
  clear hW0
  refine flow 5 17 (by kernel_rfl) rfl rfl (by kernel_rfl) ?_
  apply Exists.intro
  refine ⟨?_, ?_⟩
  · intro F hF
    have hFc := hF.cell
    have hFf := hF.frozen
    simp only [List.take_succ_cons, List.take_zero, List.eraseIdx_cons_succ, List.eraseIdx_cons_zero]
    repeat (go_big_quiet_step (fail))
    refine wpQuiet_nil ?_
    exact rfl
  · intro W1 hb1
    simp only [List.drop_succ_cons, List.drop_zero]
    have B1 := B0.trans (hb1.mono B0.size)
    have X1 := up_two hb1 X0
    have s1 : w.heap.size + 1 < W1.heap.size := Nat.lt_of_lt_of_le s0 hb1.size
    have Z1 : Hid ((∀ j, j < 16 → ∃ v, W1.cell? ⟨w.heap.size + 1, j, none⟩ = some v) ∧ (∀ j, W1.frozen? ⟨w.heap.size + 1, j, none⟩ = false)) :=
      ⟨fun j hj => by obtain ⟨v, hv⟩ := ZF.out.1 j hj; exact ⟨v, keep hb1 hv⟩, fun j => by rw [(bcell hb1).2 _ _ s0]; exact ZF.out.2 j⟩
    clear hb1 ZF X0 B0 s0 s0'
    go_wp2_with fail
    refine (putWord_any (w.heap.size + 1) 0 16 x hx W1 (show ∀ j, j < 8 → _ from fun j hj => by rw [Nat.zero_add]; exact Z1.out.1 j (by omega)) (show ∀ j, j < 8 → _ from fun j hj => Z1.out.2 _)).mono ?_
    rintro e' w2 ⟨rfl, hw2⟩
    have B2 : Below w.heap.size w w2 := by rw [hw2]; exact wrt_below B1 _ _ (by omega) _ _
    have X2 : w2.cell? ⟨w.heap.size, 0, none⟩ = some (.int .i64 h) ∧ w2.cell? ⟨w.heap.size, 1, none⟩ = some (.int .u64 l) := by
      rw [hw2]
      exact ⟨(wrt_other _ _ _ _ _ _ (.inl (by omega)) 8 (by omega)).trans X1.1, (wrt_other _ _ _ _ _ _ (.inl (by omega)) 8 (by omega)).trans X1.2⟩
    have s2 : w.heap.size + 1 < w2.heap.size := by rw [hw2, wrt_size]; exact s1
    have s2' : w.heap.size < w2.heap.size := by omega
    have Z2 : Hid ((∀ j, j < 8 → w2.cell? ⟨w.heap.size + 1, j, none⟩ = some (.int .u8 (x / 256 ^ (7 - j) % 256))) ∧ (∀ j, 8 ≤ j → j < 16 → ∃ v, w2.cell? ⟨w.heap.size + 1, j, none⟩ = some v) ∧ (∀ j, w2.frozen? ⟨w.heap.size + 1, j, none⟩ = false)) := by
      rw [hw2]
      refine ⟨fun j hj => ?_, fun j hj hj' => ?_, fun j => by rw [wrt_frozen]; exact Z1.out.2 j⟩
      · have := wrt_cell W1 (w.heap.size + 1) 0 x (fun j hj => by rw [Nat.zero_add]; exact Z1.out.1 j (by omega)) j hj 8 (by omega)
        rw [if_pos (by omega), Nat.zero_add] at this
        exact this
      · obtain ⟨v, hv⟩ := Z1.out.1 j hj'
        exact ⟨v, (wrt_other _ _ _ _ _ _ (.inr (.inr (by omega))) 8 (by omega)).trans hv⟩
    clear hw2 Z1 X1 B1 s1
    go_wp2_with fail
    refine flow 4 17 (by kernel_rfl) rfl rfl (by kernel_rfl) ?_
    apply Exists.intro
    refine ⟨?_, ?_⟩
    · intro F hF
      have hFc := hF.cell
      have hFf := hF.frozen
      simp only [List.take_succ_cons, List.take_zero, List.eraseIdx_cons_succ, List.eraseIdx_cons_zero]
      repeat (go_big_quiet_step (fail))
      refine wpQuiet_nil ?_
      exact rfl
    · intro W3 hb3
      simp only [List.drop_succ_cons, List.drop_zero]
      have B3 := B2.trans (hb3.mono B2.size)
      have Z3 : Hid ((∀ j, j < 8 → W3.cell? ⟨w.heap.size + 1, j, none⟩ = some (.int .u8 (x / 256 ^ (7 - j) % 256))) ∧ (∀ j, 8 ≤ j → j < 16 → ∃ v, W3.cell? ⟨w.heap.size + 1, j, none⟩ = some v) ∧ (∀ j, W3.frozen? ⟨w.heap.size + 1, j, none⟩ = false)) :=
        ⟨fun j hj => keep hb3 (Z2.out.1 j hj), fun j hj hj' => by obtain ⟨v, hv⟩ := Z2.out.2.1 j hj hj'; exact ⟨v, keep hb3 hv⟩, fun j => by rw [(bcell hb3).2 _ _ s2]; exact Z2.out.2.2 j⟩
      clear hb3 Z2 X2 B2 s2 s2'
      go_wp2_with fail
      have hc8 : ∀ j, j < 8 → ∃ v, W3.cell? ⟨w.heap.size + 1, 8 + j, none⟩ = some v := fun j hj => Z3.out.2.1 _ (by omega) (by omega)
      have HC8 : Hid (∀ j, j < 8 → ∃ v, W3.cell? ⟨w.heap.size + 1, 8 + j, none⟩ = some v) := hc8
      clear hc8
      refine (putWord_any (w.heap.size + 1) 8 8 l hl W3 HC8 (show ∀ j, j < 8 → _ from fun j hj => Z3.out.2.2 _)).mono ?_
      rintro e' w4 ⟨rfl, hw4⟩
      have B4 : Below w.heap.size w w4 := by rw [hw4]; exact wrt_below B3 _ _ (by omega) _ _
      have R4 : Hid (Bytes w4 (.slice (some ⟨w.heap.size + 1, 0, none⟩) 16 16) (be 16 a)) := by
        refine .inr ⟨⟨w.heap.size + 1, 0, none⟩, 16, by rw [be_len], fun j u hu => ?_⟩
        rw [← HF.out, List.getElem?_map] at hu
        rw [addr0, hw4]
        rcases Nat.lt_or_ge j 8 with c | c
        · rw [List.getElem?_append_left (by rw [be_len]; exact c), be_get 8 x j c] at hu
          simp only [Option.map_some, Option.some.injEq] at hu
          rw [wrt_other _ _ _ _ _ _ (.inr (.inl c)) 8 (by omega), Z3.out.1 j c, ← hu]
        · rw [List.getElem?_append_right (by rw [be_len]; exact c), be_len] at hu
          have hj : j - 8 < 8 := by
            rcases Nat.lt_or_ge (j - 8) 8 with d | d
            · exact d
            · rw [List.getElem?_eq_none (by rw [be_len]; exact d)] at hu
              cases hu
          rw [be_get 8 l (j - 8) hj] at hu
          simp only [Option.map_some, Option.some.injEq] at hu
          have := wrt_cell W3 (w.heap.size + 1) 8 l HC8.out (j - 8) hj 8 (by omega)
          rw [if_pos (by omega), show 8 + (j - 8) = j by omega] at this
          rw [this, ← hu]
      clear hw4 Z3 HC8 HF
      go_wp2
      refine bodyPost_ret (v := .slice (some ⟨w.heap.size + 1, 0, none⟩) 16 16) (by simp [results, Try.results49, go_sem]) rfl ⟨_, rfl, by omega, R4.out, B4⟩
/-- The number that sixteen bytes are. -/
def big (z : Nat → Int) : Int := wr (val z 8 * 18446744073709551616 + val (fun i => z (8 + i)) 8)
set_option maxHeartbeats 2000000 in
theorem get_any (b o c : Nat) (z : Nat → Int) (hz : ∀ i, i < 16 → 0 ≤ z i ∧ z i < 256) (h16 : 16 ≤ c) (hcap : c ≤ 9223372036854775807) (w : World) (hb : b < w.heap.size) (hc : Hid (∀ j, j < 16 → w.cell? ⟨b, o + j, none⟩ = some (.int .u8 (z j)))) :
    Calls Try.prog 43 #[.slice (some ⟨b, o, none⟩) 16 c] w fun e w' => e = .returned (.tuple #[wd (big z), .int .i64 0]) ∧ Below w.heap.size w w' := by
  have v1 := val_lt z 8 (fun i hi => hz i (by omega)) 8 (by omega)
  have v2 := val_lt (fun i => z (8 + i)) 8 (fun i hi => hz (8 + i) (by omega)) 8 (by omega)
  have kp : ∀ (W : World) (c : Nat), Below w.heap.size w W → Calls Try.prog 57 #[.slice (some ⟨b, o, none⟩) 8 c] W fun e w' => e = .returned (.int .u64 (val z 8)) ∧ w' = W :=
    fun W c hW => word_any b o c z (fun i hi => hz i (by omega)) W (show ∀ j, j < 8 → _ from fun j hj => by rw [(bcell hW).1 _ _ hb]; exact hc.out j (by omega))
  have kq : ∀ (W : World) (c : Nat), Below w.heap.size w W → Calls Try.prog 57 #[.slice (some ⟨b, o + 8, none⟩) 8 c] W fun e w' => e = .returned (.int .u64 (val (fun i => z (8 + i)) 8)) ∧ w' = W :=
    fun W c hW => word_any b (o + 8) c (fun i => z (8 + i)) (fun i hi => hz (8 + i) (by omega)) W (show ∀ j, j < 8 → _ from fun j hj => by rw [(bcell hW).1 _ _ hb, Nat.add_assoc]; exact hc.out (8 + j) (by omega))
  obtain ⟨p, ep⟩ : ∃ p, val z 8 = p := ⟨_, rfl⟩
  obtain ⟨q, eq⟩ : ∃ q, val (fun i => z (8 + i)) 8 = q := ⟨_, rfl⟩
  rw [ep] at kp v1
  rw [eq] at kq v2
  have e256 : (256 : Int) ^ 8 = 18446744073709551616 := by decide
  rw [e256] at v1 v2
  obtain ⟨hi, ehi⟩ : ∃ hi, IntKind.i64.wrap p = hi := ⟨_, rfl⟩
  have er : wd (big z) = .agg #[.int .i64 hi, .int .u64 q] := by
    unfold big
    rw [ep, eq, ← ehi, IntKind.wrap_i64]
    refine (wd_eq ?_ ?_).symm <;> unfold wr <;> omega
  rw [er]
  clear er ep eq e256 hz hc
  haveI : Nonempty World := ⟨w⟩
  go_enter Try.func43, Try.ntmps43
  go_wp2_with fail
  refine name_world (fun W0 hW0 => ?_)
  have B0 : Below w.heap.size w W0 := by rw [hW0]; go_grown
  have X0 : W0.cell? ⟨w.heap.size, 0, none⟩ = some (.int .i64 0) ∧ W0.cell? ⟨w.heap.size, 1, none⟩ = some (.int .u64 0) ∧ W0.frozen? ⟨w.heap.size, 0, none⟩ = false ∧ W0.frozen? ⟨w.heap.size, 1, none⟩ = false := by rw [hW0]; simp [go_sem]
  have s0 : w.heap.size < W0.heap.size := by rw [hW0]; simp
  clear hW0
  refine flow 8 16 (by kernel_rfl) rfl rfl (by kernel_rfl) ?_
  apply Exists.intro
  refine ⟨?_, ?_⟩
  · intro F hF
    have hFc := hF.cell
    have hFf := hF.frozen
    simp only [List.take_succ_cons, List.take_zero, List.eraseIdx_cons_succ, List.eraseIdx_cons_zero]
    repeat (go_big_quiet_step (first | (go_at_call 57; with_reducible exact hF.same (kp _ _ (B0.trans ((hF.below _).mono B0.size)))) | (go_at_call 57; with_reducible exact hF.same (kq _ _ (B0.trans ((hF.below _).mono B0.size))))))
    refine wpQuiet_nil ?_
    exact rfl
  · intro W1 hb1
    simp only [List.drop_succ_cons, List.drop_zero]
    have B1 := B0.trans (hb1.mono B0.size)
    have x0 := keep hb1 X0.1
    have x1 := keep hb1 X0.2.1
    have f0 := keepf hb1 X0.1 X0.2.2.1
    have f1 := keepf hb1 X0.2.1 X0.2.2.2
    have s1 : w.heap.size < W1.heap.size := Nat.lt_of_lt_of_le s0 hb1.size
    have B2 := below_set2 B1 w.heap.size (Nat.le_refl _) (.int .i64 hi) (.int .u64 q)
    obtain ⟨y0, y1⟩ := two W1 w.heap.size (.int .i64 hi) (.int .u64 q) x0 x1
    clear hb1 X0 kp kq B0 s0
    go_wp2
    refine bodyPost_ret (v := .tuple #[.agg #[.int .i64 hi, .int .u64 q], .int .i64 0]) (by simp [results, Try.results43, go_sem, y0, y1]) rfl ⟨rfl, B2⟩
end Go.Proofs.Ythmpfdkbpdbhnaa.Wd
