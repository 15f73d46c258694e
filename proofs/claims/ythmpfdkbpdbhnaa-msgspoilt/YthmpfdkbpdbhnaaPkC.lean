/- What package pack's U16, U32, U64 hand back. -/
import Derived.Test.YthmpfdkbpdbhnaaPkB
import Derived.Laws.CopyOwn
namespace Go.Proofs.Ythmpfdkbpdbhnaa.Wd
open Go.RowKit
set_option linter.unusedVariables false
set_option linter.unusedSimpArgs false
/-- The bytes of a row in the making: l, noughts, the k lowest bytes of x. -/
def rowN (l : List Int) (n : Nat) (x : Int) (k : Nat) : List Int := l ++ (List.replicate (n - k) 0 ++ be k x)
theorem rowN_len (l : List Int) (n : Nat) (x : Int) (k : Nat) (h : k ≤ n) : (rowN l n x k).length = l.length + n := by
  simp [rowN, be_len]; omega
theorem rowN_set (l : List Int) (n : Nat) (x : Int) (k : Nat) (h : k < n) : (rowN l n x k).set (l.length + (n - 1 - k)) (x / 256 ^ k % 256) = rowN l n x (k + 1) := by
  unfold rowN
  have e1 : n - k = (n - 1 - k) + 1 := by omega
  have e2 : be (k + 1) x = [x / 256 ^ k % 256] ++ be k x := by
    have := be_add 1 k x
    rw [Nat.add_comm 1 k] at this
    rw [this]
    simp [be]
  rw [List.set_append_right _ _ (by omega), Nat.add_sub_cancel_left, e1, show n - (k + 1) = n - 1 - k by omega, e2, List.replicate_succ', List.append_assoc, List.set_append_right _ _ (by simp)]
  simp
def bv (l : List Int) : List Value := l.map (Value.int .u8)
theorem bv_set (l : List Int) (i : Nat) (x : Int) : (bv l).set i (.int .u8 x) = bv (l.set i x) := by
  unfold bv
  rw [List.map_set]
theorem made8 (n : Nat) : (madeCells (Value.int .u8 0).cells n).toList = bv (List.replicate n 0) := by
  unfold madeCells bv
  refine List.ext_getElem (by simp) fun i h1 h2 => ?_
  simp [Value.cells, Nat.mod_one]
theorem spliceN (l : List Int) (n : Nat) (x : Int) : splice (bv (List.replicate (l.length + n) 0)) 0 (bv l) = bv (rowN l n x 0) := by
  unfold splice bv rowN
  simp [be, List.drop_replicate]
theorem row_cell {W : World} {g i : Nat} {L : List Int} {t : TypeId} (h : W.heap[g]? = some (.cells (bv L).toArray t (0, 0))) (hi : i < L.length) : W.cell? ⟨g, i, none⟩ = some (.int .u8 (L.getD i 0)) ∧ W.frozen? ⟨g, i, none⟩ = false := by
  constructor
  · unfold World.cell?
    simp only [h]
    simp [bv, hi]
  · unfold World.frozen?
    simp only [h]
    simp
theorem row_set {W : World} {g i : Nat} {L : List Int} {t : TypeId} {x : Int} (h : W.heap[g]? = some (.cells (bv L).toArray t (0, 0))) : (W.setCell ⟨g, i, none⟩ (.int .u8 x)).heap[g]? = some (.cells (bv (L.set i x)).toArray t (0, 0)) := by
  rw [setCell_eq_setRow W g i _ t (0, 0) _ h, setRow_heap W g _ _ t _ h, ← bv_set]
  simp
theorem row_own {W : World} {B g : Nat} {L : List Int} (hB : B ≤ g) (hm : L.length ≤ 1073741824) (h : W.heap[g]? = some (.cells (bv L).toArray 5 (0, 0))) : Own8 W B (.slice (some ⟨g, 0, none⟩) L.length L.length) L := by
  refine ⟨by simp, .inr ⟨g, L.length, _, rfl, hB, h, Nat.le_refl _, by unfold maxLen; omega, by simp [bv], ?_⟩⟩
  rw [Nat.mul_one, List.take_of_length_le (by simp [bv])]
  rfl
theorem made_row {W : World} {B g s : Nat} {L : Nat} (h : W.ownsRow B 5 1 (.slice (some ⟨g, 0, none⟩) s s) s (madeCells (Value.int .u8 0).cells (s * 1)).toList) (e : L = s) : Hid (W.heap[g]? = some (.cells (bv (List.replicate L 0)).toArray 5 (0, 0))) := by
  subst e
  rcases h.2 with ⟨h, _⟩ | ⟨g, cap, cur, h, _, hg, h1, h2, h3, h4⟩
  · cases h
  · cases h
    rw [Nat.mul_one, made8] at h4
    have : cur.toList = bv (List.replicate L 0) := by rw [← h4, List.take_of_length_le (by simp; omega)]
    show _ = _
    rw [hg, ← this]
theorem src_up {W W1 : World} {m : Nat} {l : List Int} {p : Option Addr} (h : Hid (0 < m → ∃ ad, p = some ad ∧ ∀ j u, (bv l)[j]? = some u → W.cell? (ad.add j) = some u)) (hB : Below W.heap.size W W1) : Hid (0 < m → ∃ ad, p = some ad ∧ ∀ j u, (bv l)[j]? = some u → W1.cell? (ad.add j) = some u) := fun h0 => by
  obtain ⟨ad, h1, h2⟩ := h.out h0
  refine ⟨ad, h1, fun j u hu => ?_⟩
  have h3 := h2 j u hu
  rw [hB.cell (p := ad.add j) (by
    unfold World.cell? at h3
    by_cases c : (ad.add j).block < W.heap.size
    · exact c
    · rw [show W.heap[(ad.add j).block]? = none from by simp; omega] at h3
      simp at h3)]
  exact h3
set_option maxHeartbeats 2000000 in
theorem behind_any (v : Value) (l : List Int) (hl : l.length ≤ 1073741800) (x : Int) (hx : 0 ≤ x ∧ x < 18446744073709551616) (n : Nat) (hn : n ≤ 8) (w : World) (hv : Bytes w v l) :
    Calls Try.prog 59 #[v, .int .u64 x, .int .i64 (n : Int)] w fun e w' => ∃ v', e = .returned v' ∧ Own8 w' w.heap.size v' (l ++ be n x) ∧ Below w.heap.size w w' := by
  obtain ⟨i0, hi, hz0, hz1, hz2⟩ := info_parts info8
  obtain ⟨m, em⟩ : ∃ m, l.length = m := ⟨_, rfl⟩
  obtain ⟨p, c, rfl, hp⟩ : ∃ p c, v = .slice p m c ∧ Hid (0 < m → ∃ ad, p = some ad ∧ ∀ j u, (bv l)[j]? = some u → w.cell? (ad.add j) = some u) := by
    rcases hv with ⟨rfl, rfl⟩ | ⟨ad, c, rfl, h⟩
    · exact ⟨none, 0, by rw [← em]; rfl, fun h => by simp at em; omega⟩
    · exact ⟨_, _, by rw [em], fun _ => ⟨ad, rfl, h⟩⟩
  have hsum : (m : Int) + (n : Int) = ((m + n : Nat) : Int) := by omega
  obtain ⟨s, es⟩ : ∃ s, m + n = s := ⟨_, rfl⟩
  have Hs : Hid (m + n = s) := es
  rw [es] at hsum
  have hs : s ≤ 1073741824 := by omega
  have hs' : (s : Int) ≤ 1073741824 := by omega
  clear es
  rw [em] at hl
  clear hv
  go_enter Try.func59, Try.ntmps59
  go_wp2_with (first
    | (at_make; refine wpList_make_full _ rfl (.tmp 12) (.tmp 12) 31 rfl w.heap.size 5 i0 (.int .u8 0) 1 Try.underlying31 hi hz0 hz1 .i64 .i64 s s s rfl rfl rfl rfl (by rw [hz2]; omega) (by unfold maxLen; omega) (Nat.le_refl _) ?_; intro w1 hown1 hgrow1; have B1 : Below w.heap.size w w1 := Below.grown (Below.refl _ _) hgrow1 (Nat.le_refl _) (fun k hk => by cases hk); have R1 : Hid (w1.heap[w.heap.size]? = some (.cells (bv (List.replicate (l.length + n) 0)).toArray 5 (0, 0))) := made_row hown1 (by rw [em]; exact Hs.out); have S1 := src_up hp B1; clear hown1 hgrow1 hp)
    | (have hR := R1.out; refine wpList_copy_splice rfl (.tmp 14) (.tmp 15) 31 31 rfl 5 Try.underlying31 (by kernel_rfl) _ _ _ _ _ _ rfl rfl w.heap.size 0 _ 5 hR (bv l) (by unfold bv; rw [List.length_map, em]; have := Hs.out; exact (Nat.min_eq_left (by omega)).symm) (fun h0 => ⟨rfl, S1.out (by simpa [bv, em] using h0)⟩) (by simp [bv]) (one8 l) w.heap.size w B1 (Nat.le_refl _) ?_; intro w2 R2 B2; rw [spliceN l n x] at R2; clear R1 S1 B1 hR))
  go_loopg [1, 8] n (fun gg u v wr => ∃ (k : Nat) (y i : Int), k ≤ n ∧ gg = n - k ∧ u = .int .u64 y ∧ v = .int .i64 i ∧ Hid (i = (m : Int) + (n : Int) - 1 - (k : Int)) ∧ Hid (y = x / 256 ^ k) ∧ 0 ≤ y ∧ y < 18446744073709551616 ∧ Hid (wr.heap[w.heap.size]? = some (.cells (bv (rowN l n x k)).toArray 5 (0, 0))) ∧ Below w.heap.size w wr)
  case atStart => exact ⟨0, x, (s : Int) - 1, by omega, by omega, rfl, rfl, by have := Hs.out; show _ = _; omega, show x = x / 256 ^ 0 by simp, by omega, by omega, R2, B2⟩
  case round =>
    obtain ⟨k, y, i, hk, hg, rfl, rfl, Hi, Hy, hy1, hy2, HR, hB⟩ := hrel
    by_cases hkn : k < n
    · obtain ⟨j, hj⟩ : ∃ j, j = m + (n - 1 - k) := ⟨_, rfl⟩
      have hij : i = (j : Int) := by have := Hi.out; omega
      subst hij
      have hjm : (m : Int) ≤ (j : Int) := by omega
      have hjs : (j : Int) < (s : Int) := by have := Hs.out; omega
      have hjs' : j < s := by omega
      have Hj : Hid (j = m + (n - 1 - k)) := hj
      clear hj
      obtain ⟨hcell, hfz⟩ := row_cell HR.out (i := j) (by rw [rowN_len _ _ _ _ hk, em, Hs.out]; exact hjs')
      have H2 : ∀ z, z = y % 256 → Hid ((wr.setCell ⟨w.heap.size, j, none⟩ (.int .u8 z)).heap[w.heap.size]? = some (.cells (bv (rowN l n x (k + 1))).toArray 5 (0, 0))) := fun z hz => by
        have := row_set (i := j) (x := x / 256 ^ k % 256) HR.out
        rw [Hj.out, ← em, rowN_set l n x k hkn, em, ← Hj.out, ← Hy.out, ← hz] at this
        exact this
      have HH2 : Hid (∀ z, z = y % 256 → Hid ((wr.setCell ⟨w.heap.size, j, none⟩ (.int .u8 z)).heap[w.heap.size]? = some (.cells (bv (rowN l n x (k + 1))).toArray 5 (0, 0)))) := H2
      clear H2
      go_wp2
      go_roundg (n - (k + 1))
      case measure => omega
      case rel =>
        refine ⟨k + 1, y / 256, (j : Int) - 1, by omega, rfl, rfl, by first | rfl | simp, ?_, ?_, by omega, by omega, HH2.out _ (by omega), hB.setCell (p := ⟨w.heap.size, j, none⟩) (Nat.le_refl _) _⟩
        · have := Hj.out
          show _ = _
          omega
        · show _ = _
          rw [Hy.out, Int.pow_succ, Int.ediv_ediv_of_nonneg (Int.pow_nonneg (by decide))]
    · obtain rfl : k = n := by omega
      have hi0 : i < (m : Int) := by have := Hi.out; omega
      have hi1 : -1 ≤ i := by have := Hi.out; omega
      go_wp2
      have hfin := row_own (B := w.heap.size) (Nat.le_refl _) (by rw [rowN_len _ _ _ _ (Nat.le_refl _), em, Hs.out]; exact hs) HR.out
      rw [rowN_len _ _ _ _ (Nat.le_refl _), em, Hs.out, show rowN l k x k = l ++ be k x by simp [rowN]] at hfin
      refine bodyPost_ret (v := .slice (some ⟨w.heap.size, 0, none⟩) s s) (by simp [results, Try.results59, go_sem]) rfl ⟨_, rfl, hfin, hB⟩
set_option maxHeartbeats 1000000 in
theorem pu16_any (v : Value) (l : List Int) (hl : l.length ≤ 1073741800) (x : Int) (hx : -9223372036854775808 ≤ x ∧ x ≤ 9223372036854775807) (w : World) (hv : Bytes w v l) :
    Calls Try.prog 46 #[v, .int .i64 x] w fun e w' => ∃ v', e = .returned v' ∧ Own8 w' w.heap.size v' (l ++ be 2 x) ∧ Below w.heap.size w w' := by
  obtain ⟨y, ey⟩ : ∃ y, x % 18446744073709551616 = y := ⟨_, rfl⟩
  have ew : IntKind.u64.wrap x = y := by rw [IntKind.wrap_u64, ey]
  have c := behind_any v l hl y (by omega) 2 (by omega) w hv
  have eb : be 2 y = be 2 x := by
    rw [← ey]
    simp only [be2, List.cons.injEq, and_true]
    omega
  rw [eb, show ((2 : Nat) : Int) = 2 from rfl] at c
  clear ey eb hv
  go_enter Try.func46, Try.ntmps46
  go_wp2_with fail
  refine c.mono ?_
  rintro e w1 ⟨v1, rfl, ho, hb⟩
  have H : Hid (Own8 w1 w.heap.size v1 (l ++ be 2 x) ∧ Below w.heap.size w w1) := ⟨ho, hb⟩
  clear ho hb c
  go_wp2
  refine bodyPost_ret (v := v1) (by simp [results, Try.results46, go_sem]) rfl ⟨_, rfl, H.out⟩
set_option maxHeartbeats 1000000 in
theorem pu32_any (v : Value) (l : List Int) (hl : l.length ≤ 1073741800) (x : Int) (hx : 0 ≤ x ∧ x < 4294967296) (w : World) (hv : Bytes w v l) :
    Calls Try.prog 45 #[v, .int .u32 x] w fun e w' => ∃ v', e = .returned v' ∧ Own8 w' w.heap.size v' (l ++ be 4 x) ∧ Below w.heap.size w w' := by
  have c := behind_any v l hl x (by omega) 4 (by omega) w hv
  rw [show ((4 : Nat) : Int) = 4 from rfl] at c
  clear hv
  go_enter Try.func45, Try.ntmps45
  go_wp2_with fail
  refine c.mono ?_
  rintro e w1 ⟨v1, rfl, ho, hb⟩
  have H : Hid (Own8 w1 w.heap.size v1 (l ++ be 4 x) ∧ Below w.heap.size w w1) := ⟨ho, hb⟩
  clear ho hb c
  go_wp2
  refine bodyPost_ret (v := v1) (by simp [results, Try.results45, go_sem]) rfl ⟨_, rfl, H.out⟩
set_option maxHeartbeats 1000000 in
theorem pu64_any (v : Value) (l : List Int) (hl : l.length ≤ 1073741800) (x : Int) (hx : 0 ≤ x ∧ x < 18446744073709551616) (w : World) (hv : Bytes w v l) :
    Calls Try.prog 48 #[v, .int .u64 x] w fun e w' => ∃ v', e = .returned v' ∧ Own8 w' w.heap.size v' (l ++ be 8 x) ∧ Below w.heap.size w w' := by
  have c := behind_any v l hl x (by omega) 8 (by omega) w hv
  rw [show ((8 : Nat) : Int) = 8 from rfl] at c
  clear hv
  go_enter Try.func48, Try.ntmps48
  go_wp2_with fail
  refine c.mono ?_
  rintro e w1 ⟨v1, rfl, ho, hb⟩
  have H : Hid (Own8 w1 w.heap.size v1 (l ++ be 8 x) ∧ Below w.heap.size w w1) := ⟨ho, hb⟩
  clear ho hb c
  go_wp2
  refine bodyPost_ret (v := v1) (by simp [results, Try.results48, go_sem]) rfl ⟨_, rfl, H.out⟩
end Go.Proofs.Ythmpfdkbpdbhnaa.Wd
