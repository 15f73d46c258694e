/- What the reference's At hands back; what a cut of bytes is. -/
import Derived.Test.YthmpfdkbpdbhnaaPkD
namespace Go.Proofs.Ythmpfdkbpdbhnaa.Wd
open Go.RowKit
set_option linter.unusedVariables false
set_option linter.unusedSimpArgs false
set_option maxHeartbeats 1000000 in
theorem at_any (p : Option Addr) (c m at_ n : Nat) (l : List Int) (hl : l.length = m) (hm : m ≤ 1073741824) (hn : n ≤ 8) (ha : at_ + n ≤ m) (hr : ∀ y, y ∈ l → 0 ≤ y ∧ y < 256) (w : World) (hb : Bytes w (.slice p m c) l) :
    Calls Try.prog 31 #[.slice p m c, .int .i64 (at_ : Int), .int .i64 (n : Int)] w fun e w' => e = .returned (.int .u64 (num ((l.drop at_).take n))) ∧ w' = w := by
  obtain ⟨z, ez⟩ : ∃ z : Nat → Int, (fun i => ((l.drop at_).take n).getD i 0) = z := ⟨_, rfl⟩
  have zi : ∀ i, i < n → l[at_ + i]? = some (z i) := fun i hi => by
    rw [← ez]
    show _ = some (((l.drop at_).take n).getD i 0)
    rw [List.getD_eq_getElem?_getD, List.getElem?_take_of_lt hi, List.getElem?_drop, List.getElem?_eq_getElem (by omega)]
    rfl
  have enum : num ((l.drop at_).take n) = val z n := by
    unfold num
    rw [ez]
    congr 1
    simp; omega
  have hz : ∀ i, i < n → 0 ≤ z i ∧ z i < 256 := fun i hi => hr _ (List.mem_of_getElem? (zi i hi))
  have hc : Hid (∀ j, j < n → ∃ q o, p = some ⟨q, o, none⟩ ∧ w.cell? ⟨q, o + (at_ + j), none⟩ = some (.int .u8 (z j))) := fun j hj => by
    rcases hb with ⟨e, rfl⟩ | ⟨ad, c', e, hx⟩
    · simp at hl; omega
    · cases e
      have h0 := hx (at_ + j) (.int .u8 (z j)) (by rw [List.getElem?_map, zi j hj]; rfl)
      have e0 := hx 0 (.int .u8 (l[0]'(by omega))) (by rw [List.getElem?_map, List.getElem?_eq_getElem (by omega)]; rfl)
      have : ad = ⟨ad.block, ad.off, none⟩ := spot_none (by have : ad.add 0 = ad := by simp [Addr.add]
                                                            rw [this] at e0; exact e0)
      refine ⟨ad.block, ad.off, by rw [← this], ?_⟩
      rw [this, addr_add] at h0
      exact h0
  rw [enum]
  clear enum ez zi hb hr hl
  have hlt := val_lt z n hz
  have hn' : (n : Int) ≤ 8 := by omega
  have ham : (at_ : Int) + (n : Int) ≤ (m : Int) := by omega
  have hmm : (m : Int) ≤ 1073741824 := by omega
  go_enter Try.func31, Try.ntmps31
  go_wp2_with fail
  go_loopg [7, 8] n (fun gg u v wr => ∃ (k : Nat) (x : Int), k ≤ n ∧ gg = n - k ∧ u = .int .u64 x ∧ v = .int .i64 (k : Int) ∧ Hid (x = val z k) ∧ wr = w)
  case atStart => exact ⟨0, 0, by omega, by omega, rfl, rfl, rfl, rfl⟩
  case round =>
    obtain ⟨k, x, hk, hg, rfl, rfl, Hx, rfl⟩ := hrel
    by_cases hk8 : k < n
    · have hk' : (k : Int) < (n : Int) := by omega
      obtain ⟨q, o, rfl, hcell⟩ := hc.out k hk8
      obtain ⟨s, es⟩ : ∃ s, at_ + k = s := ⟨_, rfl⟩
      have hs : (at_ : Int) + (k : Int) = (s : Int) := by omega
      rw [es] at hcell
      have hsm : (s : Int) < (m : Int) := by omega
      have hsm' : s < m := by omega
      clear es
      obtain ⟨y, ey⟩ : ∃ y, z k = y := ⟨_, rfl⟩
      rw [ey] at hcell
      have hy := hz k hk8
      rw [ey] at hy
      have hm := hlt k hk
      have hp := pow7 k (by omega)
      have hm1 : 0 ≤ x ∧ x < 72057594037927936 := by have := Hx.out; omega
      have eo : bits .or .u64 (x * 256) y = x * 256 + y := by
        have := or_split x y 8 (by decide) hm1.1 (by simp; try omega) hy.1 (by simp; try omega)
        simpa using this
      have Hn : Hid (x * 256 + y = val z (k + 1)) := by show _ = _; rw [val, ← Hx.out, ey]
      clear hm hp hlt
      go_wp2
      go_roundg (n - (k + 1))
      case measure => omega
      case rel => exact ⟨k + 1, x * 256 + y, by omega, rfl, rfl, by first | rfl | simp, Hn, rfl⟩
    · obtain rfl : k = n := by omega
      have e := Hx.out
      subst e
      go_wp2
      go_ret
      exact ⟨rfl, rfl⟩
theorem cut_run (p : Option Addr) (n cap at_ a2 : Nat) (h : at_ ≤ a2) (h2 : a2 ≤ cap) (W : World) : Sem.run Try.prog (Instr.slice 31 (.slice p n cap) (some (.int .i64 (at_ : Int))) (some (.int .i64 (a2 : Int))) none) W = .ok (sliced p at_ a2 cap 1) W := by
  have hz : ∀ W, Sem.run Try.prog (sizeOf (Try.prog.elem 31)) W = .ok 1 W := fun W => by kernel_rfl
  have := run_slice_lh (P := Try.prog) W 31 p n cap (by kernel_rfl) .i64 .i64 (at_ : Int) (a2 : Int) (by omega) (by omega) (by omega)
  rw [this, hz]
  simp [Result.andThen]
theorem cut_bytes {W : World} {p : Option Addr} {n cap at_ a2 : Nat} {l : List Int} (h : at_ ≤ a2) (h2 : a2 ≤ n) (hl : l.length = n) (hn : n ≤ cap) (hb : Bytes W (.slice p n cap) l) : Bytes W (sliced p at_ a2 cap 1) ((l.drop at_).take (a2 - at_)) := by
  rcases hb with ⟨e, rfl⟩ | ⟨ad, c', e, hx⟩
  · cases e
    obtain rfl : at_ = 0 := by omega
    obtain rfl : a2 = 0 := by omega
    exact .inl ⟨rfl, rfl⟩
  · cases e
    have hlen : ((l.drop at_).take (a2 - at_)).length = a2 - at_ := by simp; omega
    unfold sliced
    by_cases c : cap = at_
    · rw [if_pos c]
      exact .inr ⟨ad, cap - at_, by rw [hlen], fun j u hu => by
        rw [List.getElem?_eq_none (by rw [List.length_map, hlen]; omega)] at hu
        cases hu⟩
    · rw [if_neg c]
      refine .inr ⟨ad.add (at_ * 1), cap - at_, by rw [hlen]; rfl, fun j u hu => ?_⟩
      rw [List.getElem?_map] at hu
      obtain ⟨x, hx', rfl⟩ := Option.map_eq_some_iff.1 hu
      have hj : j < a2 - at_ := by
        rcases Nat.lt_or_ge j (a2 - at_) with h | h
        · exact h
        · rw [List.getElem?_eq_none (by rw [hlen]; exact h)] at hx'; cases hx'
      rw [List.getElem?_take_of_lt hj, List.getElem?_drop] at hx'
      have h0 := hx (at_ + j) (.int .u8 x) (by rw [List.getElem?_map, hx']; rfl)
      have e0 := hx 0 (.int .u8 (l[0]'(by omega))) (by rw [List.getElem?_map, List.getElem?_eq_getElem (by omega)]; rfl)
      have e1 : ad = ⟨ad.block, ad.off, none⟩ := spot_none (by
        have : ad.add 0 = ad := by simp [Addr.add]
        rw [this] at e0; exact e0)
      rw [e1, addr_add] at h0
      rw [e1, Nat.mul_one, addr_add, addr_add, Nat.add_assoc]
      exact h0
end Go.Proofs.Ythmpfdkbpdbhnaa.Wd
