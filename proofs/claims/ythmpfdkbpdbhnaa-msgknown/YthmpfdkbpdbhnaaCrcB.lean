/- What package crc's More and Of and the reference's hand back. -/
import Derived.Test.YthmpfdkbpdbhnaaCrcA
namespace Go.Proofs.Ythmpfdkbpdbhnaa.Wd
open Go.RowKit
set_option linter.unusedVariables false
set_option linter.unusedSimpArgs false
attribute [local go_sem] nosign32
/-- The run over the first k of the numbers z 0, z 1 .. -/
def runK (s : Nat) (z : Nat → Int) : Nat → Nat
  | 0 => s
  | k + 1 => byteN (runK s z k) (z k).toNat
theorem runK_lt (s : Nat) (z : Nat → Int) (n : Nat) (hs : s < 4294967296) (hz : ∀ i, i < n → 0 ≤ z i ∧ z i < 256) : ∀ k, k ≤ n → runK s z k < 4294967296
  | 0, _ => hs
  | k + 1, h => byteN_lt (runK_lt s z n hs hz k (by omega)) (by have := hz k (by omega); omega)
def nats (l : List Int) : List Nat := l.map Int.toNat
theorem runK_eq (s : Nat) (z : Nat → Int) : ∀ k, runN s (nats ((List.range k).map z)) = runK s z k
  | 0 => rfl
  | k + 1 => by
    rw [List.range_succ, List.map_append, nats, List.map_append, runN_append]
    have := runK_eq s z k
    unfold nats at this
    rw [this]
    rfl
theorem runK_list (s : Nat) (l : List Int) : runN s (nats l) = runK s (fun i => l.getD i 0) l.length := by
  rw [← runK_eq]
  congr 2
  refine List.ext_getElem (by simp) fun i h1 h2 => ?_
  simp [List.getD_eq_getElem?_getD, List.getElem?_eq_getElem h1]
theorem turn32 (c : Int) (m : Nat) (e : c = (m : Int)) (hm : m < 4294967296) : bits .xor .u32 4294967295 c = ((4294967295 ^^^ m : Nat) : Int) := by
  subst e
  have := xor_32 4294967295 m (by omega) hm
  simpa using this
theorem one_byte (x y : Int) (m b : Nat) (e : x = (m : Int)) (f : y = (b : Int)) (hm : m < 4294967296) (hb : b < 256) : bits .xor .u32 x y = ((m ^^^ b : Nat) : Int) := by
  subst e f
  exact xor_32 m b hm (by omega)
theorem Bytes.view {W : World} {v : Value} {l : List Int} (h : Bytes W v l) : ∃ p c, v = .slice p l.length c ∧ ∀ j, j < l.length → ∃ ad, p = some ad ∧ W.cell? (ad.add j) = some (.int .u8 (l.getD j 0)) := by
  rcases h with ⟨rfl, rfl⟩ | ⟨ad, c, rfl, h⟩
  · exact ⟨none, 0, rfl, fun j hj => by simp at hj⟩
  · refine ⟨_, c, rfl, fun j hj => ⟨ad, rfl, h j _ ?_⟩⟩
    simp [List.getD_eq_getElem?_getD, List.getElem?_eq_getElem hj]
theorem Bytes.viewN {W : World} {v : Value} {l : List Int} (h : Bytes W v l) : ∃ p c, v = .slice p l.length c ∧ ∀ j, j < l.length → ∃ q o, p = some ⟨q, o, none⟩ ∧ W.cell? ⟨q, o + j, none⟩ = some (.int .u8 (l.getD j 0)) := by
  obtain ⟨p, c, rfl, hc⟩ := h.view
  refine ⟨p, c, rfl, fun j hj => ?_⟩
  obtain ⟨ad, rfl, hcell⟩ := hc j hj
  obtain ⟨ad', e', h0⟩ := hc 0 (by omega)
  cases e'
  have := spot_none (show W.cell? ad = _ from h0)
  obtain ⟨q, o, sp⟩ := ad
  cases this
  refine ⟨q, o, rfl, ?_⟩
  rw [← addr_add]
  exact hcell
set_option maxHeartbeats 1000000 in
theorem more_any (c : Nat) (hc : c < 4294967296) (v : Value) (l : List Int) (hl : ∀ y, y ∈ l → 0 ≤ y ∧ y < 256) (hn : l.length ≤ 1073741824) (w : World) (hv : Bytes w v l) :
    Calls Try.prog 60 #[.int .u32 (c : Int), v] w fun e w' => e = .returned (.int .u32 ((moreN c (nats l) : Nat) : Int)) ∧ w' = w := by
  obtain ⟨p, cap, rfl, hcell⟩ := hv.viewN
  have hz : ∀ i, i < l.length → 0 ≤ l.getD i 0 ∧ l.getD i 0 < 256 := fun i hi => getD_rng hl i hi
  have er : moreN c (nats l) = 4294967295 ^^^ runK (4294967295 ^^^ c) (fun i => l.getD i 0) l.length := by unfold moreN; rw [runK_list]
  rw [er]
  obtain ⟨z, ez⟩ : ∃ z : Nat → Int, (fun i => l.getD i 0) = z := ⟨_, rfl⟩
  have ez' : ∀ i, l.getD i 0 = z i := fun i => by rw [← ez]
  simp only [ez'] at hz hcell
  obtain ⟨n, en⟩ : ∃ n, l.length = n := ⟨_, rfl⟩
  rw [en] at hz hcell hn ⊢
  rw [ez]
  have HC : Hid (∀ j, j < n → ∃ q o, p = some ⟨q, o, none⟩ ∧ w.cell? ⟨q, o + j, none⟩ = some (.int .u8 (z j))) := hcell
  have HZ : Hid (∀ i, i < n → 0 ≤ z i ∧ z i < 256) := hz
  have hs : 4294967295 ^^^ c < 4294967296 := xor_lt (by omega) hc
  obtain ⟨s, es⟩ : ∃ s, 4294967295 ^^^ c = s := ⟨_, rfl⟩
  have et := turn32 (c : Int) c rfl hc
  rw [es] at et hs ⊢
  have HL := runK_lt s z n hs hz
  obtain ⟨c', ec⟩ : ∃ c' : Int, (c : Int) = c' := ⟨_, rfl⟩
  have hc' : 0 ≤ c' ∧ c' < 4294967296 := by omega
  obtain ⟨s', es'⟩ : ∃ s' : Int, (s : Int) = s' := ⟨_, rfl⟩
  rw [ec] at et ⊢
  rw [es'] at et
  have Hs : Hid (s' = ((runK s z 0 : Nat) : Int)) := es'.symm
  have hs' : 0 ≤ s' ∧ s' < 4294967296 := by omega
  obtain ⟨r, er'⟩ : ∃ r : Int, ((4294967295 ^^^ runK s z n : Nat) : Int) = r := ⟨_, rfl⟩
  have HR : Hid (((4294967295 ^^^ runK s z n : Nat) : Int) = r) := er'
  rw [er']
  clear er' es' ec es er ez ez' en hz hcell hv hl
  go_enter Try.func60, Try.ntmps60
  go_wp2_with fail
  go_loopg [5, 12] n (fun gg u v wr => ∃ (k : Nat) (x : Int), k ≤ n ∧ gg = n - k ∧ u = .int .u32 x ∧ v = .int .i64 (k : Int) ∧ Hid (x = ((runK s z k : Nat) : Int)) ∧ 0 ≤ x ∧ x < 4294967296 ∧ wr = w)
  case atStart => exact ⟨0, s', by omega, by omega, by first | rfl | simp [et], rfl, Hs, hs'.1, hs'.2, rfl⟩
  case round =>
    obtain ⟨k, x, hk, hg, rfl, rfl, Hx, hx0, hx1, rfl⟩ := hrel
    have hm := HL k hk
    by_cases hkn : k < n
    · have hk' : (k : Int) < (n : Int) := by omega
      obtain ⟨q, o, rfl, hcell⟩ := HC.out k hkn
      have hy := HZ.out k hkn
      have hnext := HL (k + 1) (by omega)
      have e1 := one_byte x (z k) _ (z k).toNat Hx.out (by omega) hm (by omega)
      have cs := fun W => shift_any (runK s z k ^^^ (z k).toNat) (xor_lt hm (by omega)) W
      have Hy : Hid (((tk 8 (runK s z k ^^^ (z k).toNat) : Nat) : Int) = ((runK s z (k + 1) : Nat) : Int)) := rfl
      have hby : tk 8 (runK s z k ^^^ (z k).toNat) < 4294967296 := hnext
      obtain ⟨t, ht⟩ : ∃ t : Int, ((tk 8 (runK s z k ^^^ (z k).toNat) : Nat) : Int) = t := ⟨_, rfl⟩
      rw [ht] at Hy
      have hty : 0 ≤ t ∧ t < 4294967296 := by omega
      simp only [ht] at cs
      obtain ⟨a, ea⟩ : ∃ a : Int, ((runK s z k ^^^ (z k).toNat : Nat) : Int) = a := ⟨_, rfl⟩
      rw [ea] at e1
      simp only [ea] at cs
      obtain ⟨y, ey⟩ : ∃ y, z k = y := ⟨_, rfl⟩
      rw [ey] at e1 hcell hy
      clear ht ea ey hby hnext hm
      go_wp2_with fail
      refine (cs _).mono ?_
      rintro e w1 ⟨rfl, rfl⟩
      go_wp2
      go_roundg (n - (k + 1))
      case measure => omega
      case rel => exact ⟨k + 1, t, by omega, rfl, rfl, by first | rfl | simp, Hy, hty.1, hty.2, rfl⟩
    · obtain rfl : k = n := by omega
      have e := turn32 x _ Hx.out hm
      rw [HR.out] at e
      go_wp2
      go_ret
      exact ⟨rfl, rfl⟩
theorem of_any (v : Value) (l : List Int) (hl : ∀ y, y ∈ l → 0 ≤ y ∧ y < 256) (hn : l.length ≤ 1073741824) (w : World) (hv : Bytes w v l) :
    Calls Try.prog 47 #[v] w fun e w' => e = .returned (.int .u32 ((ofN (nats l) : Nat) : Int)) ∧ w' = w := by
  have cm := more_any 0 (by decide) v l hl hn w hv
  rw [show ((0 : Nat) : Int) = 0 from rfl] at cm
  obtain ⟨y, ey⟩ : ∃ y : Int, ((moreN 0 (nats l) : Nat) : Int) = y := ⟨_, rfl⟩
  unfold ofN
  rw [ey] at cm ⊢
  clear ey hv
  go_enter Try.func47, Try.ntmps47
  go_wp2_with fail
  refine cm.mono ?_
  rintro e w1 ⟨rfl, rfl⟩
  go_wp2
  go_ret
  exact ⟨rfl, rfl⟩
end Go.Proofs.Ythmpfdkbpdbhnaa.Wd
