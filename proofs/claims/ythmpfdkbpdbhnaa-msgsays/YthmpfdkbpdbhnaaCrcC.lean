/- The law's awake, and what the reference's More and Crc hand back. -/
import Derived.Test.YthmpfdkbpdbhnaaCrcB
import Derived.Lib.SlBytesConst
namespace Go.Proofs.Ythmpfdkbpdbhnaa.Wd
open Go.RowKit
set_option linter.unusedVariables false
set_option linter.unusedSimpArgs false
attribute [local go_sem] nosign32
theorem lit8 (W : World) (l : List Int) (n : Nat) (fz : Nat × Nat) (h : l.length = n) : Bytes (W.alloc (.cells (l.map (Value.int .u8)).toArray 5 fz)) (.slice (some ⟨W.heap.size, 0, none⟩) n n) l := .inr ⟨_, n, by rw [h], by
  intro j u hj
  rw [addr0]
  unfold World.cell? World.alloc
  simp only [Array.getElem?_push_size]
  simpa using hj⟩
theorem conv_same (C : Array Value) (n c : Nat) (w : World) : Sem.run Try.prog (convert 31 31 (.slice (some ⟨w.heap.size, 0, none⟩) n c)) (w.alloc (.cells C 5)) = .ok (.slice (some ⟨w.heap.size, 0, none⟩) n c) (w.alloc (.cells C 5 (C.size, C.size + 1))) :=
  Lib.run_convert_bytes_const (P := Try.prog) w 31 5 C n c Try.underlying31 Try.underlying5
set_option maxRecDepth 4000 in
theorem nine : ofN (nats [49, 50, 51, 52, 53, 54, 55, 56, 57]) = 3421780262 := by decide +kernel
theorem none0 : ofN (nats []) = 0 := by decide +kernel
theorem zero1 : ofN (nats [0]) = 3523407757 := by decide +kernel
theorem a1 : ofN (nats [97]) = 3904355907 := by decide +kernel
theorem seven : moreN 7 (nats []) = 7 := by decide +kernel
set_option maxHeartbeats 1000000 in
theorem rmore_any (c : Nat) (hc : c < 4294967296) (v : Value) (l : List Int) (hl : ∀ y, y ∈ l → 0 ≤ y ∧ y < 256) (hn : l.length ≤ 1073741824) (w : World) (hv : Bytes w v l) :
    Calls Try.prog 62 #[.int .u32 (c : Int), v] w fun e w' => e = .returned (.int .u32 ((moreN c (nats l) : Nat) : Int)) ∧ w' = w := by
  obtain ⟨p, cap, rfl, hcell⟩ := hv.viewN
  have hz : ∀ i, i < l.length → 0 ≤ l.getD i 0 ∧ l.getD i 0 < 256 := fun i hi => getD_rng hl i hi
  have er : moreN c (nats l) = 4294967295 ^^^ runK (4294967295 ^^^ c) (fun i => l.getD i 0) l.length := by unfold moreN; rw [runK_list]
  rw [er]
  obtain ⟨z, ez⟩ : ∃ z : Nat → Int, (fun i => l.getD i 0) = z := ⟨_, rfl⟩
  have ez' : ∀ i, l.getD i 0 = z i := fun i => by rw [← ez]
  simp only [ez'] at hz hcell
  obtain ⟨n, en⟩ : ∃ n, l.length = n := ⟨_, rfl⟩
  rw [en] at hz hcell hn ⊢
  rw [ez]
  have HC : Hid (∀ j, j < n → ∃ q o, p = some ⟨q, o, none⟩ ∧ w.cell? ⟨q, o + j, none⟩ = some (.int .u8 (z j))) := hcell
  have HZ : Hid (∀ i, i < n → 0 ≤ z i ∧ z i < 256) := hz
  have hs : 4294967295 ^^^ c < 4294967296 := xor_lt (by omega) hc
  obtain ⟨s, es⟩ : ∃ s, 4294967295 ^^^ c = s := ⟨_, rfl⟩
  have et := turn32 (c : Int) c rfl hc
  rw [es] at et hs ⊢
  have HL := runK_lt s z n hs hz
  obtain ⟨c', ec⟩ : ∃ c' : Int, (c : Int) = c' := ⟨_, rfl⟩
  have hc' : 0 ≤ c' ∧ c' < 4294967296 := by omega
  obtain ⟨s', es'⟩ : ∃ s' : Int, (s : Int) = s' := ⟨_, rfl⟩
  rw [ec] at et ⊢
  rw [es'] at et
  have Hs : Hid (s' = ((runK s z 0 : Nat) : Int)) := es'.symm
  have hs' : 0 ≤ s' ∧ s' < 4294967296 := by omega
  obtain ⟨r, er'⟩ : ∃ r : Int, ((4294967295 ^^^ runK s z n : Nat) : Int) = r := ⟨_, rfl⟩
  have HR : Hid (((4294967295 ^^^ runK s z n : Nat) : Int) = r) := er'
  rw [er']
  clear er' es' ec es er ez ez' en hz hcell hv hl
  go_enter Try.func62, Try.ntmps62
  go_wp2_with fail
  go_loopg [0, 5] n (fun gg u v wr => ∃ (k : Nat) (x : Int), k ≤ n ∧ gg = n - k ∧ u = .int .u32 x ∧ v = .int .i64 (k : Int) ∧ Hid (x = ((runK s z k : Nat) : Int)) ∧ 0 ≤ x ∧ x < 4294967296 ∧ wr = w)
  case atStart => exact ⟨0, s', by omega, by omega, by first | rfl | simp [et], rfl, Hs, hs'.1, hs'.2, rfl⟩
  case round =>
    obtain ⟨k, x, hk, hg, rfl, rfl, Hx, hx0, hx1, rfl⟩ := hrel
    have hm := HL k hk
    by_cases hkn : k < n
    · have hk' : (k : Int) < (n : Int) := by omega
      obtain ⟨q, o, rfl, hcell⟩ := HC.out k hkn
      have hy := HZ.out k hkn
      have hnext := HL (k + 1) (by omega)
      have e1 := one_byte x (z k) _ (z k).toNat Hx.out (by omega) hm (by omega)
      obtain ⟨m, em⟩ : ∃ m, runK s z k ^^^ (z k).toNat = m := ⟨_, rfl⟩
      have hmm : m < 4294967296 := by rw [← em]; exact xor_lt hm (by omega)
      have Hy : Hid (tk 8 m = runK s z (k + 1)) := by show _ = _; rw [← em]; rfl
      rw [em] at e1
      obtain ⟨a, ea⟩ : ∃ a : Int, (m : Int) = a := ⟨_, rfl⟩
      have Ha : Hid (a = ((tk 0 m : Nat) : Int)) := ea.symm
      have ha : 0 ≤ a ∧ a < 4294967296 := by omega
      rw [ea] at e1
      obtain ⟨y, ey⟩ : ∃ y, z k = y := ⟨_, rfl⟩
      rw [ey] at e1 hcell hy
      clear ea ey em hnext hm
      go_wp2_with fail
      go_loopg [0, 6] 8 (fun gg u v wx => ∃ (j : Nat) (x : Int), j ≤ 8 ∧ gg = 8 - j ∧ u = .int .u32 x ∧ v = .int .i64 (j : Int) ∧ Hid (x = ((tk j m : Nat) : Int)) ∧ 0 ≤ x ∧ x < 4294967296 ∧ wx = wr)
      case atStart => exact ⟨0, a, by omega, by omega, by first | rfl | simp [e1], rfl, Ha, ha.1, ha.2, rfl⟩
      case round =>
        obtain ⟨j, x2, hj, hg2, rfl, rfl, Hx2, hx20, hx21, rfl⟩ := hrel
        by_cases hj8 : j < 8
        · have hj' : (j : Int) < 8 := by omega
          have hm := tk_lt j hmm
          have ht := tN_lt hm
          rcases Nat.mod_two_eq_zero_or_one (tk j m) with h | h
          · obtain ⟨ea, ex⟩ := step_even x2 _ Hx2.out hm h
            obtain ⟨y, ey⟩ : ∃ y, x2 / 2 = y := ⟨_, rfl⟩
            rw [ey] at ex
            have Hy : Hid (y = ((tk (j + 1) m : Nat) : Int)) := by show _ = _; rw [tk_succ]; exact ex
            have hy : 0 ≤ y ∧ y < 4294967296 := by omega
            clear ex h hm ht
            go_wp2
            go_roundg (8 - (j + 1))
            case measure => omega
            case rel => exact ⟨j + 1, y, by omega, rfl, by first | rfl | simp [ey], by first | rfl | simp, Hy, hy.1, hy.2, rfl⟩
          · obtain ⟨ea, ex⟩ := step_odd x2 _ Hx2.out hm h
            obtain ⟨y, ey⟩ : ∃ y, ((tN (tk j m) : Nat) : Int) = y := ⟨_, rfl⟩
            rw [ey] at ex
            have Hy : Hid (y = ((tk (j + 1) m : Nat) : Int)) := by show _ = _; rw [tk_succ]; exact ey.symm
            have hy : 0 ≤ y ∧ y < 4294967296 := by omega
            clear ey h hm ht
            go_wp2
            go_roundg (8 - (j + 1))
            case measure => omega
            case rel => exact ⟨j + 1, y, by omega, rfl, by first | rfl | simp [ex], by first | rfl | simp, Hy, hy.1, hy.2, rfl⟩
        · obtain rfl : j = 8 := by omega
          have Hn : Hid (x2 = ((runK s z (k + 1) : Nat) : Int)) := by show _ = _; rw [Hx2.out, Hy.out]
          go_wp2
          go_roundg (n - (k + 1))
          case measure => omega
          case rel => exact ⟨k + 1, x2, by omega, rfl, rfl, by first | rfl | simp, Hn, hx20, hx21, rfl⟩
    · obtain rfl : k = n := by omega
      have e := turn32 x _ Hx.out hm
      rw [HR.out] at e
      go_wp2
      go_ret
      exact ⟨rfl, rfl⟩
theorem rof_any (v : Value) (l : List Int) (hl : ∀ y, y ∈ l → 0 ≤ y ∧ y < 256) (hn : l.length ≤ 1073741824) (w : World) (hv : Bytes w v l) :
    Calls Try.prog 53 #[v] w fun e w' => e = .returned (.int .u32 ((ofN (nats l) : Nat) : Int)) ∧ w' = w := by
  have cm := rmore_any 0 (by decide) v l hl hn w hv
  rw [show ((0 : Nat) : Int) = 0 from rfl] at cm
  obtain ⟨y, ey⟩ : ∃ y : Int, ((moreN 0 (nats l) : Nat) : Int) = y := ⟨_, rfl⟩
  unfold ofN
  rw [ey] at cm ⊢
  clear ey hv
  go_enter Try.func53, Try.ntmps53
  go_wp2_with fail
  refine cm.mono ?_
  rintro e w1 ⟨rfl, rfl⟩
  go_wp2
  go_ret
  exact ⟨rfl, rfl⟩
end Go.Proofs.Ythmpfdkbpdbhnaa.Wd
