/- The law CrcSays. -/
import Derived.Test.YtlnamjomhfmbaaaCrcC
namespace Go.Proofs.Ytlnamjomhfmbaaa.Wd
open Go.RowKit
set_option linter.unusedVariables false
set_option linter.unusedSimpArgs false
set_option maxHeartbeats 1000000 in
theorem csays_walk (w : World) (z : Nat → Int) (n cap : Nat) (p : Option Addr) (c : Int) (hr : RowN .u8 w p n cap z) (hc : 0 ≤ c ∧ c ≤ 4294967295) :
    Calls Try.prog 4 #[.slice p n cap, .int .u32 c] w fun e w' => e = .returned (.bool true) ∧ Below w.heap.size w w' := by
  have hb := hr.bytes
  have hg := hr.rng
  have hcap : n ≤ cap ∧ cap ≤ 9223372036854775807 := ⟨hr.1.1, hr.1.2.1⟩
  have H : Hid (Bytes w (.slice p n cap) (lst n z)) := hb
  clear hb hr
  go_enter Try.func4, Try.ntmps4
  go_wp2_with fail
  refine (cawake_any w).mono ?_
  rintro e w1 ⟨rfl, B1⟩
  by_cases hn : 600 < n
  · have hn' : (600 : Int) < (n : Int) := by omega
    go_wp2
    go_ret
    exact ⟨rfl, B1⟩
  · have hn' : (n : Int) ≤ 600 := by omega
    have H1 := H.out.up B1
    have hlen : (lst n z).length ≤ 1073741824 := by rw [lst_len]; omega
    obtain ⟨m, rfl⟩ := Int.eq_ofNat_of_zero_le hc.1
    have k1 := of_any _ _ hg hlen w1 H1
    have k2 := rof_any _ _ hg hlen w1 H1
    have k3 := more_any m (by omega) _ _ hg hlen w1 H1
    have k4 := rmore_any m (by omega) _ _ hg hlen w1 H1
    obtain ⟨x, ex⟩ : ∃ x : Int, ((ofN (nats (lst n z)) : Nat) : Int) = x := ⟨_, rfl⟩
    obtain ⟨y, ey⟩ : ∃ y : Int, ((moreN m (nats (lst n z)) : Nat) : Int) = y := ⟨_, rfl⟩
    rw [ex] at k1 k2
    rw [ey] at k3 k4
    clear ex ey hg H1 H hlen
    obtain ⟨c, ec⟩ : ∃ c : Int, (m : Int) = c := ⟨_, rfl⟩
    simp only [Int.ofNat_eq_natCast] at k3 k4 hc ⊢
    rw [ec] at k3 k4 hc ⊢
    clear ec
    go_wp2_with fail
    refine k1.mono ?_
    rintro e w2 ⟨rfl, rfl⟩
    go_wp2_with fail
    refine k2.mono ?_
    rintro e w3 ⟨rfl, rfl⟩
    go_wp2_with fail
    refine k3.mono ?_
    rintro e w4 ⟨rfl, rfl⟩
    go_wp2_with fail
    refine k4.mono ?_
    rintro e w5 ⟨rfl, rfl⟩
    go_wp2
    go_ret
    exact ⟨rfl, B1⟩
end Go.Proofs.Ytlnamjomhfmbaaa.Wd
