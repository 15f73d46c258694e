/- The law CrcParts. -/
import Derived.Test.YtlnamjomhfmbaaaCrcC
import Derived.Test.YtlnamjomhfmbaaaRows8
namespace Go.Proofs.Ytlnamjomhfmbaaa.Wd
open Go.RowKit
set_option linter.unusedVariables false
set_option linter.unusedSimpArgs false
/-- The first k rows, one behind the other. -/
def cat (R : Nat → List Int) : Nat → List Int
  | 0 => []
  | k + 1 => cat R k ++ R k
theorem cat_rng (R : Nat → List Int) (n : Nat) (h : ∀ r, r < n → ∀ y, y ∈ R r → 0 ≤ y ∧ y < 256) : ∀ k, k ≤ n → ∀ y, y ∈ cat R k → 0 ≤ y ∧ y < 256
  | 0, _, y, hy => by simp [cat] at hy
  | k + 1, hk, y, hy => by
    simp only [cat, List.mem_append] at hy
    rcases hy with hy | hy
    · exact cat_rng R n h k (by omega) y hy
    · exact h k (by omega) y hy
theorem nats_append (a b : List Int) : nats (a ++ b) = nats a ++ nats b := List.map_append
theorem nats_lt' {l : List Int} (h : ∀ y, y ∈ l → 0 ≤ y ∧ y < 256) : ∀ b, b ∈ nats l → b < 256 := by
  intro b hb
  obtain ⟨y, hy, rfl⟩ := List.mem_map.1 hb
  have := h y hy
  omega
theorem ofN_lt' {l : List Int} (h : ∀ y, y ∈ l → 0 ≤ y ∧ y < 256) : ofN (nats l) < 4294967296 :=
  xor_lt (by omega) (runN_lt _ (xor_lt (by omega) (by omega)) (nats_lt' h))
theorem own8_nil (w : World) (B : Nat) : Own8 w B (.slice none 0 0) [] := ⟨by simp, .inl ⟨rfl, rfl⟩⟩
set_option maxHeartbeats 4000000 in
theorem cparts_walk (w : World) (R : Nat → List Int) (n cap : Nat) (p : Option Addr) (hr : Rows8 w p n cap R) :
    Calls Try.prog 5 #[.slice p n cap] w fun e w' => e = .returned (.bool true) ∧ Below w.heap.size w w' := by
  have hcap : n ≤ cap ∧ cap ≤ 9223372036854775807 := ⟨hr.1, hr.2.1⟩
  have HR0 : Hid (∀ r, r < n → ∃ q o v, p = some ⟨q, o, none⟩ ∧ w.cell? ⟨q, o + r, none⟩ = some v ∧ Bytes w v (R r) ∧ (∀ y, y ∈ R r → 0 ≤ y ∧ y < 256) ∧ (R r).length ≤ 9223372036854775807) := hr.2.2
  clear hr
  go_enter Try.func5, Try.ntmps5
  go_wp2_with fail
  refine (cawake_any w).mono ?_
  rintro e w1 ⟨rfl, B1⟩
  by_cases hn : 30 < n
  · have hn' : (30 : Int) < (n : Int) := by omega
    go_wp2
    go_ret
    exact ⟨rfl, B1⟩
  have hn' : (n : Int) ≤ 30 := by omega
  have hn2 : n ≤ 30 := by omega
  have HR : Hid (∀ r, r < n → ∃ q o v, p = some ⟨q, o, none⟩ ∧ (∀ W, Below w.heap.size w W → W.cell? ⟨q, o + r, none⟩ = some v ∧ Bytes W v (R r)) ∧ (∀ y, y ∈ R r → 0 ≤ y ∧ y < 256) ∧ (R r).length ≤ 9223372036854775807) := fun r hr => by
    obtain ⟨q, o, v, h1, h2, h3, h4⟩ := HR0.out r hr
    exact ⟨q, o, v, h1, fun W hW => ⟨keep hW h2, h3.up hW⟩, h4⟩
  have HC : Hid (∀ k, k ≤ n → ∀ y, y ∈ cat R k → 0 ≤ y ∧ y < 256) := cat_rng R n fun r hr => by
    obtain ⟨q, o, v, _, _, h4, _⟩ := HR.out r hr
    exact h4
  clear HR0
  go_wp2_with fail
  go_loopg [3, 4, 5] n (fun gg u c v wr => ∃ (k : Nat) (x : Int), k ≤ n ∧ gg = n - k ∧ Hid (Own8 wr w.heap.size u (cat R k)) ∧ c = .int .u32 x ∧ Hid (x = ((ofN (nats (cat R k)) : Nat) : Int)) ∧ (cat R k).length ≤ 200 * k ∧ v = .int .i64 (k : Int) ∧ Hid (Below w.heap.size w wr))
  case atStart => exact ⟨0, 0, by omega, by omega, own8_nil _ _, rfl, by show (0 : Int) = ((ofN (nats []) : Nat) : Int); rw [none0]; rfl, by simp [cat], rfl, B1⟩
  case round =>
    obtain ⟨k, x, hk, hg, HO, rfl, Hx, hlen, rfl, hB⟩ := hrel
    by_cases hkn : k < n
    · have hk' : (k : Int) < (n : Int) := by omega
      obtain ⟨q, o, v, rfl, hv, hrng, hl63⟩ := HR.out k hkn
      obtain ⟨hcell, hby⟩ := hv wr hB.out
      obtain ⟨pv, cv, rfl, _⟩ := hby.view
      obtain ⟨m, em⟩ : ∃ m, (R k).length = m := ⟨_, rfl⟩
      rw [em] at hcell hby hl63 hv
      have Hm : Hid ((R k).length = m) := em
      have HB1 : Hid (Bytes wr (.slice pv m cv) (R k)) := hby
      have HV : Hid (∀ W, Below w.heap.size w W → W.cell? ⟨q, o + k, none⟩ = some (.slice pv m cv) ∧ Bytes W (.slice pv m cv) (R k)) := hv
      have Hrng : Hid (∀ y, y ∈ R k → 0 ≤ y ∧ y < 256) := hrng
      clear hby em hv hrng
      by_cases hm : 200 < m
      · have hm' : (200 : Int) < (m : Int) := by omega
        go_wp2
        go_ret
        exact ⟨rfl, hB.out⟩
      · have hm' : (m : Int) ≤ 200 := by omega
        go_wp2_with (at_builtin; refine wpList_append8 rfl (.tmp 23) (.tmp 27) rfl w.heap.size _ _ rfl HO.out _ _ rfl HB1.out (by have := Hm.out; omega) hB.out.size w hB.out ?_; intro v2 w2 HO2 hB2; obtain ⟨hcell2, hby2⟩ := HV.out w2 hB2; have HB2 : Hid (Below w.heap.size w w2 ∧ Bytes w2 (.slice pv m cv) (R k)) := ⟨hB2, hby2⟩; clear hcell hB2 hby2 HO HB1 hB)
        have km := more_any (ofN (nats (cat R k))) (ofN_lt' (HC.out k hk)) _ _ Hrng.out (by have := Hm.out; omega) w2 HB2.out.2
        rw [more_of, ← nats_append, ← Hx.out] at km
        obtain ⟨x2, hx2⟩ : ∃ x2 : Int, ((ofN (nats (cat R k ++ R k)) : Nat) : Int) = x2 := ⟨_, rfl⟩
        rw [hx2] at km
        have Hx2 : Hid (x2 = ((ofN (nats (cat R (k + 1))) : Nat) : Int)) := hx2.symm
        clear hx2
        refine km.mono ?_
        rintro e w3 ⟨rfl, rfl⟩
        go_wp2
        go_roundg (n - (k + 1))
        case measure => omega
        case rel => exact ⟨k + 1, x2, by omega, rfl, HO2, rfl, Hx2, by have := Hm.out; simp only [cat, List.length_append]; omega, by first | rfl | simp, HB2.out.1⟩
    · obtain rfl : k = n := by omega
      have ko := of_any _ _ (HC.out k hk) (by omega) wr HO.out.bytes
      rw [← Hx.out] at ko
      obtain ⟨pv, cv, rfl, _⟩ := HO.out.bytes.view
      have hB' := hB.out
      clear HC HR Hx hB HO
      go_wp2_with fail
      refine ko.mono ?_
      rintro e w3 ⟨rfl, rfl⟩
      go_wp2
      go_ret
      exact ⟨rfl, hB'⟩
end Go.Proofs.Ytlnamjomhfmbaaa.Wd
