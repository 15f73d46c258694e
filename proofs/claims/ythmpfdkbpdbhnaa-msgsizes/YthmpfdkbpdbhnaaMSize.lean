/- The law MsgSizes: walked. -/
import Derived.Test.YthmpfdkbpdbhnaaMsW
import Derived.Test.YthmpfdkbpdbhnaaWmb
namespace Go.Proofs.Ythmpfdkbpdbhnaa.Wd
open Go.RowKit
set_option linter.unusedVariables false
set_option linter.unusedSimpArgs false
set_option maxRecDepth 8000
set_option maxHeartbeats 4000000
theorem msizes_walk (w : World) (n m : Int) (hn : -9223372036854775808 ≤ n ∧ n ≤ 9223372036854775807) (hm : -9223372036854775808 ≤ m ∧ m ≤ 9223372036854775807) :
    Calls Try.prog 7 #[.int .i64 n, .int .i64 m] w fun e w' => e = .returned (.bool true) ∧ Below w.heap.size w w' := by
  haveI : Nonempty World := ⟨w⟩
  go_enter Try.func7, Try.ntmps7
  go_wp2_with fail
  refine (awake19_any w).mono ?_
  rintro e w1 ⟨rfl, hB⟩
  have H1 : Hid (Below w.heap.size w w1) := hB
  clear hB
  by_cases h1 : n < 0
  · go_wp2
    go_ret
    exact ⟨rfl, H1.out⟩
  by_cases h2 : 600 < n
  · have h1' : 0 ≤ n := by omega
    go_wp2
    go_ret
    exact ⟨rfl, H1.out⟩
  by_cases h3 : m < 0
  · have h1' : 0 ≤ n := by omega
    have h2' : n ≤ 600 := by omega
    go_wp2
    go_ret
    exact ⟨rfl, H1.out⟩
  by_cases h4 : 600 < m
  · have h1' : 0 ≤ n := by omega
    have h2' : n ≤ 600 := by omega
    have h3' : 0 ≤ m := by omega
    go_wp2
    go_ret
    exact ⟨rfl, H1.out⟩
  obtain ⟨a, rfl⟩ : ∃ a : Nat, n = (a : Int) := ⟨n.toNat, by omega⟩
  obtain ⟨b, rfl⟩ : ∃ b : Nat, m = (b : Int) := ⟨m.toNat, by omega⟩
  have h2' : (a : Int) ≤ 600 := by omega
  have h4' : (b : Int) ≤ 600 := by omega
  obtain ⟨L, eL⟩ : ∃ L, putG 7 0 0 0 0 (List.replicate a 0) (List.replicate b 0) = L := ⟨_, rfl⟩
  have hlen : L.length = if a ≤ 500 ∧ b ≤ 500 then 23 + 8 * a + 16 * b else 0 := by
    rw [← eL]
    split
    · rename_i h
      rw [putG_len ⟨by decide, by decide, by decide, by rw [List.length_replicate]; exact h.1, by rw [List.length_replicate]; exact h.2⟩, List.length_replicate, List.length_replicate]
    · rename_i h
      unfold putG
      rw [if_neg fun hg => h ⟨by have := hg.2.2.2.1; rwa [List.length_replicate] at this, by have := hg.2.2.2.2; rwa [List.length_replicate] at this⟩]
      rfl
  have CP : Hid (∀ W p q, MsgR W p a a q b b (List.replicate a 0) (List.replicate b 0) → Calls Try.prog 10 #[MsV 7 0 0 0 0 (.slice p a a) (.slice q b b)] W fun e w' => ∃ v', e = .returned v' ∧ Own8 w' W.heap.size v' L ∧ Below W.heap.size W w') := fun W p q hW => by
    rw [← eL]
    exact pmput_any 7 0 0 0 0 p q a a b b _ _ (by omega) (by omega) W hW
  have HAB : Hid (a ≤ 1000 ∧ b ≤ 1000) := ⟨by omega, by omega⟩
  obtain ⟨MK, eMK⟩ : ∃ M, (vals .i64 (List.replicate a 0)).toArray = M := ⟨_, rfl⟩
  obtain ⟨MV, eMV⟩ : ∃ M, madeCells (Value.agg #[.int .i64 0, .int .u64 0]).cells (b * 2) = M := ⟨_, rfl⟩
  have hmN := fun W => mkn_run a (by omega) W
  have hmW := fun W => mkw_run b (by omega) W
  have hr1 := fun W => madeN_rd a W
  have hr2 := fun W => made_rd b W
  rw [eMK] at hmN hr1
  rw [eMV] at hmW hr2
  have HMK := hid2 hr1 hr2
  clear h1 h2 h3 h4 hn hm eL eMK eMV hr1 hr2
  go_wp2_with fail
  refine rel [⟨1, 23, MdN a⟩, ⟨3, 25, MdV b⟩, ⟨4, 26, AgM 7 a b⟩, ⟨5, 27, OwnR w1.heap.size L⟩] 6 46 (by kernel_rfl) rfl rfl (by kernel_rfl) (by rfl) ?_ ?_
  · intro e he v W W' h hb
    simp only [List.mem_cons, List.not_mem_nil, or_false] at he
    rcases he with rfl | rfl | rfl | rfl
    · exact MdN.up h hb
    · exact MdV.up h hb
    · exact AgM.up h hb
    · exact OwnR.up h hb
  apply Exists.intro
  refine ⟨fun x => ?_, ?_, ?_⟩
  · simp only [List.take_succ_cons, List.take_zero]
    refine relQuiet rfl rfl ?_
    apply Exists.intro
    refine ⟨fun F hF hf K hK => ?_, ?_⟩
    · have hFc := hF.cell
      have hFf := hF.frozen
      go_big_quiet_op
      first | exact hK | (apply Exists.intro; refine ⟨fun _ => ?_, ?_⟩; (· fail); exact hK)
    (try simp only [Act.put, List.setIfInBounds_toArray, List.set_cons_zero, List.set_cons_succ])
    refine relTold rfl rfl ?_ ?_
    · intro F hF hf d
      have hFc := hF.cell
      have hFf := hF.frozen
      simp [yieldsR, yieldsUpon, go_sem, hmN]
      exact ⟨⟨_, rfl, HMK.out.1 (F d)⟩, up_alloc _ _⟩
    (try simp only [Act.put, List.setIfInBounds_toArray, List.set_cons_zero, List.set_cons_succ])
    refine relQuiet rfl rfl ?_
    apply Exists.intro
    refine ⟨fun F hF hf K hK => ?_, ?_⟩
    · have hFc := hF.cell
      have hFf := hF.frozen
      go_big_quiet_op
      first | exact hK | (apply Exists.intro; refine ⟨fun _ => ?_, ?_⟩; (· fail); exact hK)
    (try simp only [Act.put, List.setIfInBounds_toArray, List.set_cons_zero, List.set_cons_succ])
    refine relTold rfl rfl ?_ ?_
    · intro F hF hf d
      have hFc := hF.cell
      have hFf := hF.frozen
      simp [yieldsR, yieldsUpon, go_sem, hmW]
      exact ⟨⟨_, rfl, HMK.out.2 (F d)⟩, up_alloc _ _⟩
    (try simp only [Act.put, List.setIfInBounds_toArray, List.set_cons_zero, List.set_cons_succ])
    refine relTold rfl rfl ?_ ?_
    · intro F hF hf d
      have hFc := hF.cell
      have hFf := hF.frozen
      have h8 := hf _ List.mem_cons_self (by rfl) d
      have h9 := hf _ (List.mem_cons_of_mem _ List.mem_cons_self) (by rfl) d
      obtain ⟨p8, e8, n8⟩ := h8
      obtain ⟨p9, e9, n9⟩ := h9
      simp only [] at e8 e9 n8 n9
      rw [e8] at n8
      simp [yieldsR, yieldsUpon, go_sem, e8, e9]
      exact ⟨⟨p8, p9, rfl, msgR_made n8 n9 HAB.out.1 HAB.out.2⟩, Below.refl _ _⟩
    (try simp only [Act.put, List.setIfInBounds_toArray, List.set_cons_zero, List.set_cons_succ])
    refine relTold rfl rfl ?_ ?_
    · intro F hF hf d
      have hFc := hF.cell
      have hFf := hF.frozen
      have h9 := hf _ (List.mem_cons_of_mem _ (List.mem_cons_of_mem _ List.mem_cons_self)) (by rfl) d
      obtain ⟨p9, q9, e9, n9⟩ := h9
      simp only [] at e9 n9
      simp [yieldsR, yieldsUpon, go_sem, e9]
      refine (CP.out (F d) p9 q9 n9).mono ?_
      rintro e' w8 ⟨v8, rfl, ho8, hb8⟩
      exact ⟨_, rfl, ho8.low (hF.below d).size, hb8⟩
    (try simp only [Act.put, List.setIfInBounds_toArray, List.set_cons_zero, List.set_cons_succ])
    refine relEnd ?_
    exact rfl
  · intro x
    simp only [putsK, List.foldl_cons, List.foldl_nil, Act.put, List.setIfInBounds_toArray, List.set_cons_zero, List.set_cons_succ]
  · intro W2 xs hB2 hf
    simp only [List.drop_succ_cons, List.drop_zero]
    have h5 := hf _ (List.mem_cons_of_mem _ (List.mem_cons_of_mem _ (List.mem_cons_of_mem _ List.mem_cons_self)))
    obtain ⟨y5, ey5⟩ : ∃ q, xs 5 = q := ⟨_, rfl⟩
    simp only [ey5] at h5
    simp only [ey5]
    obtain ⟨p5, c5, rfl, _⟩ := own8_form h5
    have H2 : Hid (Below w.heap.size w W2) := bstep H1.out hB2
    clear hf h5 hB2 ey5 H1 HMK CP hmN hmW
    obtain ⟨ln, eln⟩ : ∃ n, L.length = n := ⟨_, rfl⟩
    rw [eln] at hlen ⊢
    clear eln
    by_cases ha : 500 < (a : Int)
    · have h0 : ln = 0 := by rw [hlen]; exact if_neg (by omega)
      subst h0
      clear hlen
      go_wp2
      go_ret
      exact ⟨rfl, H2.out⟩
    by_cases hb : 500 < (b : Int)
    · have h0 : ln = 0 := by rw [hlen]; exact if_neg (by omega)
      subst h0
      have ha' : (a : Int) ≤ 500 := by omega
      clear hlen
      go_wp2
      go_ret
      exact ⟨rfl, H2.out⟩
    have ha' : (a : Int) ≤ 500 := by omega
    have hb' : (b : Int) ≤ 500 := by omega
    have h0 : (ln : Int) = 23 + 8 * (a : Int) + 16 * (b : Int) := by
      have := hlen.trans (if_pos (by omega))
      omega
    clear hlen ha hb
    go_wp2
    go_ret
    exact ⟨by simp [h0], H2.out⟩
end Go.Proofs.Ythmpfdkbpdbhnaa.Wd
