/- DataOnce: a batch has no example twice. -/
import Derived.Test.YtimbidiogcfpeaaDaW
import Derived.Test.YtimbidiogcfpeaaMkr
namespace Go.Proofs.Ytimbidiogcfpeaa.Wd
open Go.RowKit Fx
set_option linter.unusedVariables false
set_option linter.unusedSimpArgs false
set_option maxRecDepth 8000
set_option maxHeartbeats 8000000
theorem once_inj {a t : Int} {n i j : Nat} (hn : (n : Int) ≤ t) (hi : i < j) (hj : j < n) : (a + (i : Int)) % t ≠ (a + (j : Int)) % t := by
  intro h
  have h1 := (Int.emod_eq_emod_iff_emod_sub_eq_zero).1 h.symm
  have e : a + (j : Int) - (a + (i : Int)) = ((j - i : Nat) : Int) := by omega
  rw [e, Int.emod_eq_of_lt (by omega) (by omega)] at h1
  omega
/-- The places seen: a row of bools of one's own; what it says was met. -/
def Seen (B N : Nat) (V : List Int) (g k : Nat) (W : World) : Prop := ∃ bs : List Bool, bs.length = N ∧ W.ownsRow B 4 1 (.slice (some ⟨g, 0, none⟩) N N) N (bs.map .bool) ∧ ∀ j, bs.getD j false = true → ∃ i, i < k ∧ V.getD i 0 = (j : Int)
theorem Seen.base {B N g k : Nat} {V : List Int} {W : World} (h : Seen B N V g k W) (hN : 0 < N) : B ≤ g := by
  obtain ⟨bs, h1, h2, _⟩ := h
  rcases h2.2 with ⟨e, _⟩ | ⟨g', c, cur, e, hb, _⟩
  · cases e
  · cases e; exact hb
theorem Seen.cell {B N g k x : Nat} {V : List Int} {W : World} (h : Seen B N V g k W) (hx : x < N) (hv : ∀ i, i < k → V.getD i 0 ≠ (x : Int)) : W.cell? ⟨g, x, none⟩ = some (.bool false) ∧ W.frozen? ⟨g, x, none⟩ = false := by
  obtain ⟨bs, h1, h2, h3⟩ := h
  refine ⟨?_, World.ownsRow.frozenAt h2 x⟩
  rw [World.ownsRow.cellAt h2 x (by omega), List.getElem?_map, List.getElem?_eq_getElem (by omega)]
  have hb : bs.getD x false = false := by
    cases e : bs.getD x false with
    | false => rfl
    | true =>
      obtain ⟨i, hi, hi2⟩ := h3 x e
      exact absurd hi2 (hv i hi)
  rw [List.getD_eq_getElem?_getD, List.getElem?_eq_getElem (by omega)] at hb
  have hb' : bs[x] = false := hb
  simp [hb']
theorem Seen.put {B N g k x : Nat} {V : List Int} {W : World} (h : Seen B N V g k W) (hv : V.getD k 0 = (x : Int)) : Seen B N V g (k + 1) (W.setCell ⟨g, x, none⟩ (.bool true)) := by
  obtain ⟨bs, h1, h2, h3⟩ := h
  refine ⟨bs.set x true, by rw [List.length_set, h1], ?_, fun j hj => ?_⟩
  · have := (World.ownsRow.stored h2 x (.bool true)).1
    rw [List.map_set]
    exact this
  · by_cases e : x = j
    · subst e
      exact ⟨k, by omega, hv⟩
    · rw [List.getD_eq_getElem?_getD, List.getElem?_set_ne e, ← List.getD_eq_getElem?_getD] at hj
      obtain ⟨i, hi, hi2⟩ := h3 j hj
      exact ⟨i, by omega, hi2⟩
theorem Seen.mk (V : List Int) (N : Nat) (W : World) (hN : N ≤ 100000) : Seen W.heap.size N V W.heap.size 0 (W.alloc (.cells (Array.replicate N (.bool false)) 4)) := by
  refine ⟨List.replicate N false, by simp, ?_, fun j hj => ?_⟩
  · have := World.ownsRow_lit (e := 4) (size := 1) W (Array.replicate N (.bool false)) N (Nat.le_refl _) (by unfold maxLen; omega) (by simp)
    simpa using this
  · exfalso
    rw [List.getD_eq_getElem?_getD, List.getElem?_replicate] at hj
    split at hj <;> simp at hj
theorem dbelow_set {B : Nat} {a w : World} (h : Below B a w) (b o : Nat) (hb : B ≤ b) (x : Value) : Below B a (w.setCell ⟨b, o, none⟩ x) :=
  h.setCell (p := ⟨b, o, none⟩) hb x
theorem donce_walk (w : World) (t s k : Int) (ht : -9223372036854775808 ≤ t ∧ t ≤ 9223372036854775807) (hs : -9223372036854775808 ≤ s ∧ s ≤ 9223372036854775807) (hk : -9223372036854775808 ≤ k ∧ k ≤ 9223372036854775807) :
    Calls Try.prog 7 #[.int .i64 t, .int .i64 s, .int .i64 k] w fun e w' => e = .returned (.bool true) ∧ Below w.heap.size w w' := by
  haveI : Nonempty World := ⟨w⟩
  go_enter Try.func7, Try.ntmps7
  go_wp2_with fail
  refine (awake16_any w).mono ?_
  rintro e w1 ⟨rfl, hB⟩
  have H1 : Hid (Below w.heap.size w w1) := hB
  clear hB
  by_cases c1 : t < 1
  · go_wp2
    go_ret
    exact ⟨rfl, H1.out⟩
  have d1 : 1 ≤ t := by omega
  by_cases c2 : 256 < t
  · go_wp2
    go_ret
    exact ⟨rfl, H1.out⟩
  have d2 : t ≤ 256 := by omega
  by_cases c3 : s < 1
  · go_wp2
    go_ret
    exact ⟨rfl, H1.out⟩
  have d3 : 1 ≤ s := by omega
  by_cases c4 : t < s
  · go_wp2
    go_ret
    exact ⟨rfl, H1.out⟩
  have d4 : s ≤ t := by omega
  by_cases c5 : k < 0
  · go_wp2
    go_ret
    exact ⟨rfl, H1.out⟩
  have d5 : 0 ≤ k := by omega
  clear c1 c2 c3 c4 c5
  obtain ⟨n, rfl⟩ : ∃ n : Nat, s = n := ⟨s.toNat, by omega⟩
  obtain ⟨N, rfl⟩ : ∃ n : Nat, t = n := ⟨t.toNat, by omega⟩
  have hE : batE N n k = 0 := batE_ok.2 (by omega)
  obtain ⟨A, eA⟩ : ∃ A, batV N n k = A := ⟨_, rfl⟩
  obtain ⟨a, ea⟩ : ∃ a, baS N n k = a := ⟨_, rfl⟩
  have ha := baS_rng (t := N) (s := n) (k := k) d1
  rw [ea] at ha
  have HV : Hid (A.length = n ∧ n ≤ N ∧ N ≤ 256 ∧ 1 ≤ N ∧ ∀ i, i < n → ∃ x : Nat, x < N ∧ A.getD i 0 = (x : Int) ∧ ∀ j, j < i → A.getD j 0 ≠ (x : Int)) := by
    refine ⟨by rw [← eA, batV_len hE]; omega, by omega, by omega, by omega, fun i hi => ?_⟩
    obtain ⟨_, h1, h2⟩ := mod_nat (a := a + (i : Int)) (t := N) (by omega) d1
    have e1 : A.getD i 0 = (a + (i : Int)) % N := by rw [← eA, batV_at hE i (by omega), ea]
    refine ⟨((a + (i : Int)) % N).toNat, by omega, by rw [e1]; omega, fun j hj => ?_⟩
    have e2 : A.getD j 0 = (a + (j : Int)) % N := by rw [← eA, batV_at hE j (by omega), ea]
    rw [e2]
    have := once_inj (a := a) (t := N) (n := n) (by omega) hj hi
    omega
  have cA := dbatch_any N n k ht hs hk w1
  rw [hE, eA] at cA
  have hmk : ∀ W, (Instr.makeSlice 32 (.int .i64 (N : Int)) (.int .i64 (N : Int))).run Try.prog W = .ok (.slice (some ⟨W.heap.size, 0, none⟩) N N) (W.alloc (.cells (Array.replicate N (.bool false)) 4)) := fun W => by
    have := mk_run (P := Try.prog) (z := .bool false) (v := .bool false) (sz := 1) (b := 1) Try.underlying32 (by kernel_rfl) (by decide) (by decide) (fun i hi => by
      have : i = 0 := by have : (Value.bool false).cells.size = 1 := rfl; omega
      subst this; rfl) N (by omega) W
    rw [Nat.mul_one, List.toArray_replicate] at this
    exact this
  clear hE eA ea ha
  go_wp2_with fail
  refine cA.mono ?_
  rintro e w2 ⟨v, rfl, hv, hB⟩
  replace hv := hv.nums
  obtain ⟨pa, na, ca, rfl, LA⟩ := hv.lst
  obtain rfl : na = n := by rw [← dnums_len hv]; exact HV.out.1
  have H2 : Hid (Below w.heap.size w w2) := bstep H1.out hB
  clear hv hB cA H1
  obtain ⟨K, eK⟩ : ∃ K, w2.alloc (.cells (Array.replicate N (.bool false)) 4) = K := ⟨_, rfl⟩
  have HS : Hid (Seen w2.heap.size N A w2.heap.size 0 K ∧ Below w2.heap.size w2 K) := by
    rw [← eK]
    exact ⟨Seen.mk A N w2 (by have := HV.out.2.2.1; omega), up_alloc w2 _⟩
  have hN2 : (N : Int) ≤ 256 := by have := HV.out.2.2.1; omega
  have hN3 : (na : Int) ≤ (N : Int) := by have := HV.out.2.1; omega
  go_wp2_with fail
  clear eK d1 d2 d3 d4 d5 hmk
  go_loopg [10] na (fun gg kv wr => ∃ (j : Nat), j ≤ na ∧ gg = na - j ∧ kv = .int .i64 (j : Int) ∧ Hid (Seen w2.heap.size N A w2.heap.size j wr) ∧ Hid (Below w2.heap.size w2 wr))
  case atStart => exact ⟨0, by omega, by omega, by first | rfl | simp, HS.out.1, HS.out.2⟩
  case round =>
    obtain ⟨j, hj, hgg, rfl, HJ, HB⟩ := hrel
    obtain ⟨R2, eR2⟩ : ∃ R2 : World, R2 = wr := ⟨_, rfl⟩
    subst eR2
    by_cases hjn : j < na
    · have hj' : (j : Int) < (na : Int) := by omega
      obtain ⟨x, hx, ex, hne⟩ := HV.out.2.2.2.2 j hjn
      obtain ⟨g1, o1, rfl, r1⟩ := LA.out.2 j hjn
      replace r1 := cell_low r1 HB.out
      rw [ex] at r1
      obtain ⟨r2, f2⟩ := HJ.out.cell hx hne
      have hx0 : (0 : Int) ≤ (x : Int) := by omega
      have hxN : (x : Int) < (N : Int) := by omega
      have x1 := cell_lt r1
      have x2 := cell_lt r2
      have HJ2 : Hid (Seen w2.heap.size N A w2.heap.size (j + 1) (R2.setCell ⟨w2.heap.size, x, none⟩ (.bool true))) := HJ.out.put ex
      have HB2 : Hid (Below w2.heap.size w2 (R2.setCell ⟨w2.heap.size, x, none⟩ (.bool true))) := dbelow_set HB.out _ _ (Nat.le_refl _) _
      clear ex hne
      go_wp2
      go_roundg (na - (j + 1))
      case measure => omega
      case rel => exact ⟨j + 1, by omega, rfl, by first | rfl | simp, HJ2, HB2⟩
    · obtain rfl : j = na := by omega
      go_wp2
      go_ret
      exact ⟨rfl, bstep H2.out HB.out⟩
end Go.Proofs.Ytimbidiogcfpeaa.Wd
