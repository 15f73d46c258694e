/- The reference's WPut and WGet. -/
import Derived.Test.YthmpfdkbpdbhnaaWdl
import Derived.Test.YthmpfdkbpdbhnaaPkE
import Derived.Test.YthmpfdkbpdbhnaaMsM
namespace Go.Proofs.Ythmpfdkbpdbhnaa.Wd
open Go.RowKit
set_option linter.unusedVariables false
set_option linter.unusedSimpArgs false
set_option maxHeartbeats 1000000
theorem wput_any (a : Int) (ha : InW a) (w : World) :
    Calls Try.prog 36 #[wd a] w fun e w' => ∃ v', e = .returned v' ∧ Own8 w' w.heap.size v' (be 16 a) ∧ Below w.heap.size w w' := by
  obtain ⟨h, l, e, h1, h2, l1, l2, H⟩ := words ha
  rw [e]
  clear e
  obtain ⟨x, ex⟩ : ∃ x, h % 18446744073709551616 = x := ⟨_, rfl⟩
  have hx : 0 ≤ x ∧ x < 18446744073709551616 := by omega
  have ew : IntKind.u64.wrap h = x := by rw [IntKind.wrap_u64, ex]
  have hb8 : be 8 x = be 8 h := by rw [← ex, be8_mod]
  have hfin : be 8 x ++ be 8 l = be 16 a := by
    have := H.out
    rw [hb8, ← be_88 a, show a / 18446744073709551616 = h by omega, ← be8_mod a, show a % 18446744073709551616 = l by omega]
  have HF : Hid (be 8 x ++ be 8 l = be 16 a) := hfin
  clear hfin hb8 ex
  have c1 : ∀ W : World, Calls Try.prog 35 #[.slice none 0 0, .int .u64 x] W fun e w' => ∃ v', e = .returned v' ∧ Own8 w' W.heap.size v' (be 8 x) ∧ Below W.heap.size W w' := by
    intro W
    have := u64_any (.slice none 0 0) [] (by simp) x hx W (.inl ⟨rfl, rfl⟩)
    simpa using this
  have c2 : ∀ (W : World) (v : Value), Hid (Bytes W v (be 8 x)) → Calls Try.prog 35 #[v, .int .u64 l] W fun e w' => ∃ v', e = .returned v' ∧ Own8 w' W.heap.size v' (be 8 x ++ be 8 l) ∧ Below W.heap.size W w' :=
    fun W v hv => u64_any v (be 8 x) (by rw [be_len]; omega) l (by omega) W hv.out
  go_enter Try.func36, Try.ntmps36
  go_wp2_with fail
  go_region_held3 (fun W => W.cell? ⟨w.heap.size, 0, none⟩ = some (.int .i64 h) ∧ W.cell? ⟨w.heap.size, 1, none⟩ = some (.int .u64 l)) (first | assumption | (go_keep; done))
    (first
      | (go_at_call 35; (with_reducible refine (c1 _).mono ?_); rintro e' w1 ⟨v1, rfl, ho1, hb1⟩; have hS : w1.cell? ⟨w.heap.size, 0, none⟩ = some (.int .i64 h) ∧ w1.cell? ⟨w.heap.size, 1, none⟩ = some (.int .u64 l) := up_two hb1 (by first | assumption | go_keep); have H1 : Hid (Bytes w1 v1 (be 8 x)) := ho1.bytes; clear ho1)
      | (go_at_call 35; (with_reducible refine (c2 _ _ H1).mono ?_); rintro e' w2 ⟨v2, rfl, ho2, hb2⟩; have hS : w2.cell? ⟨w.heap.size, 0, none⟩ = some (.int .i64 h) ∧ w2.cell? ⟨w.heap.size, 1, none⟩ = some (.int .u64 l) := up_two hb2 (by first | assumption | go_keep); have H2 : Hid (Own8 w2 w1.heap.size v2 (be 8 x ++ be 8 l)) := ho2; clear ho2))
  all_goals
    have hB1 : Below w.heap.size w w1 := Below.trans (by go_grown) (hb1.mono (by simp))
    have hB2 := hB1.trans (hb2.mono hB1.size)
    have H3 : Hid (Own8 w2 w.heap.size v2 (be 16 a)) := by have := H2.out.low hB1.size; rw [HF.out] at this; exact this
    go_wp2
    refine bodyPost_ret (v := v2) (by simp [results, Try.results36, go_sem]) rfl ⟨_, rfl, H3.out, hB2⟩
theorem wget_any (p : Option Addr) (c m at_ : Nat) (l : List Int) (hl : l.length = m) (hm : m ≤ 1073741824) (ha : at_ + 16 ≤ m) (hr : By8 l) (w : World) (hb : Bytes w (.slice p m c) l) :
    Calls Try.prog 32 #[.slice p m c, .int .i64 (at_ : Int)] w fun e w' => e = .returned (.agg #[.int .i64 (hiW (l.drop at_)), .int .u64 (loW (l.drop at_))]) ∧ Below w.heap.size w w' := by
  haveI : Nonempty World := ⟨w⟩
  have cA : ∀ W, Below w.heap.size w W → _ := fun W hW => at_any p c m at_ 8 l hl hm (by omega) (by omega) hr W (hb.up hW)
  have cB : ∀ W, Below w.heap.size w W → _ := fun W hW => at_any p c m (at_ + 8) 8 l hl hm (by omega) (by omega) hr W (hb.up hW)
  obtain ⟨x, ex⟩ : ∃ x, num ((l.drop at_).take 8) = x := ⟨_, rfl⟩
  obtain ⟨y, ey⟩ : ∃ y, num ((l.drop (at_ + 8)).take 8) = y := ⟨_, rfl⟩
  obtain ⟨z, ez⟩ : ∃ z, i64w x = z := ⟨_, rfl⟩
  have hz : IntKind.i64.wrap x = z := by rw [IntKind.wrap_i64]; exact ez
  have e1 : hiW (l.drop at_) = z := by unfold hiW; rw [ex, ez]
  have e2 : loW (l.drop at_) = y := by unfold loW; rw [List.drop_drop, ey]
  rw [e1, e2]
  rw [ex] at cA
  rw [ey] at cB
  have CA : Hid (∀ W, Below w.heap.size w W → _) := cA
  have CB : Hid (∀ W, Below w.heap.size w W → _) := cB
  obtain ⟨s, es⟩ : ∃ s, at_ + 8 = s := ⟨_, rfl⟩
  rw [es] at CB
  have hs : (at_ : Int) + 8 = (s : Int) := by omega
  clear es
  have ham : (at_ : Int) + 8 ≤ 9223372036854775807 := by omega
  clear e1 e2 ex ey ez hb hr hl cA cB
  go_enter Try.func32, Try.ntmps32
  go_wp2_with fail
  refine (CA.out _ (by go_grown)).mono ?_
  rintro e w1 ⟨rfl, rfl⟩
  go_wp2_with fail
  refine (CB.out _ (by go_grown)).mono ?_
  rintro e w1 ⟨rfl, rfl⟩
  go_wp2
  exact bodyPost_ret (v := .agg #[.int .i64 z, .int .u64 y]) (by simp [results, Try.results32, go_sem]) rfl ⟨rfl, by go_grown⟩
end Go.Proofs.Ythmpfdkbpdbhnaa.Wd
