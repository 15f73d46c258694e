/- The law PackWrites. -/
import Derived.Test.YteahjfnjjopncaaPkD
namespace Go.Proofs.Yteahjfnjjopncaa.Wd
open Go.RowKit
set_option linter.unusedVariables false
set_option linter.unusedSimpArgs false
/-- A slice of bytes, these. -/
def AtB (l : List Int) (v : Value) (W : World) : Prop := Bytes W v l
theorem AtB.up {l : List Int} {v : Value} {W W' : World} (h : AtB l v W) (hb : Below W.heap.size W W') : AtB l v W' := Bytes.up h hb
theorem rng_app {a b : List Int} (ha : ∀ y, y ∈ a → 0 ≤ y ∧ y < 256) (hb : ∀ y, y ∈ b → 0 ≤ y ∧ y < 256) : ∀ y, y ∈ a ++ b → 0 ≤ y ∧ y < 256 := by
  intro y hy
  rcases List.mem_append.1 hy with h | h
  · exact ha y h
  · exact hb y h
set_option maxHeartbeats 8000000 in
set_option maxRecDepth 20000 in
theorem writes_walk (w : World) (z : Nat → Int) (n cap : Nat) (p : Option Addr) (v u q : Int) (r : RowN .u8 w p n cap z) (hv : -9223372036854775808 ≤ v ∧ v ≤ 9223372036854775807) (hu : 0 ≤ u ∧ u ≤ 4294967295) (hq : 0 ≤ q ∧ q ≤ 18446744073709551615) :
    Calls Try.prog 5 #[.slice p n cap, .int .i64 v, .int .u32 u, .int .u64 q] w fun e w' => e = .returned (.bool true) ∧ Below w.heap.size w w' := by
  have hn63 : n ≤ 9223372036854775807 := Nat.le_trans r.1.1 r.1.2.1
  have hrng := r.rng
  have hby := r.bytes
  have hll := lst_len n z
  obtain ⟨l, el⟩ : ∃ l, lst n z = l := ⟨_, rfl⟩
  rw [el] at hrng hby hll
  clear el r
  by_cases h100 : 100 < n
  · have h1 : (100 : Int) < (n : Int) := by omega
    clear hby hrng
    go_enter Try.func5, Try.ntmps5
    go_wp2_with fail
    refine (awake_any w).mono ?_
    rintro e w1 ⟨rfl, B1⟩
    go_wp2
    go_ret
    exact ⟨rfl, B1⟩
  have h1 : ¬ (100 : Int) < (n : Int) := by omega
  have hl100 : l.length ≤ 100 := by omega
  obtain ⟨X, eX⟩ : ∃ X, ((l ++ be 2 v) ++ be 4 u) ++ be 8 q = X := ⟨_, rfl⟩
  have hXr : ∀ y, y ∈ X → 0 ≤ y ∧ y < 256 := by rw [← eX]; exact rng_app (rng_app (rng_app hrng (be_byte _ _)) (be_byte _ _)) (be_byte _ _)
  have hXl : X.length ≤ 200 := by rw [← eX]; simp [be_len]; omega
  have HX : Hid (((l ++ be 2 v) ++ be 4 u) ++ be 8 q = X) := eX
  have HL : Hid (l.length = n) := hll
  have HR : Hid (∀ y, y ∈ l → 0 ≤ y ∧ y < 256) := hrng
  have HXr : Hid (∀ y, y ∈ X → 0 ≤ y ∧ y < 256) := hXr
  have HB : Hid (Bytes w (.slice p n cap) l) := hby
  clear eX hll hrng hXr hby h100
  haveI : Nonempty World := ⟨w⟩
  go_enter Try.func5, Try.ntmps5
  go_wp2_with fail
  refine (awake_any w).mono ?_
  rintro e w1 ⟨rfl, B1⟩
  go_wp2_with (at_builtin; refine wpList_append8 rfl (.tmp 17) (.tmp 18) rfl w.heap.size _ [] rfl ((own8_new w1).low B1.size) _ l rfl ((HB.out.up B1).up ((Below.refl _ _).alloc (Nat.le_refl _) _)) (by simp; omega) (by have := B1.size; simp; omega) w (B1.alloc B1.size _) ?_; intro v0 w2 H2 B2; rw [List.nil_append] at H2)
  refine (pu16_any v0 l (by omega) v hv _ H2.out.bytes).mono ?_
  rintro e w3 ⟨v3, rfl, ho, hb⟩
  have H3 : Hid (Own8 w3 w.heap.size v3 (l ++ be 2 v) ∧ Below w.heap.size w w3) := ⟨ho.low B2.size, B2.trans (hb.mono B2.size)⟩
  clear ho hb H2 B2 B1
  go_wp2_with fail
  refine (pu32_any v3 _ (by simp [be_len]; omega) u (by omega) _ H3.out.1.bytes).mono ?_
  rintro e w4 ⟨v4, rfl, ho, hb⟩
  have H4 : Hid (Own8 w4 w.heap.size v4 ((l ++ be 2 v) ++ be 4 u) ∧ Below w.heap.size w w4) := ⟨ho.low H3.out.2.size, H3.out.2.trans (hb.mono H3.out.2.size)⟩
  clear ho hb H3
  go_wp2_with fail
  refine (pu64_any v4 _ (by simp [be_len]; omega) q (by omega) _ H4.out.1.bytes).mono ?_
  rintro e w5 ⟨v5, rfl, ho, hb⟩
  have H5 : Hid (Bytes w5 v5 X ∧ Below w.heap.size w w5) := ⟨by rw [← HX.out]; exact ho.bytes, H4.out.2.trans (hb.mono H4.out.2.size)⟩
  clear ho hb H4
  go_wp2_with fail
  refine (read_any v5 X (by omega) HXr.out _ H5.out.1).mono ?_
  rintro e w6 ⟨g, rfl, hg, hR, hb⟩
  have H6 : Hid (Below w5.heap.size w5 w6 ∧ w.heap.size ≤ g ∧ w5.heap.size ≤ g ∧ Rd w6 g X false ∧ Below w.heap.size w w6) := ⟨hb, Nat.le_trans H5.out.2.size hg, hg, hR, H5.out.2.trans (hb.mono H5.out.2.size)⟩
  have H5b : Hid (Bytes w5 v5 X) := H5.out.1
  clear hg hR hb
  go_wp2_with fail
  refine (rbytes_any g X (by omega) false n (by omega) w6 H6.out.2.2.2.1).mono ?_
  rintro e w7 ⟨y, rfl, ho, hR, hb⟩
  have ef := got_front l (be 2 v ++ (be 4 u ++ be 8 q)) n HL.out
  have eX2 : l ++ (be 2 v ++ (be 4 u ++ be 8 q)) = X := by rw [← HX.out]; simp [List.append_assoc]
  rw [eX2] at ef
  rw [ef.1] at ho
  rw [ef.2.1, ef.2.2] at hR
  have B7 : Below w.heap.size w w7 := hb.below H6.out.2.2.2.2 H6.out.2.1 H6.out.2.2.2.2.size
  have HV5 : Hid (Bytes w7 v5 X) := Bytes.up H5b.out (hb.below H6.out.1 H6.out.2.2.1 H6.out.1.size)
  have H7 : Hid (Bytes w7 v5 X ∧ Bytes w7 y l ∧ w.heap.size ≤ g ∧ Rd w7 g (be 2 v ++ (be 4 u ++ be 8 q)) false ∧ Below w.heap.size w w7 ∧ Bytes w7 (.slice p n cap) l) := ⟨HV5.out, ho.bytes, H6.out.2.1, hR, B7, HB.out.up B7⟩
  clear ho hR hb ef eX2 B7 HV5 H5 H5b H6 HB
  obtain ⟨sX, esX⟩ : ∃ s, str X = s := ⟨_, rfl⟩
  obtain ⟨sl, esl⟩ : ∃ s, str l = s := ⟨_, rfl⟩
  have CX : Hid (∀ W v, Bytes W v X → Sem.run Try.prog (convert 25 9 v) W = .ok (.string sX) W) := fun W v h => by rw [← esX]; exact conv_any h HXr.out
  have CL : Hid (∀ W v, Bytes W v l → Sem.run Try.prog (convert 25 9 v) W = .ok (.string sl) W) := fun W v h => by rw [← esl]; exact conv_any h HR.out
  have ev : bits .and .i64 v 65535 = v % 65536 := i64_and16 v
  clear esX esl HXr HR
  go_wp2_with fail
  refine from_region (by kernel_rfl) ?_
  refine segR (fun W => Below w7.heap.size w7 W) [⟨4, 36, AtB (l ++ be 2 v)⟩, ⟨6, 38, AtB ((l ++ be 2 v) ++ be 4 u)⟩, ⟨8, 40, AtB X⟩] 0 11 73 rfl rfl (by kernel_rfl) (by rfl) ?_ ?_ ?_ ?_
  · exact fun W W' h hb => h.trans (hb.mono h.size)
  · exact ⟨rfl, rfl, rfl, Nat.le_refl _, fun _ _ => rfl⟩
  · intro e he v W W' h hb
    simp only [List.mem_cons, List.not_mem_nil, or_false] at he
    rcases he with rfl | rfl | rfl
    · exact AtB.up h hb
    · exact AtB.up h hb
    · exact AtB.up h hb
  apply Exists.intro
  refine ⟨fun x => ?_, ?_, ?_⟩
  · simp only [List.drop_succ_cons, List.drop_zero, List.take_succ_cons, List.take_zero]
    refine segQuiet rfl rfl ?_
    apply Exists.intro
    refine ⟨fun b F hF hf K hK => ?_, ?_⟩
    · have hFc := hF.cls
      go_big_quiet_op
      first | exact hK | (apply Exists.intro; refine ⟨fun _ => ?_, ?_⟩; (· fail); exact hK)
    (try simp only [Act.put, List.setIfInBounds_toArray, List.set_cons_zero, List.set_cons_succ])
    refine segQuiet rfl rfl ?_
    apply Exists.intro
    refine ⟨fun b F hF hf K hK => ?_, ?_⟩
    · have hFc := hF.cls
      have cv : ∀ d, Sem.run Try.prog (convert 25 9 (v5)) (F d) = _ := fun d => CX.out _ _ (Bytes.up H7.out.1 (hFc d))
      go_big_quiet_op
      first | exact hK | (apply Exists.intro; refine ⟨fun _ => ?_, ?_⟩; (· fail); exact hK)
    (try simp only [Act.put, List.setIfInBounds_toArray, List.set_cons_zero, List.set_cons_succ])
    refine segQuiet rfl rfl ?_
    apply Exists.intro
    refine ⟨fun b F hF hf K hK => ?_, ?_⟩
    · have hFc := hF.cls
      go_big_quiet_op
      first | exact hK | (apply Exists.intro; refine ⟨fun _ => ?_, ?_⟩; (· fail); exact hK)
    (try simp only [Act.put, List.setIfInBounds_toArray, List.set_cons_zero, List.set_cons_succ])
    refine segQuiet rfl rfl ?_
    apply Exists.intro
    refine ⟨fun b F hF hf K hK => ?_, ?_⟩
    · have hFc := hF.cls
      go_big_quiet_op
      first | exact hK | (apply Exists.intro; refine ⟨fun _ => ?_, ?_⟩; (· fail); exact hK)
    (try simp only [Act.put, List.setIfInBounds_toArray, List.set_cons_zero, List.set_cons_succ])
    refine segTold rfl (by decide) rfl ?_ ?_
    · intro b F hF hf d
      have hFc := hF.cls
      simp [yieldsR, yieldsUpon, go_sem]
      refine (u16_any (.slice p n cap) l (by omega) v hv (F d) (Bytes.up H7.out.2.2.2.2.2 (hFc d))).mono ?_
      rintro e' w6 ⟨v6, rfl, R6, hb6⟩
      exact ⟨_, rfl, R6.bytes, hb6⟩
    (try simp only [Act.put, List.setIfInBounds_toArray, List.set_cons_zero, List.set_cons_succ])
    refine segQuiet rfl rfl ?_
    apply Exists.intro
    refine ⟨fun b F hF hf K hK => ?_, ?_⟩
    · have hFc := hF.cls
      go_big_quiet_op
      first | exact hK | (apply Exists.intro; refine ⟨fun _ => ?_, ?_⟩; (· fail); exact hK)
    (try simp only [Act.put, List.setIfInBounds_toArray, List.set_cons_zero, List.set_cons_succ])
    refine segTold rfl (by decide) rfl ?_ ?_
    · intro b F hF hf d
      have hFc := hF.cls
      have h9 := hf _ List.mem_cons_self (by rfl)
      simp [yieldsR, yieldsUpon, go_sem]
      refine (u32_any (x 4) _ (by simp [be_len]; omega) u (by omega) (F d) (h9 d)).mono ?_
      rintro e' w6 ⟨v6, rfl, R6, hb6⟩
      exact ⟨_, rfl, (by unfold AtB; simpa [List.append_assoc] using R6.bytes), hb6⟩
    (try simp only [Act.put, List.setIfInBounds_toArray, List.set_cons_zero, List.set_cons_succ])
    refine segQuiet rfl rfl ?_
    apply Exists.intro
    refine ⟨fun b F hF hf K hK => ?_, ?_⟩
    · have hFc := hF.cls
      go_big_quiet_op
      first | exact hK | (apply Exists.intro; refine ⟨fun _ => ?_, ?_⟩; (· fail); exact hK)
    (try simp only [Act.put, List.setIfInBounds_toArray, List.set_cons_zero, List.set_cons_succ])
    refine segTold rfl (by decide) rfl ?_ ?_
    · intro b F hF hf d
      have hFc := hF.cls
      have h9 := hf _ (List.mem_cons_of_mem _ List.mem_cons_self) (by rfl)
      simp [yieldsR, yieldsUpon, go_sem]
      refine (u64_any (x 6) _ (by simp [be_len]; omega) q (by omega) (F d) (h9 d)).mono ?_
      rintro e' w6 ⟨v6, rfl, R6, hb6⟩
      exact ⟨_, rfl, (by have := R6.bytes; rw [HX.out] at this; exact this), hb6⟩
    (try simp only [Act.put, List.setIfInBounds_toArray, List.set_cons_zero, List.set_cons_succ])
    refine segQuiet rfl rfl ?_
    apply Exists.intro
    refine ⟨fun b F hF hf K hK => ?_, ?_⟩
    · have hFc := hF.cls
      have h9 := hf _ (List.mem_cons_of_mem _ (List.mem_cons_of_mem _ List.mem_cons_self)) (by rfl)
      have cv : ∀ d, Sem.run Try.prog (convert 25 9 (x 8)) (F d) = _ := fun d => CX.out _ _ (h9 d)
      go_big_quiet_op
      first | exact hK | (apply Exists.intro; refine ⟨fun _ => ?_, ?_⟩; (· fail); exact hK)
    (try simp only [Act.put, List.setIfInBounds_toArray, List.set_cons_zero, List.set_cons_succ])
    refine segQuiet rfl rfl ?_
    apply Exists.intro
    refine ⟨fun b F hF hf K hK => ?_, ?_⟩
    · have hFc := hF.cls
      go_big_quiet_op
      first | exact hK | (apply Exists.intro; refine ⟨fun _ => ?_, ?_⟩; (· fail); exact hK)
    (try simp only [Act.put, List.setIfInBounds_toArray, List.set_cons_zero, List.set_cons_succ])
    refine segEnd ?_
    exact rfl
  · exact fun x => rfl
  · intro W1 x1 B1 h1
    refine segR (fun W => Below w7.heap.size w7 W) [] 11 18 73 rfl rfl (by kernel_rfl) (by rfl) ?_ ?_ ?_ ?_
    · exact fun W W' h hb => h.trans (hb.mono h.size)
    · exact B1
    · intro e he
      cases he
    apply Exists.intro
    refine ⟨fun x => ?_, ?_, ?_⟩
    · simp only [List.drop_succ_cons, List.drop_zero, List.take_succ_cons, List.take_zero]
      refine segQuiet rfl rfl ?_
      apply Exists.intro
      refine ⟨fun b F hF hf K hK => ?_, ?_⟩
      · have hFc := hF.cls
        go_big_quiet_op
        first | exact hK | (apply Exists.intro; refine ⟨fun _ => ?_, ?_⟩; (· fail); exact hK)
      (try simp only [Act.put, List.setIfInBounds_toArray, List.set_cons_zero, List.set_cons_succ])
      refine segQuiet rfl rfl ?_
      apply Exists.intro
      refine ⟨fun b F hF hf K hK => ?_, ?_⟩
      · have hFc := hF.cls
        go_big_quiet_op
        first | exact hK | (apply Exists.intro; refine ⟨fun _ => ?_, ?_⟩; (· fail); exact hK)
      (try simp only [Act.put, List.setIfInBounds_toArray, List.set_cons_zero, List.set_cons_succ])
      refine segQuiet rfl rfl ?_
      apply Exists.intro
      refine ⟨fun b F hF hf K hK => ?_, ?_⟩
      · have hFc := hF.cls
        have cv : ∀ d, Sem.run Try.prog (convert 25 9 (y)) (F d) = _ := fun d => CL.out _ _ (Bytes.up H7.out.2.1 (hFc d))
        go_big_quiet_op
        first | exact hK | (apply Exists.intro; refine ⟨fun _ => ?_, ?_⟩; (· fail); exact hK)
      (try simp only [Act.put, List.setIfInBounds_toArray, List.set_cons_zero, List.set_cons_succ])
      refine segQuiet rfl rfl ?_
      apply Exists.intro
      refine ⟨fun b F hF hf K hK => ?_, ?_⟩
      · have hFc := hF.cls
        go_big_quiet_op
        first | exact hK | (apply Exists.intro; refine ⟨fun _ => ?_, ?_⟩; (· fail); exact hK)
      (try simp only [Act.put, List.setIfInBounds_toArray, List.set_cons_zero, List.set_cons_succ])
      refine segQuiet rfl rfl ?_
      apply Exists.intro
      refine ⟨fun b F hF hf K hK => ?_, ?_⟩
      · have hFc := hF.cls
        have cv : ∀ d, Sem.run Try.prog (convert 25 9 (.slice p n cap)) (F d) = _ := fun d => CL.out _ _ (Bytes.up H7.out.2.2.2.2.2 (hFc d))
        go_big_quiet_op
        first | exact hK | (apply Exists.intro; refine ⟨fun _ => ?_, ?_⟩; (· fail); exact hK)
      (try simp only [Act.put, List.setIfInBounds_toArray, List.set_cons_zero, List.set_cons_succ])
      refine segQuiet rfl rfl ?_
      apply Exists.intro
      refine ⟨fun b F hF hf K hK => ?_, ?_⟩
      · have hFc := hF.cls
        go_big_quiet_op
        first | exact hK | (apply Exists.intro; refine ⟨fun _ => ?_, ?_⟩; (· fail); exact hK)
      (try simp only [Act.put, List.setIfInBounds_toArray, List.set_cons_zero, List.set_cons_succ])
      refine segQuiet rfl rfl ?_
      apply Exists.intro
      refine ⟨fun b F hF hf K hK => ?_, ?_⟩
      · have hFc := hF.cls
        go_big_quiet_op
        first | exact hK | (apply Exists.intro; refine ⟨fun _ => ?_, ?_⟩; (· fail); exact hK)
      (try simp only [Act.put, List.setIfInBounds_toArray, List.set_cons_zero, List.set_cons_succ])
      refine segEnd ?_
      exact rfl
    · exact fun x => rfl
    · intro W2 x2 B2 h2
      refine seg (fun b W => if b then Rd W g (be 4 u ++ be 8 q) false ∧ Below w.heap.size w W else Rd W g (be 2 v ++ (be 4 u ++ be 8 q)) false ∧ Below w.heap.size w W) (fun _ _ => True) 20 [⟨20, 52, IsV (.int .i64 (v % 65536))⟩] 18 25 73 rfl rfl (by kernel_rfl) (by rfl) ?_ ?_ ?_ ?_ ?_ ?_
      · intro b W W' h hb
        cases b
        · exact ⟨h.1.up hb, h.2.trans (hb.mono h.2.size)⟩
        · exact ⟨h.1.up hb, h.2.trans (hb.mono h.2.size)⟩
      · exact ⟨H7.out.2.2.2.1.up B2, H7.out.2.2.2.2.1.trans (B2.mono H7.out.2.2.2.2.1.size)⟩
      · exact .inl ⟨_, List.mem_cons_self, rfl⟩
      · intro e he v W W' h hb
        simp only [List.mem_cons, List.not_mem_nil, or_false] at he
        subst he
        exact h
      · intro e he hne v W W' h _ _
        simp only [List.mem_cons, List.not_mem_nil, or_false] at he
        subst he
        exact h
      apply Exists.intro
      refine ⟨fun x => ?_, ?_, ?_⟩
      · simp only [List.drop_succ_cons, List.drop_zero, List.take_succ_cons, List.take_zero]
        refine segQuiet rfl rfl ?_
        apply Exists.intro
        refine ⟨fun b F hF hf K hK => ?_, ?_⟩
        · have hFc := hF.cls
          go_big_quiet_op
          first | exact hK | (apply Exists.intro; refine ⟨fun _ => ?_, ?_⟩; (· fail); exact hK)
        (try simp only [Act.put, List.setIfInBounds_toArray, List.set_cons_zero, List.set_cons_succ])
        refine segQuiet rfl rfl ?_
        apply Exists.intro
        refine ⟨fun b F hF hf K hK => ?_, ?_⟩
        · have hFc := hF.cls
          go_big_quiet_op
          first | exact hK | (apply Exists.intro; refine ⟨fun _ => ?_, ?_⟩; (· fail); exact hK)
        (try simp only [Act.put, List.setIfInBounds_toArray, List.set_cons_zero, List.set_cons_succ])
        refine segBusy rfl rfl rfl ?_ ?_
        · intro W hW hf
          simp [leavesR, leavesUpon, go_sem]
          refine (ru16_any g _ false W hW.1).mono ?_
          rintro e' w6 ⟨rfl, hR6, hb6⟩
          have ef := got_front (be 2 v) (be 4 u ++ be 8 q) 2 (be_len _ _)
          rw [show ((2 : Nat) : Int) = 2 from rfl] at ef
          rw [ef.2.1, ef.2.2] at hR6
          rw [ef.1, num_be]
          exact ⟨_, rfl, rfl, hR6, hb6.below hW.2 H7.out.2.2.1 hW.2.size⟩
        (try simp only [Act.put, List.setIfInBounds_toArray, List.set_cons_zero, List.set_cons_succ])
        refine segQuiet rfl rfl ?_
        apply Exists.intro
        refine ⟨fun b F hF hf K hK => ?_, ?_⟩
        · have hFc := hF.cls
          go_big_quiet_op
          first | exact hK | (apply Exists.intro; refine ⟨fun _ => ?_, ?_⟩; (· fail); exact hK)
        (try simp only [Act.put, List.setIfInBounds_toArray, List.set_cons_zero, List.set_cons_succ])
        refine segQuiet rfl rfl ?_
        apply Exists.intro
        refine ⟨fun b F hF hf K hK => ?_, ?_⟩
        · have hFc := hF.cls
          go_big_quiet_op
          first | exact hK | (apply Exists.intro; refine ⟨fun _ => ?_, ?_⟩; (· fail); exact hK)
        (try simp only [Act.put, List.setIfInBounds_toArray, List.set_cons_zero, List.set_cons_succ])
        refine segQuiet rfl rfl ?_
        apply Exists.intro
        refine ⟨fun b F hF hf K hK => ?_, ?_⟩
        · have hFc := hF.cls
          have h9 := hf _ List.mem_cons_self (by rfl) w
          simp only [IsV] at h9
          go_big_quiet_op
          first | exact hK | (apply Exists.intro; refine ⟨fun _ => ?_, ?_⟩; (· fail); exact hK)
        (try simp only [Act.put, List.setIfInBounds_toArray, List.set_cons_zero, List.set_cons_succ])
        refine segQuiet rfl rfl ?_
        apply Exists.intro
        refine ⟨fun b F hF hf K hK => ?_, ?_⟩
        · have hFc := hF.cls
          go_big_quiet_op
          first | exact hK | (apply Exists.intro; refine ⟨fun _ => ?_, ?_⟩; (· fail); exact hK)
        (try simp only [Act.put, List.setIfInBounds_toArray, List.set_cons_zero, List.set_cons_succ])
        refine segEnd ?_
        exact rfl
      · exact fun x => rfl
      · intro W3 x3 B3 h3
        refine seg (fun b W => if b then Rd W g (be 8 q) false ∧ Below w.heap.size w W else Rd W g (be 4 u ++ be 8 q) false ∧ Below w.heap.size w W) (fun _ _ => True) 27 [⟨27, 59, IsV (.int .u32 u)⟩] 25 31 73 rfl rfl (by kernel_rfl) (by rfl) ?_ ?_ ?_ ?_ ?_ ?_
        · intro b W W' h hb
          cases b
          · exact ⟨h.1.up hb, h.2.trans (hb.mono h.2.size)⟩
          · exact ⟨h.1.up hb, h.2.trans (hb.mono h.2.size)⟩
        · exact B3
        · exact .inl ⟨_, List.mem_cons_self, rfl⟩
        · intro e he v W W' h hb
          simp only [List.mem_cons, List.not_mem_nil, or_false] at he
          subst he
          exact h
        · intro e he hne v W W' h _ _
          simp only [List.mem_cons, List.not_mem_nil, or_false] at he
          subst he
          exact h
        apply Exists.intro
        refine ⟨fun x => ?_, ?_, ?_⟩
        · simp only [List.drop_succ_cons, List.drop_zero, List.take_succ_cons, List.take_zero]
          refine segQuiet rfl rfl ?_
          apply Exists.intro
          refine ⟨fun b F hF hf K hK => ?_, ?_⟩
          · have hFc := hF.cls
            go_big_quiet_op
            first | exact hK | (apply Exists.intro; refine ⟨fun _ => ?_, ?_⟩; (· fail); exact hK)
          (try simp only [Act.put, List.setIfInBounds_toArray, List.set_cons_zero, List.set_cons_succ])
          refine segQuiet rfl rfl ?_
          apply Exists.intro
          refine ⟨fun b F hF hf K hK => ?_, ?_⟩
          · have hFc := hF.cls
            go_big_quiet_op
            first | exact hK | (apply Exists.intro; refine ⟨fun _ => ?_, ?_⟩; (· fail); exact hK)
          (try simp only [Act.put, List.setIfInBounds_toArray, List.set_cons_zero, List.set_cons_succ])
          refine segBusy rfl rfl rfl ?_ ?_
          · intro W hW hf
            simp [leavesR, leavesUpon, go_sem]
            refine (ru32_any g _ false W hW.1).mono ?_
            rintro e' w6 ⟨rfl, hR6, hb6⟩
            have ef := got_front (be 4 u) (be 8 q) 4 (be_len _ _)
            rw [show ((4 : Nat) : Int) = 4 from rfl] at ef
            rw [ef.2.1, ef.2.2] at hR6
            rw [ef.1, num_be]
            rw [show u % 256 ^ 4 = u by omega]
            exact ⟨_, rfl, rfl, hR6, hb6.below hW.2 H7.out.2.2.1 hW.2.size⟩
          (try simp only [Act.put, List.setIfInBounds_toArray, List.set_cons_zero, List.set_cons_succ])
          refine segQuiet rfl rfl ?_
          apply Exists.intro
          refine ⟨fun b F hF hf K hK => ?_, ?_⟩
          · have hFc := hF.cls
            go_big_quiet_op
            first | exact hK | (apply Exists.intro; refine ⟨fun _ => ?_, ?_⟩; (· fail); exact hK)
          (try simp only [Act.put, List.setIfInBounds_toArray, List.set_cons_zero, List.set_cons_succ])
          refine segQuiet rfl rfl ?_
          apply Exists.intro
          refine ⟨fun b F hF hf K hK => ?_, ?_⟩
          · have hFc := hF.cls
            have h9 := hf _ List.mem_cons_self (by rfl) w
            simp only [IsV] at h9
            go_big_quiet_op
            first | exact hK | (apply Exists.intro; refine ⟨fun _ => ?_, ?_⟩; (· fail); exact hK)
          (try simp only [Act.put, List.setIfInBounds_toArray, List.set_cons_zero, List.set_cons_succ])
          refine segQuiet rfl rfl ?_
          apply Exists.intro
          refine ⟨fun b F hF hf K hK => ?_, ?_⟩
          · have hFc := hF.cls
            go_big_quiet_op
            first | exact hK | (apply Exists.intro; refine ⟨fun _ => ?_, ?_⟩; (· fail); exact hK)
          (try simp only [Act.put, List.setIfInBounds_toArray, List.set_cons_zero, List.set_cons_succ])
          refine segEnd ?_
          exact rfl
        · exact fun x => rfl
        · intro W4 x4 B4 h4
          refine seg (fun b W => if b then Rd W g [] false ∧ Below w.heap.size w W else Rd W g (be 8 q) false ∧ Below w.heap.size w W) (fun _ _ => True) 33 [⟨33, 65, IsV (.int .u64 q)⟩] 31 37 73 rfl rfl (by kernel_rfl) (by rfl) ?_ ?_ ?_ ?_ ?_ ?_
          · intro b W W' h hb
            cases b
            · exact ⟨h.1.up hb, h.2.trans (hb.mono h.2.size)⟩
            · exact ⟨h.1.up hb, h.2.trans (hb.mono h.2.size)⟩
          · exact B4
          · exact .inl ⟨_, List.mem_cons_self, rfl⟩
          · intro e he v W W' h hb
            simp only [List.mem_cons, List.not_mem_nil, or_false] at he
            subst he
            exact h
          · intro e he hne v W W' h _ _
            simp only [List.mem_cons, List.not_mem_nil, or_false] at he
            subst he
            exact h
          apply Exists.intro
          refine ⟨fun x => ?_, ?_, ?_⟩
          · simp only [List.drop_succ_cons, List.drop_zero, List.take_succ_cons, List.take_zero]
            refine segQuiet rfl rfl ?_
            apply Exists.intro
            refine ⟨fun b F hF hf K hK => ?_, ?_⟩
            · have hFc := hF.cls
              go_big_quiet_op
              first | exact hK | (apply Exists.intro; refine ⟨fun _ => ?_, ?_⟩; (· fail); exact hK)
            (try simp only [Act.put, List.setIfInBounds_toArray, List.set_cons_zero, List.set_cons_succ])
            refine segQuiet rfl rfl ?_
            apply Exists.intro
            refine ⟨fun b F hF hf K hK => ?_, ?_⟩
            · have hFc := hF.cls
              go_big_quiet_op
              first | exact hK | (apply Exists.intro; refine ⟨fun _ => ?_, ?_⟩; (· fail); exact hK)
            (try simp only [Act.put, List.setIfInBounds_toArray, List.set_cons_zero, List.set_cons_succ])
            refine segBusy rfl rfl rfl ?_ ?_
            · intro W hW hf
              simp [leavesR, leavesUpon, go_sem]
              refine (ru64_any g _ false W hW.1).mono ?_
              rintro e' w6 ⟨rfl, hR6, hb6⟩
              have ef := got_front (be 8 q) [] 8 (be_len _ _)
              rw [List.append_nil] at ef
              rw [show ((8 : Nat) : Int) = 8 from rfl] at ef
              rw [ef.2.1, ef.2.2] at hR6
              rw [ef.1, num_be]
              rw [show q % 256 ^ 8 = q by omega]
              exact ⟨_, rfl, rfl, hR6, hb6.below hW.2 H7.out.2.2.1 hW.2.size⟩
            (try simp only [Act.put, List.setIfInBounds_toArray, List.set_cons_zero, List.set_cons_succ])
            refine segQuiet rfl rfl ?_
            apply Exists.intro
            refine ⟨fun b F hF hf K hK => ?_, ?_⟩
            · have hFc := hF.cls
              go_big_quiet_op
              first | exact hK | (apply Exists.intro; refine ⟨fun _ => ?_, ?_⟩; (· fail); exact hK)
            (try simp only [Act.put, List.setIfInBounds_toArray, List.set_cons_zero, List.set_cons_succ])
            refine segQuiet rfl rfl ?_
            apply Exists.intro
            refine ⟨fun b F hF hf K hK => ?_, ?_⟩
            · have hFc := hF.cls
              have h9 := hf _ List.mem_cons_self (by rfl) w
              simp only [IsV] at h9
              go_big_quiet_op
              first | exact hK | (apply Exists.intro; refine ⟨fun _ => ?_, ?_⟩; (· fail); exact hK)
            (try simp only [Act.put, List.setIfInBounds_toArray, List.set_cons_zero, List.set_cons_succ])
            refine segQuiet rfl rfl ?_
            apply Exists.intro
            refine ⟨fun b F hF hf K hK => ?_, ?_⟩
            · have hFc := hF.cls
              go_big_quiet_op
              first | exact hK | (apply Exists.intro; refine ⟨fun _ => ?_, ?_⟩; (· fail); exact hK)
            (try simp only [Act.put, List.setIfInBounds_toArray, List.set_cons_zero, List.set_cons_succ])
            refine segEnd ?_
            exact rfl
          · exact fun x => rfl
          · intro W5 x5 B5 h5
            refine segR (fun W => Rd W g [] false ∧ Below w.heap.size w W) [] 37 42 73 rfl rfl (by kernel_rfl) (by rfl) ?_ ?_ ?_ ?_
            · exact fun W W' h hb => ⟨h.1.up hb, h.2.trans (hb.mono h.2.size)⟩
            · exact B5
            · intro e he
              cases he
            apply Exists.intro
            refine ⟨fun x => ?_, ?_, ?_⟩
            · simp only [List.drop_succ_cons, List.drop_zero, List.take_succ_cons, List.take_zero]
              refine segQuiet rfl rfl ?_
              apply Exists.intro
              refine ⟨fun b F hF hf K hK => ?_, ?_⟩
              · have hFc := hF.cls
                go_big_quiet_op
                first | exact hK | (apply Exists.intro; refine ⟨fun _ => ?_, ?_⟩; (· fail); exact hK)
              (try simp only [Act.put, List.setIfInBounds_toArray, List.set_cons_zero, List.set_cons_succ])
              refine segQuiet rfl rfl ?_
              apply Exists.intro
              refine ⟨fun b F hF hf K hK => ?_, ?_⟩
              · have hFc := hF.cls
                go_big_quiet_op
                first | exact hK | (apply Exists.intro; refine ⟨fun _ => ?_, ?_⟩; (· fail); exact hK)
              (try simp only [Act.put, List.setIfInBounds_toArray, List.set_cons_zero, List.set_cons_succ])
              refine segQuiet rfl rfl ?_
              apply Exists.intro
              refine ⟨fun b F hF hf K hK => ?_, ?_⟩
              · have hFc := hF.cls
                have hcd : ∀ d, _ := fun d => end_any g [] (by decide) false (F d) (hFc d).1
                go_big_quiet_op
                first | exact hK | (apply Exists.intro; refine ⟨fun _ => ?_, ?_⟩; (· exact hF.same (hcd _)); exact hK)
              (try simp only [Act.put, List.setIfInBounds_toArray, List.set_cons_zero, List.set_cons_succ])
              refine segQuiet rfl rfl ?_
              apply Exists.intro
              refine ⟨fun b F hF hf K hK => ?_, ?_⟩
              · have hFc := hF.cls
                go_big_quiet_op
                first | exact hK | (apply Exists.intro; refine ⟨fun _ => ?_, ?_⟩; (· fail); exact hK)
              (try simp only [Act.put, List.setIfInBounds_toArray, List.set_cons_zero, List.set_cons_succ])
              refine segQuiet rfl rfl ?_
              apply Exists.intro
              refine ⟨fun b F hF hf K hK => ?_, ?_⟩
              · have hFc := hF.cls
                go_big_quiet_op
                first | exact hK | (apply Exists.intro; refine ⟨fun _ => ?_, ?_⟩; (· fail); exact hK)
              (try simp only [Act.put, List.setIfInBounds_toArray, List.set_cons_zero, List.set_cons_succ])
              refine segEnd ?_
              exact rfl
            · exact fun x => rfl
            · intro W6 x6 B6 h6
              refine from_end 42 rfl ?_
              go_wp2
              go_ret
              exact ⟨rfl, B6.2⟩
end Go.Proofs.Yteahjfnjjopncaa.Wd
