/- The law PackOrder. -/
import Derived.Test.YteahjfnjjopncaaPkC
import Derived.Test.YteahjfnjjopncaaSeg
namespace Go.Proofs.Yteahjfnjjopncaa.Wd
open Go.RowKit
set_option linter.unusedVariables false
set_option linter.unusedSimpArgs false
/-- A slice of n bytes, these. -/
def At8 (n : Nat) (l : List Int) (v : Value) (W : World) : Prop := ∃ b c, v = .slice (some b) n c ∧ Bytes W v l
theorem At8.up {n : Nat} {l : List Int} {v : Value} {W W' : World} (h : At8 n l v W) (hb : Below W.heap.size W W') : At8 n l v W' := by
  obtain ⟨b, c, h1, h2⟩ := h
  exact ⟨b, c, h1, h2.up hb⟩
theorem Own8.at8 {W : World} {B n : Nat} {v : Value} {l : List Int} (h : Own8 W B v l) (hl : l.length = n) (hn : 0 < n) : At8 n l v W := by
  have hb := h.bytes
  rcases h.2 with ⟨_, h2⟩ | ⟨g, cap, cur, rfl, _⟩
  · omega
  · rw [hl] at hb ⊢
    exact ⟨_, _, rfl, hb⟩
theorem order_conv {l : List Int} {n : Nat} (hl : l.length = n) (hr : ∀ y, y ∈ l → 0 ≤ y ∧ y < 256) {W : World} {b : Addr} {c : Nat} (h : Bytes W (.slice (some b) n c) l) : Sem.run Try.prog (convert 25 9 (.slice (some b) n c)) W = .ok (.string (str l)) W := by
  exact h.conv hl hr W (Below.refl _ _)
theorem pu64_at (a : Int) (ha : 0 ≤ a ∧ a ≤ 18446744073709551615) (W : World) : Calls Try.prog 17 #[.slice none 0 0, .int .u64 a] W fun e w' => ∃ v, e = .returned v ∧ At8 8 (be 8 a) v w' ∧ Below W.heap.size W w' := by
  refine (pu64_any (.slice none 0 0) [] (by decide) a (by omega) W (.inl ⟨rfl, rfl⟩)).mono ?_
  rintro e w' ⟨v, rfl, ho, hb⟩
  rw [List.nil_append] at ho
  exact ⟨v, rfl, ho.at8 (be_len _ _) (by decide), hb⟩
theorem pu32_at (a : Int) (ha : 0 ≤ a ∧ a ≤ 4294967295) (W : World) : Calls Try.prog 18 #[.slice none 0 0, .int .u32 a] W fun e w' => ∃ v, e = .returned v ∧ At8 4 (be 4 a) v w' ∧ Below W.heap.size W w' := by
  refine (pu32_any (.slice none 0 0) [] (by decide) a (by omega) W (.inl ⟨rfl, rfl⟩)).mono ?_
  rintro e w' ⟨v, rfl, ho, hb⟩
  rw [List.nil_append] at ho
  exact ⟨v, rfl, ho.at8 (be_len _ _) (by decide), hb⟩
theorem str_list (l : List Int) : (str l).toList = l.map fun x => UInt8.ofNat x.toNat := by
  rw [ByteArray.toList_eq]
  simp [str]
theorem str_size (l : List Int) : (str l).size = l.length := by simp [str, ByteArray.size]
theorem be_head (k : Nat) (x : Int) : be (k + 1) x = (x / 256 ^ k % 256) :: be k x := by
  have := be_add 1 k x
  rw [Nat.add_comm 1 k] at this
  rw [this]
  simp [be]
theorem u8_lt (x y : Int) (hx : 0 ≤ x ∧ x < 256) (hy : 0 ≤ y ∧ y < 256) : (UInt8.ofNat x.toNat < UInt8.ofNat y.toNat) ↔ x < y := by
  rw [UInt8.lt_iff_toNat_lt, UInt8.toNat_ofNat', UInt8.toNat_ofNat']
  omega
theorem u8_eq (x y : Int) (hx : 0 ≤ x ∧ x < 256) (hy : 0 ≤ y ∧ y < 256) : (UInt8.ofNat x.toNat = UInt8.ofNat y.toNat) ↔ x = y := by
  rw [← UInt8.toNat_inj, UInt8.toNat_ofNat', UInt8.toNat_ofNat']
  omega
theorem mod_mul (p a : Int) (hp : 0 < p) : a % (p * 256) = p * (a / p % 256) + a % p := by
  have a1 := Int.emod_nonneg a (Int.ne_of_gt hp)
  have a2 := Int.emod_lt_of_pos a hp
  have h1 := Int.mul_ediv_add_emod a p
  have h2 := Int.mul_ediv_add_emod (a / p) 256
  have r1 : 0 ≤ a / p % 256 := by omega
  have r2 : a / p % 256 + 1 ≤ 256 := by omega
  have m1 : 0 ≤ p * (a / p % 256) := Int.mul_nonneg (by omega) r1
  have m2 : p * (a / p % 256 + 1) ≤ p * 256 := Int.mul_le_mul_of_nonneg_left r2 (by omega)
  rw [Int.mul_add] at m2
  have e : a = (p * (a / p % 256) + a % p) + (p * 256) * (a / p / 256) := by
    conv => lhs; rw [← h1, ← h2]
    rw [Int.mul_add, Int.mul_assoc]
    omega
  conv => lhs; rw [e]
  rw [Int.add_mul_emod_self_left, Int.emod_eq_of_lt (by omega) (by omega)]
theorem less_mod (p a b : Int) (hp : 0 < p) : (a % (p * 256) < b % (p * 256)) ↔ (a / p % 256 < b / p % 256 ∨ (a / p % 256 = b / p % 256 ∧ a % p < b % p)) := by
  have ea : a % (p * 256) = p * (a / p % 256) + a % p := mod_mul p a hp
  have eb : b % (p * 256) = p * (b / p % 256) + b % p := mod_mul p b hp
  rw [ea, eb]
  have a1 := Int.emod_nonneg a (Int.ne_of_gt hp)
  have a2 := Int.emod_lt_of_pos a hp
  have b1 := Int.emod_nonneg b (Int.ne_of_gt hp)
  have b2 := Int.emod_lt_of_pos b hp
  generalize a / p % 256 = u
  generalize b / p % 256 = v
  generalize a % p = r at *
  generalize b % p = s at *
  rcases Int.lt_trichotomy u v with h | h | h
  · have : p * (u + 1) ≤ p * v := Int.mul_le_mul_of_nonneg_left (by omega) (by omega)
    rw [Int.mul_add] at this
    constructor
    · intro _; exact .inl h
    · intro _; omega
  · subst h
    constructor
    · intro h; exact .inr ⟨rfl, by omega⟩
    · rintro (h | ⟨_, h⟩)
      · omega
      · omega
  · have : p * (v + 1) ≤ p * u := Int.mul_le_mul_of_nonneg_left (by omega) (by omega)
    rw [Int.mul_add] at this
    constructor
    · intro _; omega
    · rintro (h | ⟨_, h⟩) <;> omega
theorem less_be (a b : Int) : ∀ k, Op.bytesLess ((be k a).map fun x => UInt8.ofNat x.toNat) ((be k b).map fun x => UInt8.ofNat x.toNat) = decide (a % 256 ^ k < b % 256 ^ k)
  | 0 => by simp [be, Op.bytesLess, Int.emod_one]
  | k + 1 => by
    rw [be_head, be_head, List.map_cons, List.map_cons, Op.bytesLess, less_be a b k]
    have hp : (0 : Int) < 256 ^ k := Int.pow_pos (by decide)
    have h1 : 0 ≤ a / 256 ^ k % 256 ∧ a / 256 ^ k % 256 < 256 := by omega
    have h2 : 0 ≤ b / 256 ^ k % 256 ∧ b / 256 ^ k % 256 < 256 := by omega
    rw [Bool.eq_iff_iff]
    simp only [Bool.or_eq_true, decide_eq_true_eq, Bool.and_eq_true, beq_iff_eq]
    rw [u8_lt _ _ h1 h2, u8_eq _ _ h1 h2, Int.pow_succ, less_mod _ _ _ hp]
theorem less_str (k : Nat) (a b : Int) (ha : 0 ≤ a ∧ a < 256 ^ k) (hb : 0 ≤ b ∧ b < 256 ^ k) : Op.bytesLess (str (be k a)).toList (str (be k b)).toList = decide (a < b) := by
  rw [str_list, str_list, less_be, Int.emod_eq_of_lt ha.1 ha.2, Int.emod_eq_of_lt hb.1 hb.2]
set_option maxHeartbeats 4000000 in
set_option maxRecDepth 10000 in
theorem order_walk (w : World) (a b c d : Int) (ha : 0 ≤ a ∧ a ≤ 18446744073709551615) (hb : 0 ≤ b ∧ b ≤ 18446744073709551615) (hc : 0 ≤ c ∧ c ≤ 4294967295) (hd : 0 ≤ d ∧ d ≤ 4294967295) :
    Calls Try.prog 6 #[.int .u64 a, .int .u64 b, .int .u32 c, .int .u32 d] w fun e w' => e = .returned (.bool true) ∧ Below w.heap.size w w' := by
  have ca := pu64_at a ha
  have cb := pu64_at b hb
  have cc := pu32_at c hc
  have cd := pu32_at d hd
  obtain ⟨sa, ea⟩ : ∃ s, str (be 8 a) = s := ⟨_, rfl⟩
  obtain ⟨sb, eb⟩ : ∃ s, str (be 8 b) = s := ⟨_, rfl⟩
  obtain ⟨sc, ec⟩ : ∃ s, str (be 4 c) = s := ⟨_, rfl⟩
  obtain ⟨sd, ed⟩ : ∃ s, str (be 4 d) = s := ⟨_, rfl⟩
  have va : ∀ {W : World} {b : Addr} {c : Nat}, Bytes W (.slice (some b) 8 c) (be 8 a) → Sem.run Try.prog (convert 25 9 (.slice (some b) 8 c)) W = .ok (.string sa) W := fun h => by rw [← ea]; exact order_conv (be_len _ _) (be_byte _ _) h
  have vb : ∀ {W : World} {e : Addr} {c : Nat}, Bytes W (.slice (some e) 8 c) (be 8 b) → Sem.run Try.prog (convert 25 9 (.slice (some e) 8 c)) W = .ok (.string sb) W := fun h => by rw [← eb]; exact order_conv (be_len _ _) (be_byte _ _) h
  have vc : ∀ {W : World} {e : Addr} {f : Nat}, Bytes W (.slice (some e) 4 f) (be 4 c) → Sem.run Try.prog (convert 25 9 (.slice (some e) 4 f)) W = .ok (.string sc) W := fun h => by rw [← ec]; exact order_conv (be_len _ _) (be_byte _ _) h
  have vd : ∀ {W : World} {e : Addr} {f : Nat}, Bytes W (.slice (some e) 4 f) (be 4 d) → Sem.run Try.prog (convert 25 9 (.slice (some e) 4 f)) W = .ok (.string sd) W := fun h => by rw [← ed]; exact order_conv (be_len _ _) (be_byte _ _) h
  have HV : Hid ((∀ {W : World} {b : Addr} {c : Nat}, Bytes W (.slice (some b) 8 c) (be 8 a) → Sem.run Try.prog (convert 25 9 (.slice (some b) 8 c)) W = .ok (.string sa) W) ∧ (∀ {W : World} {e : Addr} {c : Nat}, Bytes W (.slice (some e) 8 c) (be 8 b) → Sem.run Try.prog (convert 25 9 (.slice (some e) 8 c)) W = .ok (.string sb) W)) := ⟨va, vb⟩
  have HW : Hid ((∀ {W : World} {e : Addr} {f : Nat}, Bytes W (.slice (some e) 4 f) (be 4 c) → Sem.run Try.prog (convert 25 9 (.slice (some e) 4 f)) W = .ok (.string sc) W) ∧ (∀ {W : World} {e : Addr} {f : Nat}, Bytes W (.slice (some e) 4 f) (be 4 d) → Sem.run Try.prog (convert 25 9 (.slice (some e) 4 f)) W = .ok (.string sd) W)) := ⟨vc, vd⟩
  have l1 : Op.bytesLess sa.toList sb.toList = decide (a < b) := by rw [← ea, ← eb]; exact less_str 8 a b (by simp; omega) (by simp; omega)
  have l2 : Op.bytesLess sc.toList sd.toList = decide (c < d) := by rw [← ec, ← ed]; exact less_str 4 c d (by simp; omega) (by simp; omega)
  have z1 : sa.size = 8 := by rw [← ea, str_size, be_len]
  have z2 : sc.size = 4 := by rw [← ec, str_size, be_len]
  clear va vb vc vd ea eb ec ed
  haveI : Nonempty World := ⟨w⟩
  go_enter Try.func6, Try.ntmps6
  go_wp2_with fail
  refine (awake_any w).mono ?_
  rintro e w1 ⟨rfl, B1⟩
  go_wp2_with fail
  refine from_region (by kernel_rfl) ?_
  refine segR (fun W => Below w.heap.size w W) [⟨1, 16, At8 8 (be 8 a)⟩, ⟨4, 19, At8 8 (be 8 b)⟩] 0 8 53 rfl rfl (by kernel_rfl) (by rfl) ?_ ?_ ?_ ?_
  · exact fun W W' h hb => h.trans (hb.mono h.size)
  · exact B1.trans ⟨rfl, rfl, rfl, Nat.le_refl _, fun _ _ => rfl⟩
  · intro e he v W W' h hb
    simp only [List.mem_cons, List.not_mem_nil, or_false] at he
    rcases he with rfl | rfl
    · exact At8.up h hb
    · exact At8.up h hb
  apply Exists.intro
  refine ⟨fun x => ?_, ?_, ?_⟩
  · simp only [List.drop_succ_cons, List.drop_zero, List.take_succ_cons, List.take_zero]
    refine segQuiet rfl rfl ?_
    apply Exists.intro
    refine ⟨fun b F hF hf K hK => ?_, ?_⟩
    · have hFc := hF.cls
      go_big_quiet_op
      first | exact hK | (apply Exists.intro; refine ⟨fun _ => ?_, ?_⟩; (· fail); exact hK)
    (try simp only [Act.put, List.setIfInBounds_toArray, List.set_cons_zero, List.set_cons_succ])
    refine segTold rfl (by decide) rfl ?_ ?_
    · intro b F hF hf d
      have hFc := hF.cls
      simp [yieldsR, yieldsUpon, go_sem]
      refine (ca _).mono ?_
      rintro e' w6 ⟨v6, rfl, R6, hb6⟩
      exact ⟨_, rfl, R6, hb6⟩
    (try simp only [Act.put, List.setIfInBounds_toArray, List.set_cons_zero, List.set_cons_succ])
    refine segQuiet rfl rfl ?_
    apply Exists.intro
    refine ⟨fun b F hF hf K hK => ?_, ?_⟩
    · have hFc := hF.cls
      have h9 := hf _ List.mem_cons_self (by rfl)
      obtain ⟨b9, c9, e9, _⟩ := h9 w
      have cv : ∀ d, Sem.run Try.prog (convert 25 9 (.slice (some b9) 8 c9)) (F d) = .ok (.string sa) (F d) := fun d => by
        obtain ⟨b, c, e1, h1⟩ := h9 d
        rw [e9] at h1
        exact HV.out.1 h1
      simp only at e9
      go_big_quiet_op
      first | exact hK | (apply Exists.intro; refine ⟨fun _ => ?_, ?_⟩; (· fail); exact hK)
    (try simp only [Act.put, List.setIfInBounds_toArray, List.set_cons_zero, List.set_cons_succ])
    refine segQuiet rfl rfl ?_
    apply Exists.intro
    refine ⟨fun b F hF hf K hK => ?_, ?_⟩
    · have hFc := hF.cls
      go_big_quiet_op
      first | exact hK | (apply Exists.intro; refine ⟨fun _ => ?_, ?_⟩; (· fail); exact hK)
    (try simp only [Act.put, List.setIfInBounds_toArray, List.set_cons_zero, List.set_cons_succ])
    refine segTold rfl (by decide) rfl ?_ ?_
    · intro b F hF hf d
      have hFc := hF.cls
      simp [yieldsR, yieldsUpon, go_sem]
      refine (cb _).mono ?_
      rintro e' w6 ⟨v6, rfl, R6, hb6⟩
      exact ⟨_, rfl, R6, hb6⟩
    (try simp only [Act.put, List.setIfInBounds_toArray, List.set_cons_zero, List.set_cons_succ])
    refine segQuiet rfl rfl ?_
    apply Exists.intro
    refine ⟨fun b F hF hf K hK => ?_, ?_⟩
    · have hFc := hF.cls
      have h9 := hf _ (List.mem_cons_of_mem _ List.mem_cons_self) (by rfl)
      obtain ⟨b9, c9, e9, _⟩ := h9 w
      have cv : ∀ d, Sem.run Try.prog (convert 25 9 (.slice (some b9) 8 c9)) (F d) = .ok (.string sb) (F d) := fun d => by
        obtain ⟨b, c, e1, h1⟩ := h9 d
        rw [e9] at h1
        exact HV.out.2 h1
      simp only at e9
      go_big_quiet_op
      first | exact hK | (apply Exists.intro; refine ⟨fun _ => ?_, ?_⟩; (· fail); exact hK)
    (try simp only [Act.put, List.setIfInBounds_toArray, List.set_cons_zero, List.set_cons_succ])
    refine segQuiet rfl rfl ?_
    apply Exists.intro
    refine ⟨fun b F hF hf K hK => ?_, ?_⟩
    · have hFc := hF.cls
      go_big_quiet_op
      first | exact hK | (apply Exists.intro; refine ⟨fun _ => ?_, ?_⟩; (· fail); exact hK)
    (try simp only [Act.put, List.setIfInBounds_toArray, List.set_cons_zero, List.set_cons_succ])
    refine segQuiet rfl rfl ?_
    apply Exists.intro
    refine ⟨fun b F hF hf K hK => ?_, ?_⟩
    · have hFc := hF.cls
      go_big_quiet_op
      first | exact hK | (apply Exists.intro; refine ⟨fun _ => ?_, ?_⟩; (· fail); exact hK)
    (try simp only [Act.put, List.setIfInBounds_toArray, List.set_cons_zero, List.set_cons_succ])
    refine segEnd ?_
    exact rfl
  · exact fun x => rfl
  · intro W1 x B1' hx
    refine from_end 8 rfl ?_
    clear hx
    go_wp2_with fail
    refine from_region (by kernel_rfl) ?_
    refine segR (fun W => Below w.heap.size w W) [⟨1, 22, At8 4 (be 4 c)⟩, ⟨4, 25, At8 4 (be 4 d)⟩] 0 8 53 rfl rfl (by kernel_rfl) (by rfl) ?_ ?_ ?_ ?_
    · exact fun W W' h hb => h.trans (hb.mono h.size)
    · exact B1'.trans ⟨rfl, rfl, rfl, Nat.le_refl _, fun _ _ => rfl⟩
    · intro e he v W W' h hb
      simp only [List.mem_cons, List.not_mem_nil, or_false] at he
      rcases he with rfl | rfl
      · exact At8.up h hb
      · exact At8.up h hb
    apply Exists.intro
    refine ⟨fun x => ?_, ?_, ?_⟩
    · simp only [List.drop_succ_cons, List.drop_zero, List.take_succ_cons, List.take_zero]
      refine segQuiet rfl rfl ?_
      apply Exists.intro
      refine ⟨fun b F hF hf K hK => ?_, ?_⟩
      · have hFc := hF.cls
        go_big_quiet_op
        first | exact hK | (apply Exists.intro; refine ⟨fun _ => ?_, ?_⟩; (· fail); exact hK)
      (try simp only [Act.put, List.setIfInBounds_toArray, List.set_cons_zero, List.set_cons_succ])
      refine segTold rfl (by decide) rfl ?_ ?_
      · intro b F hF hf d
        have hFc := hF.cls
        simp [yieldsR, yieldsUpon, go_sem]
        refine (cc _).mono ?_
        rintro e' w6 ⟨v6, rfl, R6, hb6⟩
        exact ⟨_, rfl, R6, hb6⟩
      (try simp only [Act.put, List.setIfInBounds_toArray, List.set_cons_zero, List.set_cons_succ])
      refine segQuiet rfl rfl ?_
      apply Exists.intro
      refine ⟨fun b F hF hf K hK => ?_, ?_⟩
      · have hFc := hF.cls
        have h9 := hf _ List.mem_cons_self (by rfl)
        obtain ⟨b9, c9, e9, _⟩ := h9 w
        have cv : ∀ d, Sem.run Try.prog (convert 25 9 (.slice (some b9) 4 c9)) (F d) = .ok (.string sc) (F d) := fun d => by
          obtain ⟨b, c, e1, h1⟩ := h9 d
          rw [e9] at h1
          exact HW.out.1 h1
        simp only at e9
        go_big_quiet_op
        first | exact hK | (apply Exists.intro; refine ⟨fun _ => ?_, ?_⟩; (· fail); exact hK)
      (try simp only [Act.put, List.setIfInBounds_toArray, List.set_cons_zero, List.set_cons_succ])
      refine segQuiet rfl rfl ?_
      apply Exists.intro
      refine ⟨fun b F hF hf K hK => ?_, ?_⟩
      · have hFc := hF.cls
        go_big_quiet_op
        first | exact hK | (apply Exists.intro; refine ⟨fun _ => ?_, ?_⟩; (· fail); exact hK)
      (try simp only [Act.put, List.setIfInBounds_toArray, List.set_cons_zero, List.set_cons_succ])
      refine segTold rfl (by decide) rfl ?_ ?_
      · intro b F hF hf d
        have hFc := hF.cls
        simp [yieldsR, yieldsUpon, go_sem]
        refine (cd _).mono ?_
        rintro e' w6 ⟨v6, rfl, R6, hb6⟩
        exact ⟨_, rfl, R6, hb6⟩
      (try simp only [Act.put, List.setIfInBounds_toArray, List.set_cons_zero, List.set_cons_succ])
      refine segQuiet rfl rfl ?_
      apply Exists.intro
      refine ⟨fun b F hF hf K hK => ?_, ?_⟩
      · have hFc := hF.cls
        have h9 := hf _ (List.mem_cons_of_mem _ List.mem_cons_self) (by rfl)
        obtain ⟨b9, c9, e9, _⟩ := h9 w
        have cv : ∀ d, Sem.run Try.prog (convert 25 9 (.slice (some b9) 4 c9)) (F d) = .ok (.string sd) (F d) := fun d => by
          obtain ⟨b, c, e1, h1⟩ := h9 d
          rw [e9] at h1
          exact HW.out.2 h1
        simp only at e9
        go_big_quiet_op
        first | exact hK | (apply Exists.intro; refine ⟨fun _ => ?_, ?_⟩; (· fail); exact hK)
      (try simp only [Act.put, List.setIfInBounds_toArray, List.set_cons_zero, List.set_cons_succ])
      refine segQuiet rfl rfl ?_
      apply Exists.intro
      refine ⟨fun b F hF hf K hK => ?_, ?_⟩
      · have hFc := hF.cls
        go_big_quiet_op
        first | exact hK | (apply Exists.intro; refine ⟨fun _ => ?_, ?_⟩; (· fail); exact hK)
      (try simp only [Act.put, List.setIfInBounds_toArray, List.set_cons_zero, List.set_cons_succ])
      refine segQuiet rfl rfl ?_
      apply Exists.intro
      refine ⟨fun b F hF hf K hK => ?_, ?_⟩
      · have hFc := hF.cls
        go_big_quiet_op
        first | exact hK | (apply Exists.intro; refine ⟨fun _ => ?_, ?_⟩; (· fail); exact hK)
      (try simp only [Act.put, List.setIfInBounds_toArray, List.set_cons_zero, List.set_cons_succ])
      refine segEnd ?_
      exact rfl
    · exact fun x => rfl
    · intro W2 y B2 hy
      refine from_end 8 rfl ?_
      clear hy
      go_wp2
      go_ret
      exact ⟨rfl, B2⟩
end Go.Proofs.Yteahjfnjjopncaa.Wd
