/- The law CrcBursts. -/
import Derived.Test.YtlnamjomhfmbaaaCrcC
import Derived.Test.YtlnamjomhfmbaaaArr
import Derived.Laws.OwnMore
namespace Go.Proofs.Ytlnamjomhfmbaaa.Wd
open Go.RowKit
set_option linter.unusedVariables false
set_option linter.unusedSimpArgs false
/-- Four bytes in the making: the first k are changed. -/
def mid (y x : Nat → Int) (k : Nat) : List Int := lst 4 fun i => if i < k then (((y i).toNat ^^^ (x i).toNat : Nat) : Int) else y i
def chg (p r : List Int) (y x : Nat → Int) (k : Nat) : List Int := p ++ (mid y x k ++ r)
theorem mid_len (y x : Nat → Int) (k : Nat) : (mid y x k).length = 4 := lst_len _ _
theorem chg_len (p r : List Int) (y x : Nat → Int) (k : Nat) : (chg p r y x k).length = p.length + 4 + r.length := by
  simp [chg, mid_len]; omega
theorem chg_get (p r : List Int) (y x : Nat → Int) (k : Nat) (hk : k < 4) : (chg p r y x k)[p.length + k]? = some (y k) := by
  unfold chg
  rw [List.getElem?_append_right (by omega), Nat.add_sub_cancel_left, List.getElem?_append_left (by rw [mid_len]; exact hk), mid, lst_get 4 _ k hk, if_neg (by omega)]
theorem chg_set (p r : List Int) (y x : Nat → Int) (k : Nat) (hk : k < 4) : (chg p r y x k).set (p.length + k) (((y k).toNat ^^^ (x k).toNat : Nat) : Int) = chg p r y x (k + 1) := by
  unfold chg
  rw [List.set_append_right _ _ (by omega), Nat.add_sub_cancel_left, List.set_append_left _ _ (by rw [mid_len]; exact hk)]
  congr 2
  refine List.ext_getElem (by simp [mid_len]) fun i h1 h2 => ?_
  rw [List.getElem_set]
  simp only [mid, lst, List.getElem_map, List.getElem_range]
  by_cases h : k = i
  · subst h
    simp
  · rw [if_neg h]
    by_cases h' : i < k
    · rw [if_pos h', if_pos (by omega)]
    · rw [if_neg h', if_neg (by omega)]
theorem cut4 (n a : Nat) (z : Nat → Int) (h : a + 4 ≤ n) (x : Nat → Int) : lst n z = chg ((lst n z).take a) ((lst n z).drop (a + 4)) (fun i => z (a + i)) x 0 := by
  have e : mid (fun i => z (a + i)) x 0 = ((lst n z).drop a).take 4 := by
    refine List.ext_getElem (by rw [mid_len, List.length_take, List.length_drop, lst_len]; omega) fun i h1 h2 => ?_
    simp [mid, lst]
  unfold chg
  rw [e, ← List.drop_drop, List.take_append_drop, List.take_append_drop]
theorem take_len (n a : Nat) (z : Nat → Int) (h : a + 4 ≤ n) : ((lst n z).take a).length = a := by
  rw [List.length_take, lst_len]; omega
theorem nats4 (p r : List Int) (y x : Nat → Int) : nats (chg p r y x 4) = nats p ++ ([(y 0).toNat ^^^ (x 0).toNat, (y 1).toNat ^^^ (x 1).toNat, (y 2).toNat ^^^ (x 2).toNat, (y 3).toNat ^^^ (x 3).toNat] ++ nats r) := by
  simp [nats, chg, mid, lst, List.range, List.range.loop]
theorem nats0 (p r : List Int) (y x : Nat → Int) : nats (chg p r y x 0) = nats p ++ ([(y 0).toNat, (y 1).toNat, (y 2).toNat, (y 3).toNat] ++ nats r) := by
  simp [nats, chg, mid, lst, List.range, List.range.loop]
theorem chg_differs (p r : List Int) (y x : Nat → Int) (hx : ∀ i, i < 4 → 0 ≤ x i ∧ x i < 256) (hd : ¬ (x 0 = 0 ∧ x 1 = 0 ∧ x 2 = 0 ∧ x 3 = 0)) : ofN (nats (chg p r y x 4)) ≠ ofN (nats (chg p r y x 0)) := by
  have h0 := hx 0 (by decide)
  have h1 := hx 1 (by decide)
  have h2 := hx 2 (by decide)
  have h3 := hx 3 (by decide)
  intro h
  unfold ofN moreN at h
  rw [nats4, nats0] at h
  refine burst (4294967295 ^^^ 0) (nats p) (nats r) (y 0).toNat (y 1).toNat (y 2).toNat (y 3).toNat (x 0).toNat (x 1).toNat (x 2).toNat (x 3).toNat (by omega) (by omega) (by omega) (by omega) (by omega) ?_
  have e := congrArg (fun m => 4294967295 ^^^ m) h
  simp only [← Nat.xor_assoc, Nat.xor_self, Nat.zero_xor] at e
  exact e
theorem xor_byte (a b : Int) (ha : 0 ≤ a ∧ a < 256) (hb : 0 ≤ b ∧ b < 256) : bits .xor .u8 a b = ((a.toNat ^^^ b.toNat : Nat) : Int) := by
  have e1 := xor_8 a.toNat b.toNat (by omega) (by omega)
  rw [Int.toNat_of_nonneg ha.1, Int.toNat_of_nonneg hb.1] at e1
  exact e1
theorem mid_rng (y x : Nat → Int) (k : Nat) (hy : ∀ i, i < 4 → 0 ≤ y i ∧ y i < 256) (hx : ∀ i, i < 4 → 0 ≤ x i ∧ x i < 256) : ∀ u, u ∈ mid y x k → 0 ≤ u ∧ u < 256 := by
  intro u hu
  obtain ⟨i, hi, rfl⟩ := List.mem_map.1 hu
  have hi' := List.mem_range.1 hi
  have h1 := hy i hi'
  have h2 := hx i hi'
  split
  · have := Nat.xor_lt_two_pow (n := 8) (x := (y i).toNat) (y := (x i).toNat) (by omega) (by omega)
    omega
  · exact h1
set_option maxHeartbeats 1000000 in
theorem eq_arr4 (a b c d : Int) (w : World) : Sem.run Try.prog (Op.equalIn 10000 30 (.agg #[.int .u8 a, .int .u8 b, .int .u8 c, .int .u8 d]) (.agg #[.int .u8 0, .int .u8 0, .int .u8 0, .int .u8 0])) w = .ok (a == 0 && b == 0 && c == 0 && d == 0) w := by
  have u5 := Try.underlying5
  have a5 := Try.isAgg5
  have z5 := Try.sizeOf5
  rw [show (10000 : Nat) = 9999 + 1 from rfl, Op.equalIn]
  simp only [Sem.run_bind, run_underlying Try.underlying30, Result.andThen_ok]
  simp only [Std.Legacy.Range.forIn_eq_forIn_range', Std.Legacy.Range.size, Nat.sub_zero, Nat.add_sub_cancel, Nat.div_one, List.range'_succ, List.range'_zero, List.forIn_cons, List.forIn_nil]
  go_simp
  by_cases h1 : a = 0 <;> by_cases h2 : b = 0 <;> by_cases h3 : c = 0 <;> by_cases h4 : d = 0 <;> simp [h1, h2, h3, h4]
set_option maxHeartbeats 4000000 in
theorem cbursts_walk (w : World) (z : Nat → Int) (n cap : Nat) (p : Option Addr) (at_ : Int) (x : Nat → Int) (hr : RowN .u8 w p n cap z) (hat : -9223372036854775808 ≤ at_ ∧ at_ ≤ 9223372036854775807) (hx0 : ∀ i, i < 4 → 0 ≤ x i ∧ x i ≤ 255) :
    Calls Try.prog 6 #[.slice p n cap, .int .i64 at_, .agg #[.int .u8 (x 0), .int .u8 (x 1), .int .u8 (x 2), .int .u8 (x 3)]] w fun e w' => e = .returned (.bool true) ∧ Below w.heap.size w w' := by
  have hx : ∀ i, i < 4 → 0 ≤ x i ∧ x i < 256 := fun i hi => by have := hx0 i hi; omega
  clear hx0
  have Hb : Hid (Bytes w (.slice p n cap) (lst n z)) := hr.bytes
  have Hrng : Hid (∀ y, y ∈ lst n z → 0 ≤ y ∧ y < 256) := hr.rng
  have Hz : Hid (∀ i, i < n → 0 ≤ z i ∧ z i < 256) := fun i hi => hr.rng _ (List.mem_map.2 ⟨i, List.mem_range.2 hi, rfl⟩)
  have hcap : n ≤ cap ∧ cap ≤ 9223372036854775807 := ⟨hr.1.1, hr.1.2.1⟩
  have HX : Hid (∀ i, i < 4 → 0 ≤ x i ∧ x i < 256) := hx
  have b0 := hx 0 (by decide)
  have b1 := hx 1 (by decide)
  have b2 := hx 2 (by decide)
  have b3 := hx 3 (by decide)
  obtain ⟨x0, e0⟩ : ∃ y, x 0 = y := ⟨_, rfl⟩
  obtain ⟨x1, e1⟩ : ∃ y, x 1 = y := ⟨_, rfl⟩
  obtain ⟨x2, e2⟩ : ∃ y, x 2 = y := ⟨_, rfl⟩
  obtain ⟨x3, e3⟩ : ∃ y, x 3 = y := ⟨_, rfl⟩
  rw [e0] at b0 ⊢
  rw [e1] at b1 ⊢
  rw [e2] at b2 ⊢
  rw [e3] at b3 ⊢
  have HE : Hid (x 0 = x0 ∧ x 1 = x1 ∧ x 2 = x2 ∧ x 3 = x3) := ⟨e0, e1, e2, e3⟩
  clear e0 e1 e2 e3 hx hr
  go_enter Try.func6, Try.ntmps6
  go_wp2_with fail
  obtain ⟨wb, ewb⟩ : ∃ W, (w.alloc (.cells #[.int .u8 x0, .int .u8 x1, .int .u8 x2, .int .u8 x3] 30)) = W := ⟨_, rfl⟩
  have Bb : Below w.heap.size w wb := by rw [← ewb]; exact (Below.refl _ _).alloc (Nat.le_refl _) _
  have Hc : Hid (∀ i, i < 4 → wb.cell? ⟨w.heap.size, i, none⟩ = some (.int .u8 (x i))) := fun i hi => by
    obtain ⟨f0, f1, f2, f3⟩ := HE.out
    rw [← ewb]
    match i, hi with
    | 0, _ => rw [f0]; simp [go_sem]
    | 1, _ => rw [f1]; simp [go_sem]
    | 2, _ => rw [f2]; simp [go_sem]
    | 3, _ => rw [f3]; simp [go_sem]
  rw [ewb]
  clear ewb
  refine (cawake_any wb).mono ?_
  rintro e w1 ⟨rfl, B1⟩
  have Hc1 : Hid (∀ W, Below w1.heap.size w1 W → ∀ i, i < 4 → W.cell? ⟨w.heap.size, i, none⟩ = some (.int .u8 (x i))) := fun W hW i hi => keep (B1.trans (hW.mono B1.size)) (Hc.out i hi)
  have B2 := below_upb Bb B1
  have c0 := Hc1.out w1 (Below.refl _ _) 0 (by decide)
  have c1 := Hc1.out w1 (Below.refl _ _) 1 (by decide)
  have c2 := Hc1.out w1 (Below.refl _ _) 2 (by decide)
  have c3 := Hc1.out w1 (Below.refl _ _) 3 (by decide)
  obtain ⟨f0, f1, f2, f3⟩ := HE.out
  rw [f0] at c0
  rw [f1] at c1
  rw [f2] at c2
  rw [f3] at c3
  clear f0 f1 f2 f3 Hc B1 Bb
  by_cases hn : 600 < n
  · have hn' : (600 : Int) < (n : Int) := by omega
    go_wp2
    go_ret
    exact ⟨rfl, B2⟩
  have hn' : (n : Int) ≤ 600 := by omega
  by_cases ha0 : at_ < 0
  · go_wp2
    go_ret
    exact ⟨rfl, B2⟩
  by_cases ha4 : at_ > (n : Int) - 4
  · go_wp2
    go_ret
    exact ⟨rfl, B2⟩
  have hq := fun W => eq_arr4 x0 x1 x2 x3 W
  by_cases hx0 : x0 = 0 ∧ x1 = 0 ∧ x2 = 0 ∧ x3 = 0
  · have hd : (x0 == 0 && x1 == 0 && x2 == 0 && x3 == 0) = true := by simp; omega
    simp only [hd] at hq
    clear hx0 hd
    go_wp2
    go_ret
    exact ⟨rfl, B2⟩
  have hd : (x0 == 0 && x1 == 0 && x2 == 0 && x3 == 0) = false := by
    apply Bool.eq_false_iff.2
    intro h
    simp at h
    omega
  simp only [hd] at hq
  have HD : Hid (¬ (x 0 = 0 ∧ x 1 = 0 ∧ x 2 = 0 ∧ x 3 = 0)) := by
    obtain ⟨f0, f1, f2, f3⟩ := HE.out
    show ¬ _
    rw [f0, f1, f2, f3]
    exact hx0
  clear hx0 hd
  obtain ⟨a, rfl⟩ := Int.eq_ofNat_of_zero_le (show 0 ≤ at_ by omega)
  simp only [Int.ofNat_eq_natCast] at *
  have ha : a + 4 ≤ n := by omega
  have ha' : (a : Int) + 4 ≤ (n : Int) := by omega
  have H1 : Hid (Bytes w1 (.slice p n cap) (lst n z)) := Hb.out.up B2
  have hcut := cut4 n a z ha x
  have hpl := take_len n a z ha
  obtain ⟨P, eP⟩ : ∃ P, (lst n z).take a = P := ⟨_, rfl⟩
  obtain ⟨R, eR⟩ : ∃ R, (lst n z).drop (a + 4) = R := ⟨_, rfl⟩
  obtain ⟨y, ey⟩ : ∃ y : Nat → Int, (fun i => z (a + i)) = y := ⟨_, rfl⟩
  rw [eP, eR, ey] at hcut
  rw [eP] at hpl
  have HP : Hid (P.length = a) := hpl
  have HY : Hid (∀ i, i < 4 → 0 ≤ y i ∧ y i < 256) := fun i hi => by rw [← ey]; exact Hz.out (a + i) (by omega)
  have HPR : Hid (∀ u, u ∈ chg P R y x 4 → 0 ≤ u ∧ u < 256) := by
    intro u hu
    simp only [chg, List.mem_append] at hu
    rcases hu with hu | hu | hu
    · exact Hrng.out u (by rw [← eP] at hu; exact List.mem_of_mem_take hu)
    · exact mid_rng y x 4 HY.out HX.out u hu
    · exact Hrng.out u (by rw [← eR] at hu; exact List.mem_of_mem_drop hu)
  have HL : Hid (lst n z = chg P R y x 0) := hcut
  have HN : Hid (∀ k, (chg P R y x k).length = n) := fun k => by
    rw [chg_len]
    have := congrArg List.length HL.out
    rw [lst_len, chg_len] at this
    omega
  clear hcut hpl eP eR ey Hz Hb
  go_wp2_with (at_builtin; refine wpList_append8 rfl (.tmp 30) (.tmp 31) rfl w1.heap.size _ [] rfl (own8_new w1) _ (lst n z) rfl (H1.out.up ((Below.refl _ _).alloc (Nat.le_refl _) _)) (by rw [lst_len]; simp; omega) (by simp) w1 ((Below.refl _ _).alloc (Nat.le_refl _) _) ?_; intro v2 w2 HO2 hB2)
  rw [List.nil_append, HL.out] at HO2
  obtain ⟨g, cap2, rfl, hg⟩ : ∃ g cap2, v2 = .slice (some ⟨g, 0, none⟩) n cap2 ∧ w1.heap.size ≤ g := by
    rcases HO2.out.2 with ⟨h, h'⟩ | ⟨g, cap2, cur, h, hB, _⟩
    · rw [HN.out] at h'
      omega
    · rw [HN.out] at h
      exact ⟨g, cap2, h, hB⟩
  have HO3 : Hid (w2.ownsRow w1.heap.size 5 1 (.slice (some ⟨g, 0, none⟩) n cap2) n (bv (chg P R y x 0))) := by
    have := HO2.out
    unfold Own8 at this
    rw [HN.out] at this
    exact this
  have HG : Hid (w1.heap.size ≤ g) := hg
  clear HO2 hg c0 c1 c2 c3
  go_loopg [8] 4 (fun gg v wr => ∃ (k : Nat), k ≤ 4 ∧ gg = 4 - k ∧ v = .int .i64 (k : Int) ∧ Hid (wr.ownsRow w1.heap.size 5 1 (.slice (some ⟨g, 0, none⟩) n cap2) n (bv (chg P R y x k))) ∧ Hid (Below w1.heap.size w1 wr))
  case atStart => exact ⟨0, by omega, by omega, rfl, HO3, hB2⟩
  case round =>
    obtain ⟨k, hk, hgg, rfl, HR, hB⟩ := hrel
    by_cases hk4 : k < 4
    · have hk' : (k : Int) < 4 := by omega
      have hcx := Hc1.out wr hB.out k hk4
      obtain ⟨j, ej⟩ : ∃ j, a + k = j := ⟨_, rfl⟩
      have hj : (a : Int) + (k : Int) = (j : Int) := by omega
      have hjn : (j : Int) < (n : Int) := by omega
      have hjw : IntKind.i64.wrap ((a : Int) + (k : Int)) = (j : Int) := by rw [IntKind.wrap_i64]; omega
      have hget := chg_get P R y x k hk4
      have hset := chg_set P R y x k hk4
      rw [HP.out, ej] at hget hset
      have hcell : wr.cell? ⟨g, j, none⟩ = some (.int .u8 (y k)) := by
        rw [World.ownsRow.cellAt HR.out j (by omega), bv, List.getElem?_map, hget]
        rfl
      have hfz := World.ownsRow.frozenAt HR.out j
      have ex := xor_byte (y k) (x k) (HY.out k hk4) (HX.out k hk4)
      have hst := World.ownsRow.stored HR.out j (.int .u8 (((y k).toNat ^^^ (x k).toNat : Nat) : Int))
      rw [bv_set, hset] at hst
      have B3 : Below w1.heap.size w1 (wr.setCell ⟨g, j, none⟩ (.int .u8 (((y k).toNat ^^^ (x k).toNat : Nat) : Int))) := hB.out.setCell (p := ⟨g, j, none⟩) HG.out _
      have hyk := HY.out k hk4
      have hxk := HX.out k hk4
      obtain ⟨u, eu⟩ : ∃ u : Int, (((y k).toNat ^^^ (x k).toNat : Nat) : Int) = u := ⟨_, rfl⟩
      rw [eu] at ex hst B3
      have HS : Hid ((wr.setCell ⟨g, j, none⟩ (.int .u8 u)).ownsRow w1.heap.size 5 1 (.slice (some ⟨g, 0, none⟩) n cap2) n (bv (chg P R y x (k + 1)))) := hst.1
      have HB3 : Hid (Below w1.heap.size w1 (wr.setCell ⟨g, j, none⟩ (.int .u8 u))) := B3
      obtain ⟨y1, ey1⟩ : ∃ t, y k = t := ⟨_, rfl⟩
      obtain ⟨y2, ey2⟩ : ∃ t, x k = t := ⟨_, rfl⟩
      rw [ey1] at ex hcell hyk
      rw [ey2] at ex hcx hxk
      clear hst B3 eu ey1 ey2 ej hget hset
      go_wp2
      go_region
      all_goals
        go_wp2
        go_roundg (4 - (k + 1))
      case measure => omega
      case rel => exact ⟨k + 1, by omega, rfl, by first | rfl | simp, HS, HB3.out.trans ⟨rfl, rfl, rfl, Nat.le_refl _, fun _ _ => rfl⟩⟩
    · obtain rfl : k = 4 := by omega
      have hne := chg_differs P R y x HX.out HD.out
      have hO : Own8 wr w1.heap.size (.slice (some ⟨g, 0, none⟩) n cap2) (chg P R y x 4) := by
        unfold Own8
        rw [HN.out]
        exact HR.out
      have kc := of_any _ _ HPR.out (by rw [HN.out]; omega) wr hO.bytes
      have kb := of_any _ _ Hrng.out (by rw [lst_len]; omega) wr (H1.out.up hB.out)
      rw [HL.out] at kb
      obtain ⟨r1, h1⟩ : ∃ t : Int, ((ofN (nats (chg P R y x 4)) : Nat) : Int) = t := ⟨_, rfl⟩
      obtain ⟨r2, h2⟩ : ∃ t : Int, ((ofN (nats (chg P R y x 0)) : Nat) : Int) = t := ⟨_, rfl⟩
      have hr : ¬ (r1 = r2) := by omega
      have hr' : (r1 != r2) = true := by simpa using hr
      rw [h1] at kc
      rw [h2] at kb
      have hBB := below_upb B2 hB.out
      clear h1 h2 hne hO HR hB HO3
      go_wp2_with fail
      refine kc.mono ?_
      rintro e w5 ⟨rfl, rfl⟩
      go_wp2_with fail
      refine kb.mono ?_
      rintro e w6 ⟨rfl, rfl⟩
      go_wp2
      go_ret
      exact ⟨rfl, hBB⟩
end Go.Proofs.Ytlnamjomhfmbaaa.Wd
