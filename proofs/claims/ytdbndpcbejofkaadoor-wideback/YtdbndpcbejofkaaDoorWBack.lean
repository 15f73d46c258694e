/- The law WideBack: a number's bytes are read back as it; sixteen bytes are some number's; others are none. -/
import Derived.Test.YtdbndpcbejofkaaDoorWAwake
import Derived.Test.YtdbndpcbejofkaaDoorWPutGet
import Derived.Test.YtdbndpcbejofkaaDoorRow
import Derived.Test.YtdbndpcbejofkaaDoorRel
namespace Go.Proofs.YtdbndpcbejofkaaDoor.Wd
open Go.RowKit Fx
set_option linter.unusedVariables false
set_option linter.unusedSimpArgs false
theorem val_be (z : Nat → Int) (x : Int) (hx : 0 ≤ x ∧ x < 18446744073709551616) (hz : ∀ j, j < 8 → z j = x / 256 ^ (7 - j) % 256) : val z 8 = x := by
  simp only [val]
  rw [hz 0 (by decide), hz 1 (by decide), hz 2 (by decide), hz 3 (by decide), hz 4 (by decide), hz 5 (by decide), hz 6 (by decide), hz 7 (by decide)]
  simp
  omega
theorem be_val (z : Nat → Int) : ∀ k, (∀ i, i < k → 0 ≤ z i ∧ z i < 256) → be k (val z k) = (List.range k).map z
  | 0, _ => rfl
  | k + 1, h => by
    have h1 := h k (by omega)
    rw [be, val, show (val z k * 256 + z k) / 256 = val z k by omega, show (val z k * 256 + z k) % 256 = z k by omega, be_val z k (fun i hi => h i (by omega)), List.range_succ]
    simp
theorem be_hi (x : Int) (hx : InW x) : be 16 x = be 8 (x / 18446744073709551616 % 18446744073709551616) ++ be 8 (x % 18446744073709551616) := by
  rw [be8_mod, be8_mod, be_88]
theorem be_big (z : Nat → Int) (hz : ∀ i, i < 16 → 0 ≤ z i ∧ z i < 256) : be 16 (big z) = (List.range 16).map z := by
  have v1 := val_lt z 8 (fun i hi => hz i (by omega)) 8 (by omega)
  have v2 := val_lt (fun i => z (8 + i)) 8 (fun i hi => hz (8 + i) (by omega)) 8 (by omega)
  have e256 : (256 : Int) ^ 8 = 18446744073709551616 := by decide
  rw [e256] at v1 v2
  have hb := wr_rng (val z 8 * 18446744073709551616 + val (fun i => z (8 + i)) 8)
  have e1 : big z / 18446744073709551616 % 18446744073709551616 = val z 8 := by unfold big wr; omega
  have e2 : big z % 18446744073709551616 = val (fun i => z (8 + i)) 8 := by unfold big wr; omega
  rw [be_hi (big z) hb, e1, e2, be_val z 8 (fun i hi => hz i (by omega)), be_val (fun i => z (8 + i)) 8 (fun i hi => hz (8 + i) (by omega))]
  rfl
theorem big_be (a : Int) (ha : InW a) (z : Nat → Int) (hz : ∀ j, j < 16 → (be 16 a)[j]? = some (z j)) : big z = a := by
  unfold InW at ha
  have h : ∀ j, j < 16 → z j = a / 256 ^ (15 - j) % 256 := by
    intro j hj
    have := hz j hj
    rw [be_get 16 a j hj] at this
    simpa using this.symm
  have e1 : val z 8 = a / 18446744073709551616 % 18446744073709551616 := by
    refine val_be z _ (by omega) fun j hj => ?_
    rw [h j (by omega)]
    match j, hj with
    | 0, _ => simp; try omega
    | 1, _ => simp; try omega
    | 2, _ => simp; try omega
    | 3, _ => simp; try omega
    | 4, _ => simp; try omega
    | 5, _ => simp; try omega
    | 6, _ => simp; try omega
    | 7, _ => simp; try omega
  have e2 : val (fun i => z (8 + i)) 8 = a % 18446744073709551616 := by
    refine val_be _ _ (by omega) fun j hj => ?_
    show z (8 + j) = _
    rw [h (8 + j) (by omega)]
    match j, hj with
    | 0, _ => simp; try omega
    | 1, _ => simp; try omega
    | 2, _ => simp; try omega
    | 3, _ => simp; try omega
    | 4, _ => simp; try omega
    | 5, _ => simp; try omega
    | 6, _ => simp; try omega
    | 7, _ => simp; try omega
  unfold big
  rw [e1, e2]
  unfold wr
  omega
/-- The string of so many bytes. -/
def str (l : List Int) : ByteArray := ⟨(l.map fun x => UInt8.ofNat x.toNat).toArray⟩
theorem conv_run {W : World} {ad : Addr} {n c : Nat} {l : List Int} (hn : l.length = n) (hl : ∀ y, y ∈ l → 0 ≤ y ∧ y < 256) (h : ∀ j u, (l.map (Value.int .u8))[j]? = some u → W.cell? (ad.add j) = some u) :
    Sem.run Tryd.prog (convert 29 9 (.slice (some ad) n c)) W = .ok (.string (str l)) W := by
  subst hn
  have := run_convert_bytes_back (P := Tryd.prog) W 29 9 5 ad c (l.map fun x => UInt8.ofNat x.toNat) Tryd.underlying29 Tryd.underlying5 Tryd.underlying9 (fun j hj => by
    have hj' : j < l.length := by simpa using hj
    have hr := hl _ (List.getElem_mem hj')
    have e : (((l.map fun x => UInt8.ofNat x.toNat)[j]'hj).toNat : Int) = l[j] := by
      rw [List.getElem_map, UInt8.toNat_ofNat']
      omega
    rw [e]
    exact h j _ (by simp [hj']))
  rw [List.length_map] at this
  exact this
theorem Bytes.conv {W0 : World} {ad : Addr} {n c : Nat} {l : List Int} (h : Bytes W0 (.slice (some ad) n c) l) (hn : l.length = n) (hl : ∀ y, y ∈ l → 0 ≤ y ∧ y < 256) (W : World) (hb : Below W0.heap.size W0 W) :
    Sem.run Tryd.prog (convert 29 9 (.slice (some ad) n c)) W = .ok (.string (str l)) W := by
  have := h.up hb
  rcases this with ⟨h1, _⟩ | ⟨ad', c', h1, h2⟩
  · cases h1
  · cases h1
    exact conv_run rfl hl h2
theorem be_byte (k : Nat) (x : Int) : ∀ y, y ∈ be k x → 0 ≤ y ∧ y < 256 := fun y hy => be_rng k x y hy
theorem wput_at (a : Int) (ha : InW a) (W : World) :
    Calls Tryd.prog 32 #[wd a] W fun e w' => ∃ g cap, e = .returned (.slice (some ⟨g, 0, none⟩) 16 cap) ∧ Bytes w' (.slice (some ⟨g, 0, none⟩) 16 cap) (be 16 a) ∧ Below W.heap.size W w' := by
  refine (wput_any a ha W).mono ?_
  rintro e w' ⟨v, rfl, ho, hb⟩
  have hbt := ho.bytes
  rcases ho.2 with ⟨_, h2⟩ | ⟨g, cap, cur, rfl, _⟩
  · rw [be_len] at h2; cases h2
  · rw [be_len] at hbt ⊢
    exact ⟨g, cap, rfl, hbt, hb⟩
theorem get_back (a : Int) (ha : InW a) (b : Nat) (W : World) (h : Bytes W (.slice (some ⟨b, 0, none⟩) 16 16) (be 16 a)) :
    Calls Tryd.prog 10 #[.slice (some ⟨b, 0, none⟩) 16 16] W fun e w' => e = .returned (.tuple #[wd a, .int .i64 0]) ∧ Below W.heap.size W w' := by
  rcases h with ⟨h1, _⟩ | ⟨ad, c, h1, h2⟩
  · cases h1
  · simp only [Value.slice.injEq, Option.some.injEq] at h1
    obtain ⟨rfl, _, rfl⟩ := h1
    have hz : ∀ j, j < 16 → (be 16 a)[j]? = some ((be 16 a).getD j 0) := by
      intro j hj
      rw [List.getD_eq_getElem?_getD, List.getElem?_eq_getElem (by rw [be_len]; exact hj)]
      rfl
    have hcell : ∀ j, j < 16 → W.cell? ⟨b, 0 + j, none⟩ = some (.int .u8 ((be 16 a).getD j 0)) := by
      intro j hj
      have := h2 j (.int .u8 ((be 16 a).getD j 0)) (by rw [List.getElem?_map, hz j hj]; rfl)
      rw [addr0] at this
      rw [Nat.zero_add]
      exact this
    have := get_any b 0 16 (fun j => (be 16 a).getD j 0) (fun i hi => be_rng 16 a _ (by
      have := hz i hi
      exact List.mem_of_getElem? this)) (by omega) (by omega) W (cell_size (hcell 0 (by omega))) hcell
    rw [big_be a ha _ hz] at this
    exact this
set_option maxHeartbeats 1000000 in
theorem get_off (p : Option Addr) (n c : Nat) (hn : n ≠ 16) (h0 : n ≤ 9223372036854775807) (w : World) :
    Calls Tryd.prog 10 #[.slice p n c] w fun e w' => e = .returned (.tuple #[.agg #[.int .i64 0, .int .u64 0], .int .i64 3]) ∧ Below w.heap.size w w' := by
  have h1 : ((n : Int) == 16) = false := by
    simp; omega
  go_enter Tryd.func10, Tryd.ntmps10
  go_wp2
  exact bodyPost_ret (v := .tuple #[.agg #[.int .i64 0, .int .u64 0], .int .i64 3]) (by simp [results, Tryd.results10, go_sem]) rfl ⟨rfl, by go_grown⟩
theorem up4 {W W1 : World} {b c : Nat} {x0 x1 x2 x3 : Value} (hb : Below W.heap.size W W1) (h : W.cell? ⟨b, 0, none⟩ = some x0 ∧ W.cell? ⟨b, 1, none⟩ = some x1 ∧ W.cell? ⟨c, 0, none⟩ = some x2 ∧ W.cell? ⟨c, 1, none⟩ = some x3) :
    W1.cell? ⟨b, 0, none⟩ = some x0 ∧ W1.cell? ⟨b, 1, none⟩ = some x1 ∧ W1.cell? ⟨c, 0, none⟩ = some x2 ∧ W1.cell? ⟨c, 1, none⟩ = some x3 :=
  ⟨keep hb h.1, keep hb h.2.1, keep hb h.2.2.1, keep hb h.2.2.2⟩
theorem below_upb {w W W1 : World} (h : Below w.heap.size w W) (hb : Below W.heap.size W W1) : Below w.heap.size w W1 := h.trans (hb.mono h.size)
/-- A slice of sixteen bytes, these. -/
def At16 (l : List Int) (v : Value) (W : World) : Prop := ∃ b c, v = .slice (some ⟨b, 0, none⟩) 16 c ∧ Bytes W v l
theorem At16.up {l : List Int} {v : Value} {W W' : World} (h : At16 l v W) (hb : Below W.heap.size W W') : At16 l v W' := by
  obtain ⟨b, c, h1, h2⟩ := h
  exact ⟨b, c, h1, h2.up hb⟩
set_option maxHeartbeats 8000000 in
set_option maxRecDepth 20000 in
theorem back_mid (a : Int) (ha : InW a) (p : Option Addr) (n c : Nat) (hn : n ≤ 100) (yh yl f : Int) (w : World) (hT : Hid (Tz w))
    (cG : ∀ W, Below w.heap.size w W → Calls Tryd.prog 10 #[.slice p n c] W fun e w' => e = .returned (.tuple #[.agg #[.int .i64 yh, .int .u64 yl], .int .i64 f]) ∧ Below W.heap.size W w')
    (hend : (n ≠ 16 ∧ yh = 0 ∧ yl = 0 ∧ f = 3) ∨ (n = 16 ∧ f = 0 ∧ Hid (n = 16))) (t : ByteArray) (l : List Int)
    (hcv : Hid (n = 16) → ∀ W, Below w.heap.size w W → Sem.run Tryd.prog (convert 29 9 (.slice p 16 c)) W = .ok (.string t) W)
    (HD : Hid (n = 16) → Hid (∀ {W0 : World} {g cap : Nat}, Bytes W0 (.slice (some ⟨g, 0, none⟩) 16 cap) l → ∀ W, Below W0.heap.size W0 W → Sem.run Tryd.prog (convert 29 9 (.slice (some ⟨g, 0, none⟩) 16 cap)) W = .ok (.string t) W))
    (cY : Hid (n = 16) → ∀ W, Calls Tryd.prog 31 #[.agg #[.int .i64 yh, .int .u64 yl]] W fun e w' => ∃ b, e = .returned (.slice (some ⟨b, 0, none⟩) 16 16) ∧ W.heap.size ≤ b ∧ Bytes w' (.slice (some ⟨b, 0, none⟩) 16 16) l ∧ Below W.heap.size W w') :
    Calls Tryd.prog 7 #[wd a, .slice p n c] w fun e w' => e = .returned (.bool true) ∧ Below w.heap.size w w' := by
  have s0 : ∀ W : World, Below w.heap.size w W → Calls Tryd.prog 9 #[] W fun e w' => e = .returned (.bool true) ∧ Below W.heap.size W w' := fun W h => awake_any W (hT.out.up h)
  have cP := put_any a ha
  have cW := wput_at a ha
  have cB := fun b W h => get_back a ha b W h
  obtain ⟨ah, al, ea, a1, a2, a3, a4, Ha⟩ := words ha
  rw [ea] at cP cW cB ⊢
  obtain ⟨s, es⟩ : ∃ s, str (be 16 a) = s := ⟨_, rfl⟩
  have hn' : (n : Int) ≤ 100 := by omega
  have conv16 : ∀ {W0 : World} {g cap : Nat}, Bytes W0 (.slice (some ⟨g, 0, none⟩) 16 cap) (be 16 a) → ∀ W, Below W0.heap.size W0 W → Sem.run Tryd.prog (convert 29 9 (.slice (some ⟨g, 0, none⟩) 16 cap)) W = .ok (.string s) W := by
    intro W0 g cap h W hb
    rw [← es]
    exact h.conv (be_len 16 a) (be_byte 16 a) W hb
  have HC : Hid (∀ {W0 : World} {g cap : Nat}, Bytes W0 (.slice (some ⟨g, 0, none⟩) 16 cap) (be 16 a) → ∀ W, Below W0.heap.size W0 W → Sem.run Tryd.prog (convert 29 9 (.slice (some ⟨g, 0, none⟩) 16 cap)) W = .ok (.string s) W) := conv16
  have HE : Hid ((n ≠ 16 ∧ yh = 0 ∧ yl = 0 ∧ f = 3) ∨ (n = 16 ∧ f = 0 ∧ Hid (n = 16))) := hend
  have HX : Hid (Hid (n = 16) → (∀ W, Below w.heap.size w W → Sem.run Tryd.prog (convert 29 9 (.slice p 16 c)) W = .ok (.string t) W) ∧ Hid (∀ {W0 : World} {g cap : Nat}, Bytes W0 (.slice (some ⟨g, 0, none⟩) 16 cap) l → ∀ W, Below W0.heap.size W0 W → Sem.run Tryd.prog (convert 29 9 (.slice (some ⟨g, 0, none⟩) 16 cap)) W = .ok (.string t) W) ∧ (∀ W, Calls Tryd.prog 31 #[.agg #[.int .i64 yh, .int .u64 yl]] W fun e w' => ∃ b, e = .returned (.slice (some ⟨b, 0, none⟩) 16 16) ∧ W.heap.size ≤ b ∧ Bytes w' (.slice (some ⟨b, 0, none⟩) 16 16) l ∧ Below W.heap.size W w')) := fun h => ⟨hcv h, HD h, cY h⟩
  clear conv16 es ea hend hcv HD cY
  go_enter Tryd.func7, Tryd.ntmps7
  go_wp2_with fail
  refine (s0 _ (by go_grown)).mono ?_
  rintro e' w1 ⟨rfl, hb1⟩
  have B1 : Below w.heap.size w w1 := Below.trans (by go_grown) (hb1.mono (by simp))
  have X1 : w1.cell? ⟨w.heap.size, 0, none⟩ = some (.int .i64 ah) ∧ w1.cell? ⟨w.heap.size, 1, none⟩ = some (.int .u64 al) := ⟨keep hb1 (by simp [go_sem]), keep hb1 (by simp [go_sem])⟩
  clear hb1 s0
  go_wp2_with fail
  refine (cP _).mono ?_
  rintro e' w2 ⟨b2, rfl, _, R2, hb2⟩
  have B2 := below_upb B1 hb2
  have X2 := up_two hb2 X1
  clear hb2 X1
  go_wp2_with fail
  refine (cB _ _ R2).mono ?_
  rintro e' w3 ⟨rfl, hb3⟩
  have B3 := below_upb B2 hb3
  have X3 := up_two hb3 X2
  have z3 := cell_lt X3.1
  clear hb3 X2 R2 cB
  go_wp2_with fail
  refine (cG _ (by go_grown)).mono ?_
  rintro e' w4 ⟨rfl, hb4⟩
  have B4 : Below w.heap.size w w4 := Below.trans (by go_grown) (hb4.mono (by have := B3.size; simp; omega))
  have X4 : w4.cell? ⟨w.heap.size, 0, none⟩ = some (.int .i64 ah) ∧ w4.cell? ⟨w.heap.size, 1, none⟩ = some (.int .u64 al) := ⟨keep hb4 (by simp [go_sem, X3, z3]), keep hb4 (by simp [go_sem, X3, z3])⟩
  have Y4 : w4.cell? ⟨w3.heap.size, 0, none⟩ = some (.int .i64 ah) ∧ w4.cell? ⟨w3.heap.size, 1, none⟩ = some (.int .u64 al) := ⟨keep hb4 (by simp [go_sem]), keep hb4 (by simp [go_sem])⟩
  have z4 := cell_lt X4.1
  have z4' := cell_lt Y4.1
  clear hb4 X3 cG
  go_wp2_with fail
  refine name_world (fun W5 hW5 => ?_)
  have B5 : Below w.heap.size w W5 := by rw [hW5]; go_grown
  have X5 : W5.cell? ⟨w.heap.size, 0, none⟩ = some (.int .i64 ah) ∧ W5.cell? ⟨w.heap.size, 1, none⟩ = some (.int .u64 al) ∧ W5.cell? ⟨w3.heap.size, 0, none⟩ = some (.int .i64 ah) ∧ W5.cell? ⟨w3.heap.size, 1, none⟩ = some (.int .u64 al) := by
    rw [hW5]; simp [go_sem, X4, Y4, z4, z4']
  have Y5 : W5.cell? ⟨w4.heap.size, 0, none⟩ = some (.int .i64 yh) ∧ W5.cell? ⟨w4.heap.size, 1, none⟩ = some (.int .u64 yl) := by
    rw [hW5]; simp [go_sem]
  clear hW5 X4 Y4 z3 z4 z4'
  have X5a := X5.1
  have X5b := X5.2.1
  have X5c := X5.2.2.1
  have X5d := X5.2.2.2
  haveI : Nonempty World := ⟨w⟩
  have z5 := cell_lt X5.1
  have z5' := cell_lt X5.2.2.1
  refine rel [⟨9, 34, At16 (be 16 a)⟩, ⟨12, 37, At16 (be 16 a)⟩] 16 61 (by kernel_rfl) rfl rfl (by kernel_rfl) (by rfl) ?_ ?_
  · intro e he v W W' h hb
    simp only [List.mem_cons, List.not_mem_nil, or_false] at he
    rcases he with rfl | rfl
    · exact At16.up h hb
    · exact At16.up h hb
  apply Exists.intro
  refine ⟨fun x => ?_, ?_, ?_⟩
  · simp only [List.take_succ_cons, List.take_zero]
    refine relQuiet rfl rfl ?_
    apply Exists.intro
    refine ⟨fun F hF hf K hK => ?_, ?_⟩
    · have hFc := hF.cell
      have hFf := hF.frozen
      go_big_quiet_op
      first | exact hK | (apply Exists.intro; refine ⟨fun _ => ?_, ?_⟩; (· fail); exact hK)
    (try simp only [Act.put, List.setIfInBounds_toArray, List.set_cons_zero, List.set_cons_succ])
    refine relQuiet rfl rfl ?_
    apply Exists.intro
    refine ⟨fun F hF hf K hK => ?_, ?_⟩
    · have hFc := hF.cell
      have hFf := hF.frozen
      go_big_quiet_op
      first | exact hK | (apply Exists.intro; refine ⟨fun _ => ?_, ?_⟩; (· fail); exact hK)
    (try simp only [Act.put, List.setIfInBounds_toArray, List.set_cons_zero, List.set_cons_succ])
    refine relQuiet rfl rfl ?_
    apply Exists.intro
    refine ⟨fun F hF hf K hK => ?_, ?_⟩
    · have hFc := hF.cell
      have hFf := hF.frozen
      go_big_quiet_op
      first | exact hK | (apply Exists.intro; refine ⟨fun _ => ?_, ?_⟩; (· fail); exact hK)
    (try simp only [Act.put, List.setIfInBounds_toArray, List.set_cons_zero, List.set_cons_succ])
    refine relQuiet rfl rfl ?_
    apply Exists.intro
    refine ⟨fun F hF hf K hK => ?_, ?_⟩
    · have hFc := hF.cell
      have hFf := hF.frozen
      go_big_quiet_op
      first | exact hK | (apply Exists.intro; refine ⟨fun _ => ?_, ?_⟩; (· fail); exact hK)
    (try simp only [Act.put, List.setIfInBounds_toArray, List.set_cons_zero, List.set_cons_succ])
    refine relQuiet rfl rfl ?_
    apply Exists.intro
    refine ⟨fun F hF hf K hK => ?_, ?_⟩
    · have hFc := hF.cell
      have hFf := hF.frozen
      go_big_quiet_op
      first | exact hK | (apply Exists.intro; refine ⟨fun _ => ?_, ?_⟩; (· fail); exact hK)
    (try simp only [Act.put, List.setIfInBounds_toArray, List.set_cons_zero, List.set_cons_succ])
    refine relQuiet rfl rfl ?_
    apply Exists.intro
    refine ⟨fun F hF hf K hK => ?_, ?_⟩
    · have hFc := hF.cell
      have hFf := hF.frozen
      go_big_quiet_op
      first | exact hK | (apply Exists.intro; refine ⟨fun _ => ?_, ?_⟩; (· fail); exact hK)
    (try simp only [Act.put, List.setIfInBounds_toArray, List.set_cons_zero, List.set_cons_succ])
    refine relQuiet rfl rfl ?_
    apply Exists.intro
    refine ⟨fun F hF hf K hK => ?_, ?_⟩
    · have hFc := hF.cell
      have hFf := hF.frozen
      go_big_quiet_op
      first | exact hK | (apply Exists.intro; refine ⟨fun _ => ?_, ?_⟩; (· fail); exact hK)
    (try simp only [Act.put, List.setIfInBounds_toArray, List.set_cons_zero, List.set_cons_succ])
    refine relQuiet rfl rfl ?_
    apply Exists.intro
    refine ⟨fun F hF hf K hK => ?_, ?_⟩
    · have hFc := hF.cell
      have hFf := hF.frozen
      go_big_quiet_op
      first | exact hK | (apply Exists.intro; refine ⟨fun _ => ?_, ?_⟩; (· fail); exact hK)
    (try simp only [Act.put, List.setIfInBounds_toArray, List.set_cons_zero, List.set_cons_succ])
    refine relQuiet rfl rfl ?_
    apply Exists.intro
    refine ⟨fun F hF hf K hK => ?_, ?_⟩
    · have hFc := hF.cell
      have hFf := hF.frozen
      go_big_quiet_op
      first | exact hK | (apply Exists.intro; refine ⟨fun _ => ?_, ?_⟩; (· fail); exact hK)
    (try simp only [Act.put, List.setIfInBounds_toArray, List.set_cons_zero, List.set_cons_succ])
    refine relTold rfl rfl ?_ ?_
    · intro F hF hf d
      have hFc := hF.cell
      have hFf := hF.frozen
      simp [yieldsR, yieldsUpon, go_sem]
      refine (cP _).mono ?_
      rintro e' w6 ⟨b6, rfl, _, R6, hb6⟩
      exact ⟨_, rfl, ⟨b6, 16, rfl, R6⟩, hb6⟩
    (try simp only [Act.put, List.setIfInBounds_toArray, List.set_cons_zero, List.set_cons_succ])
    refine relQuiet rfl rfl ?_
    apply Exists.intro
    refine ⟨fun F hF hf K hK => ?_, ?_⟩
    · have hFc := hF.cell
      have hFf := hF.frozen
      have h9 := hf _ List.mem_cons_self (by rfl)
      obtain ⟨b9, c9, e9, _⟩ := h9 w
      have cv : ∀ d, Sem.run Tryd.prog (convert 29 9 (.slice (some ⟨b9, 0, none⟩) 16 c9)) (F d) = .ok (.string s) (F d) := by
        intro d
        obtain ⟨b, c, e1, h1⟩ := h9 d
        rw [e9] at h1
        exact HC.out h1 _ (Below.refl _ _)
      simp only at e9
      go_big_quiet_op
      first | exact hK | (apply Exists.intro; refine ⟨fun _ => ?_, ?_⟩; (· fail); exact hK)
    (try simp only [Act.put, List.setIfInBounds_toArray, List.set_cons_zero, List.set_cons_succ])
    refine relQuiet rfl rfl ?_
    apply Exists.intro
    refine ⟨fun F hF hf K hK => ?_, ?_⟩
    · have hFc := hF.cell
      have hFf := hF.frozen
      go_big_quiet_op
      first | exact hK | (apply Exists.intro; refine ⟨fun _ => ?_, ?_⟩; (· fail); exact hK)
    (try simp only [Act.put, List.setIfInBounds_toArray, List.set_cons_zero, List.set_cons_succ])
    refine relTold rfl rfl ?_ ?_
    · intro F hF hf d
      have hFc := hF.cell
      have hFf := hF.frozen
      simp [yieldsR, yieldsUpon, go_sem]
      refine (cW _).mono ?_
      rintro e' w7 ⟨g7, c7, rfl, R7, hb7⟩
      exact ⟨_, rfl, ⟨g7, c7, rfl, R7⟩, hb7⟩
    (try simp only [Act.put, List.setIfInBounds_toArray, List.set_cons_zero, List.set_cons_succ])
    refine relQuiet rfl rfl ?_
    apply Exists.intro
    refine ⟨fun F hF hf K hK => ?_, ?_⟩
    · have hFc := hF.cell
      have hFf := hF.frozen
      have h9 := hf _ (List.mem_cons_of_mem _ List.mem_cons_self) (by rfl)
      obtain ⟨b9, c9, e9, _⟩ := h9 w
      have cv : ∀ d, Sem.run Tryd.prog (convert 29 9 (.slice (some ⟨b9, 0, none⟩) 16 c9)) (F d) = .ok (.string s) (F d) := by
        intro d
        obtain ⟨b, c, e1, h1⟩ := h9 d
        rw [e9] at h1
        exact HC.out h1 _ (Below.refl _ _)
      simp only at e9
      go_big_quiet_op
      first | exact hK | (apply Exists.intro; refine ⟨fun _ => ?_, ?_⟩; (· fail); exact hK)
    (try simp only [Act.put, List.setIfInBounds_toArray, List.set_cons_zero, List.set_cons_succ])
    refine relQuiet rfl rfl ?_
    apply Exists.intro
    refine ⟨fun F hF hf K hK => ?_, ?_⟩
    · have hFc := hF.cell
      have hFf := hF.frozen
      go_big_quiet_op
      first | exact hK | (apply Exists.intro; refine ⟨fun _ => ?_, ?_⟩; (· fail); exact hK)
    (try simp only [Act.put, List.setIfInBounds_toArray, List.set_cons_zero, List.set_cons_succ])
    refine relQuiet rfl rfl ?_
    apply Exists.intro
    refine ⟨fun F hF hf K hK => ?_, ?_⟩
    · have hFc := hF.cell
      have hFf := hF.frozen
      go_big_quiet_op
      first | exact hK | (apply Exists.intro; refine ⟨fun _ => ?_, ?_⟩; (· fail); exact hK)
    (try simp only [Act.put, List.setIfInBounds_toArray, List.set_cons_zero, List.set_cons_succ])
    refine relEnd ?_
    exact rfl
  · exact fun x => rfl
  · intro W9 x hW9 _
    have B7 := below_upb B5 hW9
    have Y7 := up_two hW9 Y5
    have z7 := cell_lt Y7.1
    simp only [List.drop_succ_cons, List.drop_zero]
    clear cP cW X5 X5a X5b X5c X5d Y5 B5 HC z5 z5'
    rcases HE.out with ⟨h1, rfl, rfl, rfl⟩ | ⟨rfl, rfl, h16⟩
    · have h1' : ((n : Int) == 16) = false := by
        simp; omega
      clear HE HX
      go_wp2
      go_ret
      exact ⟨rfl, B7⟩
    · obtain ⟨hcv', HD', cY'⟩ := HX.out h16
      have HV : Hid (∀ W, Below w.heap.size w W → Sem.run Tryd.prog (convert 29 9 (.slice p 16 c)) W = .ok (.string t) W) := hcv'
      clear HE HX h16 hcv'
      go_wp2_with fail
      refine rel [⟨4, 55, At16 l⟩] 11 61 (by kernel_rfl) rfl rfl (by kernel_rfl) (by rfl) ?_ ?_
      · intro e he v W W' h hb
        simp only [List.mem_cons, List.not_mem_nil, or_false] at he
        subst he
        exact At16.up h hb
      apply Exists.intro
      refine ⟨fun x => ?_, ?_, ?_⟩
      · simp only [List.take_succ_cons, List.take_zero]
        refine relQuiet rfl rfl ?_
        apply Exists.intro
        refine ⟨fun F hF hf K hK => ?_, ?_⟩
        · have hFc := hF.cell
          have hFf := hF.frozen
          go_big_quiet_op
          first | exact hK | (apply Exists.intro; refine ⟨fun _ => ?_, ?_⟩; (· fail); exact hK)
        (try simp only [Act.put, List.setIfInBounds_toArray, List.set_cons_zero, List.set_cons_succ])
        refine relQuiet rfl rfl ?_
        apply Exists.intro
        refine ⟨fun F hF hf K hK => ?_, ?_⟩
        · have hFc := hF.cell
          have hFf := hF.frozen
          go_big_quiet_op
          first | exact hK | (apply Exists.intro; refine ⟨fun _ => ?_, ?_⟩; (· fail); exact hK)
        (try simp only [Act.put, List.setIfInBounds_toArray, List.set_cons_zero, List.set_cons_succ])
        refine relQuiet rfl rfl ?_
        apply Exists.intro
        refine ⟨fun F hF hf K hK => ?_, ?_⟩
        · have hFc := hF.cell
          have hFf := hF.frozen
          go_big_quiet_op
          first | exact hK | (apply Exists.intro; refine ⟨fun _ => ?_, ?_⟩; (· fail); exact hK)
        (try simp only [Act.put, List.setIfInBounds_toArray, List.set_cons_zero, List.set_cons_succ])
        refine relQuiet rfl rfl ?_
        apply Exists.intro
        refine ⟨fun F hF hf K hK => ?_, ?_⟩
        · have hFc := hF.cell
          have hFf := hF.frozen
          go_big_quiet_op
          first | exact hK | (apply Exists.intro; refine ⟨fun _ => ?_, ?_⟩; (· fail); exact hK)
        (try simp only [Act.put, List.setIfInBounds_toArray, List.set_cons_zero, List.set_cons_succ])
        refine relTold rfl rfl ?_ ?_
        · intro F hF hf d
          have hFc := hF.cell
          have hFf := hF.frozen
          simp [yieldsR, yieldsUpon, go_sem]
          refine (cY' _).mono ?_
          rintro e' w8 ⟨b8, rfl, _, R8, hb8⟩
          exact ⟨_, rfl, ⟨b8, 16, rfl, R8⟩, hb8⟩
        (try simp only [Act.put, List.setIfInBounds_toArray, List.set_cons_zero, List.set_cons_succ])
        refine relQuiet rfl rfl ?_
        apply Exists.intro
        refine ⟨fun F hF hf K hK => ?_, ?_⟩
        · have hFc := hF.cell
          have hFf := hF.frozen
          have h9 := hf _ List.mem_cons_self (by rfl)
          obtain ⟨b9, c9, e9, _⟩ := h9 w
          have cv : ∀ d, Sem.run Tryd.prog (convert 29 9 (.slice (some ⟨b9, 0, none⟩) 16 c9)) (F d) = .ok (.string t) (F d) := by
            intro d
            obtain ⟨b, c, e1, h1⟩ := h9 d
            rw [e9] at h1
            exact HD'.out h1 _ (Below.refl _ _)
          simp only at e9
          go_big_quiet_op
          first | exact hK | (apply Exists.intro; refine ⟨fun _ => ?_, ?_⟩; (· fail); exact hK)
        (try simp only [Act.put, List.setIfInBounds_toArray, List.set_cons_zero, List.set_cons_succ])
        refine relQuiet rfl rfl ?_
        apply Exists.intro
        refine ⟨fun F hF hf K hK => ?_, ?_⟩
        · have hFc := hF.cell
          have hFf := hF.frozen
          go_big_quiet_op
          first | exact hK | (apply Exists.intro; refine ⟨fun _ => ?_, ?_⟩; (· fail); exact hK)
        (try simp only [Act.put, List.setIfInBounds_toArray, List.set_cons_zero, List.set_cons_succ])
        refine relQuiet rfl rfl ?_
        apply Exists.intro
        refine ⟨fun F hF hf K hK => ?_, ?_⟩
        · have hFc := hF.cell
          have hFf := hF.frozen
          have cv : ∀ d, Sem.run Tryd.prog (convert 29 9 (.slice p 16 c)) (F d) = .ok (.string t) (F d) := fun d => HV.out _ (below_upb B7 (hF.below d))
          go_big_quiet_op
          first | exact hK | (apply Exists.intro; refine ⟨fun _ => ?_, ?_⟩; (· fail); exact hK)
        (try simp only [Act.put, List.setIfInBounds_toArray, List.set_cons_zero, List.set_cons_succ])
        refine relQuiet rfl rfl ?_
        apply Exists.intro
        refine ⟨fun F hF hf K hK => ?_, ?_⟩
        · have hFc := hF.cell
          have hFf := hF.frozen
          go_big_quiet_op
          first | exact hK | (apply Exists.intro; refine ⟨fun _ => ?_, ?_⟩; (· fail); exact hK)
        (try simp only [Act.put, List.setIfInBounds_toArray, List.set_cons_zero, List.set_cons_succ])
        refine relQuiet rfl rfl ?_
        apply Exists.intro
        refine ⟨fun F hF hf K hK => ?_, ?_⟩
        · have hFc := hF.cell
          have hFf := hF.frozen
          go_big_quiet_op
          first | exact hK | (apply Exists.intro; refine ⟨fun _ => ?_, ?_⟩; (· fail); exact hK)
        (try simp only [Act.put, List.setIfInBounds_toArray, List.set_cons_zero, List.set_cons_succ])
        refine relQuiet rfl rfl ?_
        apply Exists.intro
        refine ⟨fun F hF hf K hK => ?_, ?_⟩
        · have hFc := hF.cell
          have hFf := hF.frozen
          go_big_quiet_op
          first | exact hK | (apply Exists.intro; refine ⟨fun _ => ?_, ?_⟩; (· fail); exact hK)
        (try simp only [Act.put, List.setIfInBounds_toArray, List.set_cons_zero, List.set_cons_succ])
        refine relEnd ?_
        exact rfl
      · exact fun x => rfl
      · intro W8 x hW8 _
        have B8 := below_upb B7 hW8
        simp only [List.drop_succ_cons, List.drop_zero]
        go_wp2
        go_ret
        exact ⟨rfl, B8⟩
set_option maxHeartbeats 1000000 in
theorem back_out (a : Int) (ha : InW a) (p : Option Addr) (n c : Nat) (hn : n ≤ 9223372036854775807) (h : 100 < (n : Int)) (w : World) (hT : Hid (Tz w)) :
    Calls Tryd.prog 7 #[wd a, .slice p n c] w fun e w' => e = .returned (.bool true) ∧ Below w.heap.size w w' := by
  have s0 : ∀ W : World, Below w.heap.size w W → Calls Tryd.prog 9 #[] W fun e w' => e = .returned (.bool true) ∧ Below W.heap.size W w' := fun W h => awake_any W (hT.out.up h)
  obtain ⟨ah, al, ea, a1, a2, a3, a4, Ha⟩ := words ha
  rw [ea]
  clear ea
  go_enter Tryd.func7, Tryd.ntmps7
  go_wp2_with fail
  refine (s0 _ (by go_grown)).mono ?_
  rintro e' w1 ⟨rfl, hb1⟩
  have B1 : Below w.heap.size w w1 := Below.trans (by go_grown) (hb1.mono (by simp))
  go_wp2
  go_ret
  exact ⟨rfl, B1⟩
theorem add_addr (b o j : Nat) : (⟨b, o, none⟩ : Addr).add j = ⟨b, o + j, none⟩ := by
  unfold Addr.add
  split
  · rename_i h; rw [h, Nat.add_zero]
  · rfl
theorem back_law (w : World) (hT : Hid (Tz w)) (a : Int) (z : Nat → Int) (n c : Nat) (p : Option Addr) (ha : InW a) (hr : Row .u8 w p n c z) :
    Calls Tryd.prog 7 #[wd a, .slice p n c] w fun e w' => e = .returned (.bool true) ∧ Below w.heap.size w w' := by
  obtain ⟨h1, h2, h3, h4⟩ := hr
  by_cases c1 : 100 < (n : Int)
  · exact back_out a ha p n c (by omega) c1 w hT
  · by_cases c2 : n = 16
    · subst c2
      obtain ⟨b, o, rfl, hb, hcell⟩ := h4 (by omega)
      have hz : ∀ i, i < 16 → 0 ≤ z i ∧ z i < 256 := fun i hi => by have := bounds_u8 (h3 i hi); omega
      obtain ⟨yh, yl, ey, _⟩ := words (wr_rng (val z 8 * 18446744073709551616 + val (fun i => z (8 + i)) 8))
      have hcy := put_any (big z) (wr_rng _)
      rw [show wd (big z) = .agg #[.int .i64 yh, .int .u64 yl] from ey, be_big z hz] at hcy
      refine back_mid a ha _ 16 c (by omega) yh yl 0 w hT (fun W hW => ?_) (.inr ⟨rfl, rfl, rfl⟩) (str ((List.range 16).map z)) ((List.range 16).map z) (fun _ W hW => ?_) (fun _ W0 g cap h W hb => ?_) (fun _ => hcy)
      · have := get_any b o c z hz h1 h2 W (Nat.lt_of_lt_of_le hb hW.size) (show ∀ j, j < 16 → _ from fun j hj => by rw [(bcell hW).1 _ _ hb]; exact hcell j hj)
        rw [show wd (big z) = .agg #[.int .i64 yh, .int .u64 yl] from ey] at this
        exact this
      · refine conv_run (by simp) (fun y hy => ?_) (fun j u hu => ?_)
        · obtain ⟨i, hi, rfl⟩ := List.mem_map.1 hy
          exact hz i (List.mem_range.1 hi)
        · rw [List.getElem?_map, List.getElem?_map] at hu
          rcases Nat.lt_or_ge j 16 with d | d
          · rw [List.getElem?_range d] at hu
            simp only [Option.map_some, Option.some.injEq] at hu
            rw [add_addr, (bcell hW).1 _ _ hb, hcell j d, hu]
          · rw [List.getElem?_eq_none (by simpa using d)] at hu
            cases hu
      · exact h.conv (by simp) (fun y hy => by
          obtain ⟨i, hi, rfl⟩ := List.mem_map.1 hy
          exact hz i (List.mem_range.1 hi)) W hb
    · exact back_mid a ha p n c (by omega) 0 0 3 w hT (fun W _ => get_off p n c c2 (by omega) W) (.inl ⟨c2, rfl, rfl, rfl⟩) (str []) [] (fun h => absurd h.out c2) (fun h => absurd h.out c2) (fun h => absurd h.out c2)
end Go.Proofs.YtdbndpcbejofkaaDoor.Wd
