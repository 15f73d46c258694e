/- The program's messages: the lists as they are read. -/
import Derived.Test.YthmpfdkbpdbhnaaMsT
import Derived.Test.YthmpfdkbpdbhnaaMqA
import Derived.Test.YthmpfdkbpdbhnaaWpk
namespace Go.Proofs.Ythmpfdkbpdbhnaa.Wd
open Go.RowKit
set_option linter.unusedVariables false
set_option linter.unusedSimpArgs false
set_option maxRecDepth 8000
set_option maxHeartbeats 4000000
/-- Whether a Reader is spoilt behind so many numbers, so many Wides. -/
def msN : Nat → List Int → Bool → Bool
  | 0, _, b => b
  | n + 1, y, b => msN n (left y 8) (mars y b 8)
def msW : Nat → List Int → Bool → Bool
  | 0, _, b => b
  | n + 1, y, b => msW n (left y 16) (mars y b 16)
theorem msN_succ : ∀ (i : Nat) (x : List Int) (b : Bool), msN (i + 1) x b = mars (rsN i x) (msN i x b) 8
  | 0, x, b => rfl
  | i + 1, x, b => by
    have e : msN (i + 1 + 1) x b = msN (i + 1) (left x 8) (mars x b 8) := rfl
    rw [e, msN_succ i, rsN]
    rfl
theorem msW_succ : ∀ (i : Nat) (x : List Int) (b : Bool), msW (i + 1) x b = mars (rsW i x) (msW i x b) 16
  | 0, x, b => rfl
  | i + 1, x, b => by
    have e : msW (i + 1 + 1) x b = msW (i + 1) (left x 16) (mars x b 16) := rfl
    rw [e, msW_succ i, rsW]
    rfl
theorem mars_ok {l : List Int} {b : Bool} {n : Nat} (h : mars l b n = false) : b = false ∧ n ≤ l.length := by
  unfold mars at h
  split at h
  · rename_i ok
    simp only [okT, decide_eq_true_eq] at ok
    exact ⟨h, by omega⟩
  · cases h
theorem msN_ok : ∀ (n : Nat) (x : List Int) (b : Bool), msN n x b = false → b = false ∧ 8 * n ≤ x.length
  | 0, x, b, h => ⟨h, by omega⟩
  | n + 1, x, b, h => by
    obtain ⟨h1, h2⟩ := msN_ok n _ _ h
    obtain ⟨h3, h4⟩ := mars_ok (n := 8) h1
    have := (got_in (l := x) 8 h4).2
    rw [show ((8 : Nat) : Int) = 8 from rfl] at this
    rw [this, List.length_drop] at h2
    exact ⟨h3, by omega⟩
theorem msW_ok : ∀ (n : Nat) (x : List Int) (b : Bool), msW n x b = false → b = false ∧ 16 * n ≤ x.length
  | 0, x, b, h => ⟨h, by omega⟩
  | n + 1, x, b, h => by
    obtain ⟨h1, h2⟩ := msW_ok n _ _ h
    obtain ⟨h3, h4⟩ := mars_ok (n := 16) h1
    have := (got_in (l := x) 16 h4).2
    rw [show ((16 : Nat) : Int) = 16 from rfl] at this
    rw [this, List.length_drop] at h2
    exact ⟨h3, by omega⟩
theorem mars_in {l : List Int} {b : Bool} {n : Nat} (h : n ≤ l.length) : mars l b n = b := by
  unfold mars
  rw [if_pos (by simp only [okT, decide_eq_true_eq]; omega)]
theorem msN_in : ∀ (n : Nat) (x : List Int) (b : Bool), 8 * n ≤ x.length → msN n x b = b
  | 0, x, b, h => rfl
  | n + 1, x, b, h => by
    have e := (got_in (l := x) 8 (by omega)).2
    rw [show ((8 : Nat) : Int) = 8 from rfl] at e
    rw [msN, e, msN_in n _ _ (by rw [List.length_drop]; omega)]
    exact mars_in (n := 8) (by omega)
theorem msW_in : ∀ (n : Nat) (x : List Int) (b : Bool), 16 * n ≤ x.length → msW n x b = b
  | 0, x, b, h => rfl
  | n + 1, x, b, h => by
    have e := (got_in (l := x) 16 (by omega)).2
    rw [show ((16 : Nat) : Int) = 16 from rfl] at e
    rw [msW, e, msW_in n _ _ (by rw [List.length_drop]; omega)]
    exact mars_in (n := 16) (by omega)
/-- Whether it is spoilt behind the one list, behind both. -/
def hMN (x : List Int) : Bool := msN (hN x) (left x 2) (mars x false 2)
def hM (x : List Int) : Bool := msW (hW x) (left (hR x) 2) (mars (hR x) (hMN x) 2)
/-- A Body is read to its end and its Reader is not spoilt, and there are not too many: just where it is one. -/
theorem hM_iff (x : List Int) : (hM x = false ∧ (hE x).length = 0 ∧ hN x ≤ 500 ∧ hW x ≤ 500) ↔ getB x := by
  constructor
  · rintro ⟨h1, h2, h3, h4⟩
    obtain ⟨a1, a2⟩ := msW_ok _ _ _ h1
    obtain ⟨b1, b2⟩ := mars_ok (n := 2) a1
    obtain ⟨c1, c2⟩ := msN_ok _ _ _ b1
    obtain ⟨_, d2⟩ := mars_ok (n := 2) c1
    obtain ⟨e1, e2⟩ := got_in (l := x) 2 d2
    rw [show ((2 : Nat) : Int) = 2 from rfl] at e1 e2
    have en : hN x = nN x := by unfold hN nN; rw [e1]
    rw [en] at h3 c2
    rw [e2] at c2
    rw [List.length_drop] at c2
    have er : hR x = x.drop (2 + 8 * nN x) := by
      unfold hR
      rw [en, e2, (gdN_is (nN x) (x.drop 2) (by rw [List.length_drop]; omega)).2, List.drop_drop]
    rw [er] at b2 a2
    obtain ⟨f1, f2⟩ := got_in (l := x.drop (2 + 8 * nN x)) 2 b2
    rw [show ((2 : Nat) : Int) = 2 from rfl] at f1 f2
    have ew : hW x = nW x := by unfold hW nW; rw [er, f1]
    rw [ew] at h4 a2
    rw [f2, List.length_drop, List.length_drop] at a2
    rw [List.length_drop] at b2
    have hz : (hE x) = ((x.drop (2 + 8 * nN x)).drop 2).drop (16 * nW x) := by
      unfold hE
      rw [ew, er, f2, (gdW_is (nW x) _ (by rw [List.length_drop, List.length_drop]; omega)).2]
    rw [hz, List.length_drop, List.length_drop, List.length_drop] at h2
    exact ⟨by omega, h3, by omega, h4, by omega⟩
  · intro h
    obtain ⟨i1, _, i3, _, i5⟩ := h_is h
    obtain ⟨g1, g2, g3, g4, g5⟩ := h
    obtain ⟨e1, e2⟩ := got_in (l := x) 2 (by omega)
    rw [show ((2 : Nat) : Int) = 2 from rfl] at e1 e2
    have er : hR x = x.drop (2 + 8 * nN x) := by
      unfold hR
      rw [i1, e2, (gdN_is (nN x) (x.drop 2) (by rw [List.length_drop]; omega)).2, List.drop_drop]
    obtain ⟨f1, f2⟩ := got_in (l := x.drop (2 + 8 * nN x)) 2 (by rw [List.length_drop]; omega)
    rw [show ((2 : Nat) : Int) = 2 from rfl] at f1 f2
    have em : hMN x = false := by
      unfold hMN
      rw [i1, e2, msN_in _ _ _ (by rw [List.length_drop]; omega)]
      exact mars_in (n := 2) (by omega)
    refine ⟨?_, by rw [i5]; rfl, by rw [i1]; exact g2, by rw [i3]; exact g4⟩
    unfold hM
    rw [i3, er, em, f2, msW_in _ _ _ (by rw [List.length_drop, List.length_drop]; omega)]
    exact mars_in (n := 2) (by rw [List.length_drop]; omega)
theorem But.stay {g : Nat} {W W' : World} (h : But g W W') : Stay g W W' := ⟨h.size, fun k h1 hk => h.block k hk h1⟩
theorem But.low {g B : Nat} {a b c : World} (h : But g a b) (k : Below B b c) (hB : a.heap.size ≤ B) : But g a c :=
  ⟨k.os.trans h.os, k.tape.trans h.tape, k.output.trans h.output, Nat.le_trans h.size k.size, fun i hi hg => (k.block i (by omega)).trans (h.block i hi hg)⟩
theorem hN_rng {x : List Int} (h : By8 x) : num (got x 2) = (hN x : Int) ∧ hN x < 65536 := by
  have := num_lt 2 (got_rng h 2) (got_len x 2)
  have e : (256 : Int) ^ 2 = 65536 := by decide
  rw [e] at this
  unfold hN
  constructor <;> omega
theorem pwholes_any (g : Nat) (l : List Int) (sp : Bool) (w : World) (h0 : Rd w g l sp) :
    Calls Try.prog 21 #[.pointer (some ⟨g, 0, none⟩)] w fun e w' => ∃ v', e = .returned v' ∧ OwnK .i64 2 w' w.heap.size v' (gdN (hN l) (left l 2)) ∧ Rd w' g (rsN (hN l) (left l 2)) (msN (hN l) (left l 2) (mars l sp 2)) ∧ But g w w' := by
  have hg := h0.lt
  obtain ⟨hnum, hlt⟩ := hN_rng h0.rng
  have c := ru16_any g l sp w h0
  obtain ⟨cnt, ec⟩ : ∃ c, hN l = c := ⟨_, rfl⟩
  obtain ⟨X, eX⟩ : ∃ c, left l 2 = c := ⟨_, rfl⟩
  obtain ⟨s1, es⟩ : ∃ c, mars l sp 2 = c := ⟨_, rfl⟩
  rw [hnum, eX, es, ec] at c
  rw [eX, es, ec]
  rw [ec] at hlt
  clear hnum ec eX es h0
  go_enter Try.func21, Try.ntmps21
  go_wp2_with fail
  refine c.mono ?_
  rintro e w1 ⟨rfl, hR1, hb1⟩
  have H1 : Hid (OwnK .i64 2 w1 w.heap.size (.slice none 0 0) (gdN 0 X) ∧ Rd w1 g (rsN 0 X) (msN 0 X s1) ∧ But g w w1) := ⟨OwnK.nil _ _ _ _, hR1, hb1⟩
  clear hR1 hb1 c
  go_wp2_with fail
  go_loopg [3, 6] cnt (fun gg u vv wr => ∃ i : Nat, i ≤ cnt ∧ gg = cnt - i ∧ vv = .int .i64 (i : Int) ∧ Hid (OwnK .i64 2 wr w.heap.size u (gdN i X) ∧ Rd wr g (rsN i X) (msN i X s1) ∧ But g w wr))
  case atStart => exact ⟨0, by omega, by omega, rfl, H1⟩
  case round =>
    obtain ⟨i, hi, hgg, rfl, HI⟩ := hrel
    clear H1
    by_cases h : i < cnt
    · have h' : (i : Int) < (cnt : Int) := by omega
      have c := ru64_any g _ _ wr HI.out.2.1
      obtain ⟨y, ey⟩ : ∃ y, num (got (rsN i X) 8) = y := ⟨_, rfl⟩
      obtain ⟨z, ez⟩ : ∃ z, i64w y = z := ⟨_, rfl⟩
      have hz : IntKind.i64.wrap y = z := by rw [IntKind.wrap_i64]; exact ez
      have HY : Hid (gdN i X ++ [z] = gdN (i + 1) X ∧ (gdN i X).length + [z].length ≤ 1073741824) := by
        refine hid2 ?_ ?_
        · rw [gdN_succ, ey, ez]
        · rw [gdN_len]; simp; omega
      rw [ey, ← rsN_succ, ← msN_succ] at c
      clear ey ez
      go_wp2_with fail
      refine c.mono ?_
      rintro e w2 ⟨rfl, hR2, hb2⟩
      have HA := up_alloc w2 (.cells #[.int .i64 z] 2)
      have hO2 : OwnK .i64 2 w2 w.heap.size u3 (gdN i X) := OwnK.stay HI.out.1 hb2.stay (HI.out.1.off hg)
      have hB2 : But g w w2 := HI.out.2.2.trans hb2
      have H3 : Hid (OwnK .i64 2 (w2.alloc (.cells #[.int .i64 z] 2)) w.heap.size u3 (gdN i X) ∧ Nums .i64 (w2.alloc (.cells #[.int .i64 z] 2)) (.slice (some ⟨w2.heap.size, 0, none⟩) 1 1) [z] ∧ w.heap.size ≤ (w2.alloc (.cells #[.int .i64 z] 2)).heap.size ∧ Rd (w2.alloc (.cells #[.int .i64 z] 2)) g (rsN (i + 1) X) (msN (i + 1) X s1) ∧ But g w (w2.alloc (.cells #[.int .i64 z] 2))) :=
        hid2 (hO2.up HA) (hid2 (LitN.nums (B := 0) ⟨w2.heap.size, rfl, by show (w2.heap.push _)[w2.heap.size]? = _; simp, Nat.zero_le _⟩) ⟨Nat.le_trans hB2.size HA.size, hR2.up HA, hB2.trans (But.of HA)⟩)
      clear hR2 hb2 HA hO2 hB2 c HI
      go_wp2_with (at_builtin; refine wpList_appendK numI64 (by decide) rfl (.tmp 8) (.tmp 12) rfl w.heap.size _ _ rfl H3.out.1 _ [z] rfl H3.out.2.1 HY.out.2 H3.out.2.2.1 _ (Below.refl _ _) ?_; intro v5 W5 HO5 B5; have HB5 := hid2 B5 B5; clear B5)
      have HI5 : Hid (OwnK .i64 2 W5 w.heap.size v5 (gdN (i + 1) X) ∧ Rd W5 g (rsN (i + 1) X) (msN (i + 1) X s1) ∧ But g w W5) := hid2 (by rw [← HY.out.1]; exact HO5.out) ⟨H3.out.2.2.2.1.low HB5.out.1 hg, H3.out.2.2.2.2.low HB5.out.1 (Nat.le_refl _)⟩
      clear HO5 HB5 H3
      go_roundg (cnt - (i + 1))
      case measure => omega
      case rel => exact ⟨i + 1, by omega, rfl, by first | rfl | simp, HI5⟩
    · have hin : cnt = i := by omega
      subst hin
      go_wp2
      exact bodyPost_ret (v := u3) (by simp [results, Try.results21, go_sem]) rfl ⟨_, rfl, HI.out⟩
theorem wpList_appW9 {ops : Array Oper} {rest : List Oper} {o : Oper} {a : Act} {Q : Exit → Act → World → Prop} {w : World} (hgd : o.guard = none) (s x : Operand)
    (ho : o.op = .call { callee := .builtin .append, args := #[s, x], argTypes := #[25, 25] }) (B : Nat) (u : Value) (l0 : List Int) (hs : a.eval s = u) (hown : OwnW w B u l0)
    (gx : Nat) (X hi lo : Int) (c : Nat) (hx : a.eval x = .slice (some ⟨gx, 0, none⟩) 1 c) (hX : InW X) (h1 : X / 18446744073709551616 = hi) (h2 : X % 18446744073709551616 = lo) (hb : w.heap[gx]? = some (.cells #[.int .i64 hi, .int .u64 lo] 47 (0, 0))) (hlen : l0.length ≤ 100000) (hB : B ≤ w.heap.size) (w0 : World) (hB0 : Below B w0 w)
    (h : ∀ u' w', Hid (OwnW w' B u' (l0 ++ [X])) → Below B w0 w' → wpList Try.prog ops Q rest (a.put o.dst u') w') : wpList Try.prog ops Q (o :: rest) a w := by
  obtain ⟨i0, hi0, ⟨z, hz0, hz1⟩, hz2, hz3⟩ := wideT
  subst h1 h2
  have hc : ∀ j u, (wv [X])[j]? = some u → w.cell? ((⟨gx, 0, none⟩ : Addr).add j) = some u := fun j u hj => by
    rw [addr_plus, Nat.zero_add]
    unfold World.cell?
    simp only [hb]
    simpa [wv] using hj
  refine wpList_append_lies _ hgd s x 25 ho B 47 i0 z 2 16 Try.underlying25 hi0 hz0 hz2 hz3 hz1 (by decide) u l0.length _ hs hown.2 ⟨gx, 0, none⟩ 1 c (wv [X]) hx (by simp [wv]) hc (wv_one [X]) (by omega) (by unfold maxLen; omega) (by omega) hB w.heap.size rfl ?_
  intro g cap w' g1 g2 g3 g4
  refine h _ w' ⟨fun y hy => ?_, ?_⟩ (Below.grown hB0 g2 hB fun k hk => (World.ownsRow.lt hown.2 k hk).1)
  · rcases List.mem_append.1 hy with hy | hy
    · exact hown.1 y hy
    · simp only [List.mem_singleton] at hy
      rw [hy]; exact hX
  · rw [wv_app, List.length_append]
    exact g1
theorem pwget_any (W : World) (B : Nat) (v : Value) (l : List Int) (h : By8 l) (h16 : l.length = 16 ∨ l.length = 0) (hO : Own8 W B v l) :
    Calls Try.prog 43 #[v] W fun e w' => ∃ E, e = .returned (.tuple #[.agg #[.int .i64 (wOf l / 18446744073709551616), .int .u64 (wOf l % 18446744073709551616)], .int .i64 E]) ∧ Below W.heap.size W w' := by
  have hf : ∃ p c, v = .slice p l.length c ∧ l.length ≤ c ∧ c ≤ 9223372036854775807 := by
    rcases hO.2 with ⟨h1, h2⟩ | ⟨q, cap, cur, rfl, hB, hh, hcap, hm, hs, hx⟩
    · have h2' : l = [] := by simpa using h2
      exact ⟨none, 0, by rw [h1, h2']; rfl, by rw [h2']; exact Nat.le_refl _, by omega⟩
    · exact ⟨_, cap, rfl, hcap, by unfold maxLen at hm; omega⟩
  obtain ⟨p, c, rfl, hc1, hc2⟩ := hf
  rcases h16 with e | e
  · rw [e] at hc1 hO ⊢
    have hr := w_rng l h (by omega)
    unfold In64 at hr
    have ew : wOf l = hiW l * 18446744073709551616 + loW l := if_pos e
    refine (wget16_any p c l h e hc1 hc2 W hO.bytes).mono ?_
    rintro e w' ⟨rfl, hb⟩
    exact ⟨0, by rw [ew, show (hiW l * 18446744073709551616 + loW l) / 18446744073709551616 = hiW l by omega, show (hiW l * 18446744073709551616 + loW l) % 18446744073709551616 = loW l by omega], hb⟩
  · rw [e]
    have ew : wOf l = 0 := if_neg (by omega)
    refine (wgetno_any p 0 c (by omega) (by omega) W).mono ?_
    rintro e w' ⟨rfl, hb⟩
    exact ⟨3, by rw [ew]; rfl, hb⟩
theorem got16 (l : List Int) : (got l 16).length = 16 ∨ (got l 16).length = 0 := by
  unfold got
  split
  · rename_i ok
    simp only [okT, decide_eq_true_eq] at ok
    left
    rw [List.length_take]
    have : (16 : Int).toNat = 16 := rfl
    omega
  · right; rfl
theorem pwides_any (g : Nat) (l : List Int) (hln : l.length ≤ 1073741824) (sp : Bool) (w : World) (h0 : Rd w g l sp) :
    Calls Try.prog 22 #[.pointer (some ⟨g, 0, none⟩)] w fun e w' => ∃ v', e = .returned v' ∧ OwnW w' w.heap.size v' (gdW (hN l) (left l 2)) ∧ Rd w' g (rsW (hN l) (left l 2)) (msW (hN l) (left l 2) (mars l sp 2)) ∧ But g w w' := by
  have hg := h0.lt
  obtain ⟨hnum, hlt⟩ := hN_rng h0.rng
  have hx := Nat.le_trans (left_le l 2) hln
  have c := ru16_any g l sp w h0
  obtain ⟨cnt, ec⟩ : ∃ c, hN l = c := ⟨_, rfl⟩
  obtain ⟨X, eX⟩ : ∃ c, left l 2 = c := ⟨_, rfl⟩
  obtain ⟨s1, es⟩ : ∃ c, mars l sp 2 = c := ⟨_, rfl⟩
  rw [hnum, eX, es, ec] at c
  rw [eX, es, ec]
  rw [ec] at hlt
  rw [eX] at hx
  clear hnum ec eX es h0 hln
  have HX : Hid (X.length ≤ 1073741824 ∧ cnt < 65536) := ⟨hx, hlt⟩
  clear hx
  go_enter Try.func22, Try.ntmps22
  go_wp2_with fail
  refine c.mono ?_
  rintro e w1 ⟨rfl, hR1, hb1⟩
  have H1 : Hid (OwnW w1 w.heap.size (.slice none 0 0) (gdW 0 X) ∧ Rd w1 g (rsW 0 X) (msW 0 X s1) ∧ But g w w1) := ⟨OwnW.nil _ _, hR1, hb1⟩
  clear hR1 hb1 c
  go_wp2_with fail
  go_loopg [3, 8] cnt (fun gg u vv wr => ∃ i : Nat, i ≤ cnt ∧ gg = cnt - i ∧ vv = .int .i64 (i : Int) ∧ Hid (OwnW wr w.heap.size u (gdW i X) ∧ Rd wr g (rsW i X) (msW i X s1) ∧ But g w wr))
  case atStart => exact ⟨0, by omega, by omega, rfl, H1⟩
  case round =>
    obtain ⟨i, hi, hgg, rfl, HI⟩ := hrel
    clear H1
    by_cases h : i < cnt
    · have h' : (i : Int) < (cnt : Int) := by omega
      have c := rbytes_any g _ (Nat.le_trans (rsW_le i X) HX.out.1) _ 16 (by omega) wr HI.out.2.1
      rw [← rsW_succ, ← msW_succ] at c
      have h8 := got_by HI.out.2.1.rng 16
      have h16 := got16 (rsW i X)
      have es := gdW_succ i X
      have hin := wOf_in h8
      have hgl := gdW_len i X
      obtain ⟨L, eL⟩ : ∃ L, got (rsW i X) 16 = L := ⟨_, rfl⟩
      rw [eL] at c h8 h16 es hin
      obtain ⟨x, ex⟩ : ∃ x, wOf L = x := ⟨_, rfl⟩
      obtain ⟨y1, e1⟩ : ∃ y, x / 18446744073709551616 = y := ⟨_, rfl⟩
      obtain ⟨y2, e2⟩ : ∃ y, x % 18446744073709551616 = y := ⟨_, rfl⟩
      have HY : Hid (gdW i X ++ [x] = gdW (i + 1) X ∧ InW x ∧ x / 18446744073709551616 = y1 ∧ x % 18446744073709551616 = y2 ∧ (gdW i X).length ≤ 100000) := by
        refine hid2 ?_ ⟨?_, e1, e2, ?_⟩
        · rw [es, ex]
        · rw [← ex]; exact hin
        · rw [hgl]; have := HX.out.2; omega
      have HG : Hid (∀ W B v, Own8 W B v L → Calls Try.prog 43 #[v] W fun e w' => ∃ E, e = .returned (.tuple #[.agg #[.int .i64 y1, .int .u64 y2], .int .i64 E]) ∧ Below W.heap.size W w') := fun W B v ho => by
        have := pwget_any W B v L h8 h16 ho
        rw [ex, e1, e2] at this
        exact this
      clear h8 h16 es hin eL ex e1 e2 hgl
      go_wp2_with fail
      refine c.mono ?_
      rintro e w2 ⟨b2, rfl, ho2, hR2, hb2⟩
      have hO2 : OwnW w2 w.heap.size u3 (gdW i X) := OwnW.stay HI.out.1 hb2.stay hg
      have H2 : Hid (OwnW w2 w.heap.size u3 (gdW i X) ∧ Rd w2 g (rsW (i + 1) X) (msW (i + 1) X s1) ∧ But g w w2 ∧ Own8 w2 wr.heap.size b2 L) := hid2 hO2 ⟨hR2, HI.out.2.2.trans hb2, ho2⟩
      clear hR2 hb2 hO2 ho2 c HI
      go_wp2_with fail
      refine (HG.out w2 _ _ H2.out.2.2.2).mono ?_
      rintro e w3 ⟨E, rfl, hb3⟩
      have HA := up_alloc w3 (.cells #[.int .i64 y1, .int .u64 y2] 47)
      have HA2 := up_alloc (w3.alloc (.cells #[.int .i64 y1, .int .u64 y2] 47)) (.cells #[.int .i64 y1, .int .u64 y2] 47)
      obtain ⟨W4, e4⟩ : ∃ W, (w3.alloc (.cells #[.int .i64 y1, .int .u64 y2] 47)).alloc (.cells #[.int .i64 y1, .int .u64 y2] 47) = W := ⟨_, rfl⟩
      have hx4 : W4.heap[w3.heap.size + 1]? = some (.cells #[.int .i64 y1, .int .u64 y2] 47 (0, 0)) := by
        rw [← e4, ← World.size_alloc w3 (.cells #[.int .i64 y1, .int .u64 y2] 47)]
        exact Array.getElem?_push_size ..
      rw [e4] at HA2
      have hb4 : Below w2.heap.size w2 W4 := (hb3.trans (HA.mono hb3.size)).trans (HA2.mono (Nat.le_trans hb3.size HA.size))
      have H4 : Hid (OwnW W4 w.heap.size u3 (gdW i X) ∧ W4.heap[w3.heap.size + 1]? = some (.cells #[.int .i64 y1, .int .u64 y2] 47 (0, 0)) ∧ w.heap.size ≤ W4.heap.size ∧ Rd W4 g (rsW (i + 1) X) (msW (i + 1) X s1) ∧ But g w W4) :=
        hid2 (H2.out.1.up hb4) ⟨hx4, Nat.le_trans H2.out.2.2.1.size hb4.size, H2.out.2.1.up hb4, H2.out.2.2.1.trans (But.of hb4)⟩
      have E4 : Hid ((w3.alloc (.cells #[.int .i64 y1, .int .u64 y2] 47)).alloc (.cells #[.int .i64 y1, .int .u64 y2] 47) = W4) := e4
      clear HA HA2 e4 hx4 hb4 H2 hb3 HG
      go_wp2_with (at_builtin; rw [E4.out]; refine wpList_appW9 rfl (.tmp 16) (.tmp 18) rfl w.heap.size _ _ rfl H4.out.1 (w3.heap.size + 1) x y1 y2 1 rfl HY.out.2.1 HY.out.2.2.1 HY.out.2.2.2.1 H4.out.2.1 HY.out.2.2.2.2 H4.out.2.2.1 W4 (Below.refl _ _) ?_; intro v5 W5 HO5 B5; have HB5 := hid2 B5 B5; clear B5)
      have HI5 : Hid (OwnW W5 w.heap.size v5 (gdW (i + 1) X) ∧ Rd W5 g (rsW (i + 1) X) (msW (i + 1) X s1) ∧ But g w W5) := hid2 (by rw [← HY.out.1]; exact HO5.out) ⟨H4.out.2.2.2.1.low HB5.out.1 hg, H4.out.2.2.2.2.low HB5.out.1 (Nat.le_refl _)⟩
      clear HO5 HB5 H4 E4
      go_roundg (cnt - (i + 1))
      case measure => omega
      case rel => exact ⟨i + 1, by omega, rfl, by first | rfl | simp, HI5⟩
    · have hin : cnt = i := by omega
      subst hin
      go_wp2
      exact bodyPost_ret (v := u3) (by simp [results, Try.results22, go_sem]) rfl ⟨_, rfl, HI.out⟩
end Go.Proofs.Ythmpfdkbpdbhnaa.Wd
