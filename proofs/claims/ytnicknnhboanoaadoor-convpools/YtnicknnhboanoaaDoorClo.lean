/- What conv's function values do: all that meet is added where it goes. -/
import Derived.Test.YtnicknnhboanoaaDoorGat
import Derived.Test.YtnicknnhboanoaaDoorCnX
namespace Go.Proofs.YtnicknnhboanoaaDoor.Wd
open Go.RowKit Fx
set_option linter.unusedVariables false
set_option linter.unusedSimpArgs false
/-- What such a function value reads: the sums' slice in gb, two tensors' numbers by way of ga and gk; the sums lie in b. -/
def Mt (W : World) (b gb ga gk N : Nat) (pa : Option Addr) (na ca : Nat) (pk : Option Addr) (nk ck : Nat) (x y : List Int) : Prop :=
  W.cell? ⟨gb, 0, none⟩ = some (.slice (some ⟨b, 0, none⟩) N N) ∧ W.cell? ⟨ga, 1, none⟩ = some (.slice pa na ca) ∧ W.cell? ⟨gk, 1, none⟩ = some (.slice pk nk ck) ∧ Nums .i64 W (.slice pa na ca) x ∧ Nums .i64 W (.slice pk nk ck) y ∧ (gb ≠ b ∧ ga ≠ b ∧ gk ≠ b) ∧ Off b (.slice pa na ca) ∧ Off b (.slice pk nk ck)
theorem Mt.up {W W' : World} {b gb ga gk N : Nat} {pa : Option Addr} {na ca : Nat} {pk : Option Addr} {nk ck : Nat} {x y : List Int} (h : Mt W b gb ga gk N pa na ca pk nk ck x y) (hB : Below W.heap.size W W') : Mt W' b gb ga gk N pa na ca pk nk ck x y :=
  ⟨cell_low h.1 hB, cell_low h.2.1 hB, cell_low h.2.2.1 hB, h.2.2.2.1.up hB, h.2.2.2.2.1.up hB, h.2.2.2.2.2⟩
theorem Mt.stay {W W' : World} {b gb ga gk N : Nat} {pa : Option Addr} {na ca : Nat} {pk : Option Addr} {nk ck : Nat} {x y : List Int} (h : Mt W b gb ga gk N pa na ca pk nk ck x y) (hS : Stay b W W') : Mt W' b gb ga gk N pa na ca pk nk ck x y :=
  ⟨hS.cell h.1 h.2.2.2.2.2.1.1, hS.cell h.2.1 h.2.2.2.2.2.1.2.1, hS.cell h.2.2.1 h.2.2.2.2.2.1.2.2, h.2.2.2.1.stay hS h.2.2.2.2.2.2.1, h.2.2.2.2.1.stay hS h.2.2.2.2.2.2.2, h.2.2.2.2.2⟩
/-- Sums that have met q. -/
def Sms (W : World) (b N q : Nat) (f : Nat → Int) : Prop := ∀ i, i < N → SumAt W b (i * 4) q (f i)
theorem Sms.up {W W' : World} {b N q : Nat} {f : Nat → Int} (h : Sms W b N q f) (hB : Below W.heap.size W W') : Sms W' b N q f := fun i hi => (h i hi).up hB
theorem Sms.add {W W' : World} {b N q j : Nat} {f f' : Nat → Int} {Z : Int} (h : Sms W b N q f) (hn : Near b (j * 4) W W') (hs : SumAt W' b (j * 4) (q + 1) (f j + Z)) (hf : ∀ i, i < N → f' i = if j = i then f i + Z else f i) : Sms W' b N (q + 1) f' := fun i hi => by
  rw [hf i hi]
  by_cases e : j = i
  · subst e
    rw [if_pos rfl]
    exact hs
  · rw [if_neg e]
    exact ((h i hi).near hn (by omega)).more (by omega)
set_option maxRecDepth 8000 in
set_option maxHeartbeats 4000000 in
theorem rmeet_any (b gb ga gk N m P0 P1 P2 : Nat) (T : Int) (pa : Option Addr) (na ca : Nat) (pk : Option Addr) (nk ck : Nat) (x y : List Int) (hx : RI x) (hy : RI y) (hm : m ≤ 1073741824) (hN : N ≤ 4096) (hs : P2 < N) (ha : P0 < x.length) (hk : P1 < y.length) (hxl : x.length ≤ 4096) (hyl : y.length ≤ 4096) (w : World) (hM : Mt w b gb ga gk N pa na ca pk nk ck x y) (hS : Hid (SumAt w b (P2 * 4) m T)) :
    Calls Tryd.prog 29 #[.int .i64 (P0 : Int), .int .i64 (P1 : Int), .int .i64 (P2 : Int), .pointer (some ⟨gb, 0, none⟩), .pointer (some ⟨ga, 0, none⟩), .pointer (some ⟨gk, 0, none⟩)] w fun e w' => e = .returned (.tuple #[]) ∧ SumAt w' b (P2 * 4) (m + 1) (T + x.getD P0 0 * y.getD P1 0) ∧ Near b (P2 * 4) w w' := by
  obtain ⟨c0, c1, c2, hnx, hny, _, _, _⟩ := hM
  obtain ⟨_, _, _, e4, HX⟩ := hnx.lst
  cases e4
  obtain ⟨_, _, _, e4, HY⟩ := hny.lst
  cases e4
  have lx := HX.out.1
  have ly := HY.out.1
  obtain ⟨q1, o1, rfl, d1⟩ := HX.out.2 P0 (by omega)
  obtain ⟨q2, o2, rfl, d2⟩ := HY.out.2 P1 (by omega)
  have rX := getD_inR hx P0
  have rY := getD_inR hy P1
  obtain ⟨X, eX⟩ : ∃ X, x.getD P0 0 = X := ⟨_, rfl⟩
  obtain ⟨Y, eY⟩ : ∃ Y, y.getD P1 0 = Y := ⟨_, rfl⟩
  rw [eX] at rX d1 ⊢
  rw [eY] at rY d2 ⊢
  have cA : Hid (∀ W, Below w.heap.size w W → Calls Tryd.prog 30 #[.pointer (some ⟨b, P2 * 4, none⟩), .int .i64 X, .int .i64 Y] W fun e w' => e = .returned (.tuple #[]) ∧ SumAt w' b (P2 * 4) (m + 1) (T + X * Y) ∧ Near b (P2 * 4) W w') := fun W hW => sadd_any b (P2 * 4) m T X Y hm rX rY W (hS.out.up hW)
  have hs' : (P2 : Int) < (N : Int) ∧ (N : Int) ≤ 4096 := by omega
  have ha' : (P0 : Int) < (na : Int) ∧ (na : Int) ≤ 4096 := by omega
  have hk' : (P1 : Int) < (nk : Int) ∧ (nk : Int) ≤ 4096 := by omega
  have l0 := cell_lt c0
  have l1 := cell_lt c1
  have l2 := cell_lt c2
  have l3 := cell_lt d1
  have l4 := cell_lt d2
  have l5 : Hid (b < w.heap.size) := hS.out.lt
  clear hnx hny HX HY lx ly rX rY eX eY hx hy hs ha hk hxl hyl hm hN hS
  haveI : Nonempty World := ⟨w⟩
  go_enter Tryd.func29, Tryd.ntmps29
  go_wp2_with fail
  refine flow 13 23 (by kernel_rfl) rfl rfl (by kernel_rfl) ?_
  apply Exists.intro
  refine ⟨?_, ?_⟩
  · intro F hF
    have hFc := hF.cell
    have hFf := hF.frozen
    simp only [List.take_succ_cons, List.take_zero, List.eraseIdx_cons_succ, List.eraseIdx_cons_zero]
    repeat (go_big_quiet_step (fail))
    refine wpQuiet_nil ?_
    exact rfl
  · intro W1 hW1
    simp only [List.drop_succ_cons, List.drop_zero]
    clear c0 c1 c2 d1 d2 l0 l1 l2 l3 l4
    go_wp2_with fail
    refine (cA.out W1 hW1).mono ?_
    rintro e w2 ⟨rfl, hS2, hN2⟩
    have HE : Hid (SumAt w2 b (P2 * 4) (m + 1) (T + X * Y) ∧ Near b (P2 * 4) w w2) := ⟨hS2, (Near.of hW1 l5.out).trans hN2⟩
    clear hS2 hN2 hW1 cA
    go_wp2
    go_end0
    exact ⟨rfl, HE.out⟩
set_option maxRecDepth 8000 in
set_option maxHeartbeats 4000000 in
theorem imeet_any (b gb ga gk N m P0 P1 P2 : Nat) (T : Int) (pa : Option Addr) (na ca : Nat) (pk : Option Addr) (nk ck : Nat) (x y : List Int) (hx : RI x) (hy : RI y) (hm : m ≤ 1073741824) (hN : N ≤ 4096) (hs : P0 < N) (ha : P2 < x.length) (hk : P1 < y.length) (hxl : x.length ≤ 4096) (hyl : y.length ≤ 4096) (w : World) (hM : Mt w b gb ga gk N pa na ca pk nk ck x y) (hS : Hid (SumAt w b (P0 * 4) m T)) :
    Calls Tryd.prog 33 #[.int .i64 (P0 : Int), .int .i64 (P1 : Int), .int .i64 (P2 : Int), .pointer (some ⟨gb, 0, none⟩), .pointer (some ⟨ga, 0, none⟩), .pointer (some ⟨gk, 0, none⟩)] w fun e w' => e = .returned (.tuple #[]) ∧ SumAt w' b (P0 * 4) (m + 1) (T + x.getD P2 0 * y.getD P1 0) ∧ Near b (P0 * 4) w w' := by
  obtain ⟨c0, c1, c2, hnx, hny, _, _, _⟩ := hM
  obtain ⟨_, _, _, e4, HX⟩ := hnx.lst
  cases e4
  obtain ⟨_, _, _, e4, HY⟩ := hny.lst
  cases e4
  have lx := HX.out.1
  have ly := HY.out.1
  obtain ⟨q1, o1, rfl, d1⟩ := HX.out.2 P2 (by omega)
  obtain ⟨q2, o2, rfl, d2⟩ := HY.out.2 P1 (by omega)
  have rX := getD_inR hx P2
  have rY := getD_inR hy P1
  obtain ⟨X, eX⟩ : ∃ X, x.getD P2 0 = X := ⟨_, rfl⟩
  obtain ⟨Y, eY⟩ : ∃ Y, y.getD P1 0 = Y := ⟨_, rfl⟩
  rw [eX] at rX d1 ⊢
  rw [eY] at rY d2 ⊢
  have cA : Hid (∀ W, Below w.heap.size w W → Calls Tryd.prog 30 #[.pointer (some ⟨b, P0 * 4, none⟩), .int .i64 X, .int .i64 Y] W fun e w' => e = .returned (.tuple #[]) ∧ SumAt w' b (P0 * 4) (m + 1) (T + X * Y) ∧ Near b (P0 * 4) W w') := fun W hW => sadd_any b (P0 * 4) m T X Y hm rX rY W (hS.out.up hW)
  have hs' : (P0 : Int) < (N : Int) ∧ (N : Int) ≤ 4096 := by omega
  have ha' : (P2 : Int) < (na : Int) ∧ (na : Int) ≤ 4096 := by omega
  have hk' : (P1 : Int) < (nk : Int) ∧ (nk : Int) ≤ 4096 := by omega
  have l0 := cell_lt c0
  have l1 := cell_lt c1
  have l2 := cell_lt c2
  have l3 := cell_lt d1
  have l4 := cell_lt d2
  have l5 : Hid (b < w.heap.size) := hS.out.lt
  clear hnx hny HX HY lx ly rX rY eX eY hx hy hs ha hk hxl hyl hm hN hS
  haveI : Nonempty World := ⟨w⟩
  go_enter Tryd.func33, Tryd.ntmps33
  go_wp2_with fail
  refine flow 13 23 (by kernel_rfl) rfl rfl (by kernel_rfl) ?_
  apply Exists.intro
  refine ⟨?_, ?_⟩
  · intro F hF
    have hFc := hF.cell
    have hFf := hF.frozen
    simp only [List.take_succ_cons, List.take_zero, List.eraseIdx_cons_succ, List.eraseIdx_cons_zero]
    repeat (go_big_quiet_step (fail))
    refine wpQuiet_nil ?_
    exact rfl
  · intro W1 hW1
    simp only [List.drop_succ_cons, List.drop_zero]
    clear c0 c1 c2 d1 d2 l0 l1 l2 l3 l4
    go_wp2_with fail
    refine (cA.out W1 hW1).mono ?_
    rintro e w2 ⟨rfl, hS2, hN2⟩
    have HE : Hid (SumAt w2 b (P0 * 4) (m + 1) (T + X * Y) ∧ Near b (P0 * 4) w w2) := ⟨hS2, (Near.of hW1 l5.out).trans hN2⟩
    clear hS2 hN2 hW1 cA
    go_wp2
    go_end0
    exact ⟨rfl, HE.out⟩
set_option maxRecDepth 8000 in
set_option maxHeartbeats 4000000 in
theorem kmeet_any (b gb ga gk N m P0 P1 P2 : Nat) (T : Int) (pa : Option Addr) (na ca : Nat) (pk : Option Addr) (nk ck : Nat) (x y : List Int) (hx : RI x) (hy : RI y) (hm : m ≤ 1073741824) (hN : N ≤ 4096) (hs : P1 < N) (ha : P2 < x.length) (hk : P0 < y.length) (hxl : x.length ≤ 4096) (hyl : y.length ≤ 4096) (w : World) (hM : Mt w b gb ga gk N pa na ca pk nk ck x y) (hS : Hid (SumAt w b (P1 * 4) m T)) :
    Calls Tryd.prog 35 #[.int .i64 (P0 : Int), .int .i64 (P1 : Int), .int .i64 (P2 : Int), .pointer (some ⟨gb, 0, none⟩), .pointer (some ⟨ga, 0, none⟩), .pointer (some ⟨gk, 0, none⟩)] w fun e w' => e = .returned (.tuple #[]) ∧ SumAt w' b (P1 * 4) (m + 1) (T + x.getD P2 0 * y.getD P0 0) ∧ Near b (P1 * 4) w w' := by
  obtain ⟨c0, c1, c2, hnx, hny, _, _, _⟩ := hM
  obtain ⟨_, _, _, e4, HX⟩ := hnx.lst
  cases e4
  obtain ⟨_, _, _, e4, HY⟩ := hny.lst
  cases e4
  have lx := HX.out.1
  have ly := HY.out.1
  obtain ⟨q1, o1, rfl, d1⟩ := HX.out.2 P2 (by omega)
  obtain ⟨q2, o2, rfl, d2⟩ := HY.out.2 P0 (by omega)
  have rX := getD_inR hx P2
  have rY := getD_inR hy P0
  obtain ⟨X, eX⟩ : ∃ X, x.getD P2 0 = X := ⟨_, rfl⟩
  obtain ⟨Y, eY⟩ : ∃ Y, y.getD P0 0 = Y := ⟨_, rfl⟩
  rw [eX] at rX d1 ⊢
  rw [eY] at rY d2 ⊢
  have cA : Hid (∀ W, Below w.heap.size w W → Calls Tryd.prog 30 #[.pointer (some ⟨b, P1 * 4, none⟩), .int .i64 X, .int .i64 Y] W fun e w' => e = .returned (.tuple #[]) ∧ SumAt w' b (P1 * 4) (m + 1) (T + X * Y) ∧ Near b (P1 * 4) W w') := fun W hW => sadd_any b (P1 * 4) m T X Y hm rX rY W (hS.out.up hW)
  have hs' : (P1 : Int) < (N : Int) ∧ (N : Int) ≤ 4096 := by omega
  have ha' : (P2 : Int) < (na : Int) ∧ (na : Int) ≤ 4096 := by omega
  have hk' : (P0 : Int) < (nk : Int) ∧ (nk : Int) ≤ 4096 := by omega
  have l0 := cell_lt c0
  have l1 := cell_lt c1
  have l2 := cell_lt c2
  have l3 := cell_lt d1
  have l4 := cell_lt d2
  have l5 : Hid (b < w.heap.size) := hS.out.lt
  clear hnx hny HX HY lx ly rX rY eX eY hx hy hs ha hk hxl hyl hm hN hS
  haveI : Nonempty World := ⟨w⟩
  go_enter Tryd.func35, Tryd.ntmps35
  go_wp2_with fail
  refine flow 13 23 (by kernel_rfl) rfl rfl (by kernel_rfl) ?_
  apply Exists.intro
  refine ⟨?_, ?_⟩
  · intro F hF
    have hFc := hF.cell
    have hFf := hF.frozen
    simp only [List.take_succ_cons, List.take_zero, List.eraseIdx_cons_succ, List.eraseIdx_cons_zero]
    repeat (go_big_quiet_step (fail))
    refine wpQuiet_nil ?_
    exact rfl
  · intro W1 hW1
    simp only [List.drop_succ_cons, List.drop_zero]
    clear c0 c1 c2 d1 d2 l0 l1 l2 l3 l4
    go_wp2_with fail
    refine (cA.out W1 hW1).mono ?_
    rintro e w2 ⟨rfl, hS2, hN2⟩
    have HE : Hid (SumAt w2 b (P1 * 4) (m + 1) (T + X * Y) ∧ Near b (P1 * 4) w w2) := ⟨hS2, (Near.of hW1 l5.out).trans hN2⟩
    clear hS2 hN2 hW1 cA
    go_wp2
    go_end0
    exact ⟨rfl, HE.out⟩
set_option maxRecDepth 8000 in
set_option maxHeartbeats 4000000 in
theorem rgather_any (R L O wd st S : Nat) (hS : stopsN L wd st = S) (h1 : wd ≤ L) (h2 : L ≤ 4096) (h3 : 1 ≤ st) (h4 : st ≤ 64) (h5 : O * R * wd ≤ 4096) (h6 : O * S ≤ 4096) (h7 : R * L ≤ 4096) (h8 : O ≤ 4096) (h9 : R ≤ 4096) (b gs ga gk : Nat) (pa : Option Addr) (na ca : Nat) (pk : Option Addr) (nk ck : Nat) (x y : List Int) (hx : RI x) (hy : RI y) (hxl : x.length = R * L) (hyl : y.length = O * R * wd) (w : World)
    (hs : SlC w gs R L O wd st) (ca1 : w.cell? ⟨ga, 1, none⟩ = some (.slice pa na ca)) (ck1 : w.cell? ⟨gk, 1, none⟩ = some (.slice pk nk ck)) (nx : Nums .i64 w (.slice pa na ca) x) (ny : Nums .i64 w (.slice pk nk ck) y) (hne : ga ≠ b ∧ gk ≠ b) (fx : Off b (.slice pa na ca)) (fy : Off b (.slice pk nk ck)) (hb : b < w.heap.size) (h0 : Sms w b (O * S) 0 (fun _ => 0)) :
    Calls Tryd.prog 27 #[.slice (some ⟨b, 0, none⟩) (O * S) (O * S), .pointer (some ⟨gs, 0, none⟩), .pointer (some ⟨ga, 0, none⟩), .pointer (some ⟨gk, 0, none⟩)] w fun e w' => e = .returned (.tuple #[]) ∧ Sms w' b (O * S) (O * R * S * wd) (fun i => flat4 (rowT L R S wd st x y i) R S wd (O * R * S * wd)) ∧ Stay b w w' ∧ Below b w w' := by
  have hbnd : O * R * S * wd ≤ 1073741824 := by
    have q1 : S ≤ 4097 := by rw [← hS]; unfold stopsN; have := Nat.div_le_self (L - wd) st; omega
    have q2 : O * R * S * wd = O * R * wd * S := by rw [Nat.mul_assoc, Nat.mul_comm S wd, ← Nat.mul_assoc]
    rw [q2]
    exact Nat.le_trans (Nat.mul_le_mul h5 q1) (by decide)
  have hst : ∀ n, n < S → n * st + wd ≤ L := fun n hn => by
    unfold stopsN at hS
    have : n ≤ (L - wd) / st := by omega
    have := (Nat.le_div_iff_mul_le (by omega)).1 this
    omega
  have hmf : ∀ (fn : Fn) (first cap : Array Value) (w : World), (Instr.makeFunc fn first cap).run Tryd.prog w = .ok (.func fn first cap) w := fun _ _ _ _ => rfl
  obtain ⟨z0, z1, z2, z3, z4⟩ := hs
  have zl := cell_lt z0
  have HE : Hid (∀ gb W0, W0 = w.alloc (.cells #[.slice (some ⟨b, 0, none⟩) (O * S) (O * S)] 49) → gb = w.heap.size → Calls Tryd.prog 28 #[.agg #[.int .i64 (R : Int), .int .i64 (L : Int), .int .i64 (O : Int), .int .i64 (wd : Int), .int .i64 (st : Int)], .func (.func 29) #[] #[.pointer (some ⟨gb, 0, none⟩), .pointer (some ⟨ga, 0, none⟩), .pointer (some ⟨gk, 0, none⟩)]] W0 fun e w' => e = .returned (.tuple #[]) ∧ (Sms w' b (O * S) (O * R * S * wd) (fun i => flat4 (rowT L R S wd st x y i) R S wd (O * R * S * wd)) ∧ Mt w' b gb ga gk (O * S) pa na ca pk nk ck x y) ∧ Stay b W0 w' ∧ Below b W0 w') := fun gb W0 eW egb => by
    have hB : Below w.heap.size w W0 := by rw [eW]; exact up_alloc w _
    have cgb : W0.cell? ⟨gb, 0, none⟩ = some (.slice (some ⟨b, 0, none⟩) (O * S) (O * S)) := by rw [eW, egb]; simp [go_sem]
    refine each_any _ (fun args W => by simp [go_sem]) _ _ _ b R L O wd st S hS h1 h2 h3 h4 h5 h6 h7 h8 h9 (fun q W => Sms W b (O * S) q (fun i => flat4 (rowT L R S wd st x y i) R S wd q) ∧ Mt W b gb ga gk (O * S) pa na ca pk nk ck x y) (fun q W W' h hB => ⟨h.1.up hB, h.2.up hB⟩) ?_ W0 (Nat.lt_of_lt_of_le hb hB.size) ⟨h0.up hB, cgb, cell_low ca1 hB, cell_low ck1 hB, nx.up hB, ny.up hB, ⟨by omega, hne⟩, fx, fy⟩
    intro o c n y' ho hc hn hy' W hI
    have hb0 : c * L + n * st + y' < R * L := by
      have q1 := hst n hn
      have q2 : (c + 1) * L ≤ R * L := Nat.mul_le_mul_right L hc
      rw [Nat.add_mul, Nat.one_mul] at q2
      omega
    have hb1 : (o * R + c) * wd + y' < O * R * wd := pair_lt (pair_lt ho hc) hy'
    have hb2 : o * S + n < O * S := pair_lt ho hn
    have hq : ((o * R + c) * S + n) * wd + y' ≤ 1073741824 := by
      have := pair_lt (pair_lt (pair_lt ho hc) hn) hy'
      omega
    refine (rmeet_any b gb ga gk (O * S) (((o * R + c) * S + n) * wd + y') _ _ _ _ pa na ca pk nk ck x y hx hy hq (by omega) hb2 (by rw [hxl]; exact hb0) (by rw [hyl]; exact hb1) (by omega) (by omega) W hI.2 (hI.1 _ hb2)).mono ?_
    rintro e w' ⟨e1, hs', hn'⟩
    refine ⟨e1, ⟨hI.1.add hn' hs' ?_, hI.2.stay hn'.stay⟩, hn'.stay, hn'.below⟩
    intro i hi
    show flat4 _ R S wd _ = _
    rw [flat4_step _ hc hn hy']
    unfold rowT
    by_cases e : o * S + n = i
    · rw [if_pos e, if_pos e]
    · rw [if_neg e, if_neg e, Int.add_zero]
  have hb' : Hid (b < w.heap.size) := hb
  clear h0 ca1 ck1 nx ny fx fy hx hy hxl hyl hbnd hst hS h5 h6 h7 hb hne
  haveI : Nonempty World := ⟨w⟩
  obtain ⟨NN, eNN⟩ : ∃ n, O * S = n := ⟨_, rfl⟩
  rw [eNN] at HE ⊢
  go_enter Tryd.func27, Tryd.ntmps27
  go_wp2_with fail
  refine (HE.out _ _ rfl rfl).mono ?_
  rintro e w1 ⟨rfl, ⟨hS1, _⟩, hT1, hB1⟩
  have hU := up_alloc w (.cells #[.slice (some ⟨b, 0, none⟩) NN NN] 49)
  have HF : Hid (Sms w1 b NN (O * R * S * wd) (fun i => flat4 (rowT L R S wd st x y i) R S wd (O * R * S * wd)) ∧ Stay b w w1 ∧ Below b w w1) := ⟨hS1, (Stay.of hU).trans hT1, (hU.mono (Nat.le_of_lt hb'.out)).trans hB1⟩
  clear hS1 hT1 hB1 hU
  go_wp2
  go_end0
  exact ⟨rfl, HF.out⟩
set_option maxRecDepth 8000 in
set_option maxHeartbeats 4000000 in
theorem igather_any (R L O wd st S : Nat) (hS : stopsN L wd st = S) (h1 : wd ≤ L) (h2 : L ≤ 4096) (h3 : 1 ≤ st) (h4 : st ≤ 64) (h5 : O * R * wd ≤ 4096) (h6 : O * S ≤ 4096) (h7 : R * L ≤ 4096) (h8 : O ≤ 4096) (h9 : R ≤ 4096) (b gs ga gk : Nat) (pa : Option Addr) (na ca : Nat) (pk : Option Addr) (nk ck : Nat) (x y : List Int) (hx : RI x) (hy : RI y) (hxl : x.length = O * S) (hyl : y.length = O * R * wd) (w : World)
    (hs : SlC w gs R L O wd st) (ca1 : w.cell? ⟨ga, 1, none⟩ = some (.slice pa na ca)) (ck1 : w.cell? ⟨gk, 1, none⟩ = some (.slice pk nk ck)) (nx : Nums .i64 w (.slice pa na ca) x) (ny : Nums .i64 w (.slice pk nk ck) y) (hne : ga ≠ b ∧ gk ≠ b) (fx : Off b (.slice pa na ca)) (fy : Off b (.slice pk nk ck)) (hb : b < w.heap.size) (h0 : Sms w b (R * L) 0 (fun _ => 0)) :
    Calls Tryd.prog 32 #[.slice (some ⟨b, 0, none⟩) (R * L) (R * L), .pointer (some ⟨gs, 0, none⟩), .pointer (some ⟨ga, 0, none⟩), .pointer (some ⟨gk, 0, none⟩)] w fun e w' => e = .returned (.tuple #[]) ∧ Sms w' b (R * L) (O * R * S * wd) (fun i => flat4 (inT L R S wd st x y i) R S wd (O * R * S * wd)) ∧ Stay b w w' ∧ Below b w w' := by
  have hbnd : O * R * S * wd ≤ 1073741824 := by
    have q1 : S ≤ 4097 := by rw [← hS]; unfold stopsN; have := Nat.div_le_self (L - wd) st; omega
    have q2 : O * R * S * wd = O * R * wd * S := by rw [Nat.mul_assoc, Nat.mul_comm S wd, ← Nat.mul_assoc]
    rw [q2]
    exact Nat.le_trans (Nat.mul_le_mul h5 q1) (by decide)
  have hst : ∀ n, n < S → n * st + wd ≤ L := fun n hn => by
    unfold stopsN at hS
    have : n ≤ (L - wd) / st := by omega
    have := (Nat.le_div_iff_mul_le (by omega)).1 this
    omega
  have hmf : ∀ (fn : Fn) (first cap : Array Value) (w : World), (Instr.makeFunc fn first cap).run Tryd.prog w = .ok (.func fn first cap) w := fun _ _ _ _ => rfl
  obtain ⟨z0, z1, z2, z3, z4⟩ := hs
  have zl := cell_lt z0
  have HE : Hid (∀ gb W0, W0 = w.alloc (.cells #[.slice (some ⟨b, 0, none⟩) (R * L) (R * L)] 49) → gb = w.heap.size → Calls Tryd.prog 28 #[.agg #[.int .i64 (R : Int), .int .i64 (L : Int), .int .i64 (O : Int), .int .i64 (wd : Int), .int .i64 (st : Int)], .func (.func 33) #[] #[.pointer (some ⟨gb, 0, none⟩), .pointer (some ⟨ga, 0, none⟩), .pointer (some ⟨gk, 0, none⟩)]] W0 fun e w' => e = .returned (.tuple #[]) ∧ (Sms w' b (R * L) (O * R * S * wd) (fun i => flat4 (inT L R S wd st x y i) R S wd (O * R * S * wd)) ∧ Mt w' b gb ga gk (R * L) pa na ca pk nk ck x y) ∧ Stay b W0 w' ∧ Below b W0 w') := fun gb W0 eW egb => by
    have hB : Below w.heap.size w W0 := by rw [eW]; exact up_alloc w _
    have cgb : W0.cell? ⟨gb, 0, none⟩ = some (.slice (some ⟨b, 0, none⟩) (R * L) (R * L)) := by rw [eW, egb]; simp [go_sem]
    refine each_any _ (fun args W => by simp [go_sem]) _ _ _ b R L O wd st S hS h1 h2 h3 h4 h5 h6 h7 h8 h9 (fun q W => Sms W b (R * L) q (fun i => flat4 (inT L R S wd st x y i) R S wd q) ∧ Mt W b gb ga gk (R * L) pa na ca pk nk ck x y) (fun q W W' h hB => ⟨h.1.up hB, h.2.up hB⟩) ?_ W0 (Nat.lt_of_lt_of_le hb hB.size) ⟨h0.up hB, cgb, cell_low ca1 hB, cell_low ck1 hB, nx.up hB, ny.up hB, ⟨by omega, hne⟩, fx, fy⟩
    intro o c n y' ho hc hn hy' W hI
    have hb0 : c * L + n * st + y' < R * L := by
      have q1 := hst n hn
      have q2 : (c + 1) * L ≤ R * L := Nat.mul_le_mul_right L hc
      rw [Nat.add_mul, Nat.one_mul] at q2
      omega
    have hb1 : (o * R + c) * wd + y' < O * R * wd := pair_lt (pair_lt ho hc) hy'
    have hb2 : o * S + n < O * S := pair_lt ho hn
    have hq : ((o * R + c) * S + n) * wd + y' ≤ 1073741824 := by
      have := pair_lt (pair_lt (pair_lt ho hc) hn) hy'
      omega
    refine (imeet_any b gb ga gk (R * L) (((o * R + c) * S + n) * wd + y') _ _ _ _ pa na ca pk nk ck x y hx hy hq (by omega) hb0 (by rw [hxl]; exact hb2) (by rw [hyl]; exact hb1) (by omega) (by omega) W hI.2 (hI.1 _ hb0)).mono ?_
    rintro e w' ⟨e1, hs', hn'⟩
    refine ⟨e1, ⟨hI.1.add hn' hs' ?_, hI.2.stay hn'.stay⟩, hn'.stay, hn'.below⟩
    intro i hi
    show flat4 _ R S wd _ = _
    rw [flat4_step _ hc hn hy']
    unfold inT
    by_cases e : c * L + n * st + y' = i
    · rw [if_pos e, if_pos e]
    · rw [if_neg e, if_neg e, Int.add_zero]
  have hb' : Hid (b < w.heap.size) := hb
  clear h0 ca1 ck1 nx ny fx fy hx hy hxl hyl hbnd hst hS h5 h6 h7 hb hne
  haveI : Nonempty World := ⟨w⟩
  obtain ⟨NN, eNN⟩ : ∃ n, R * L = n := ⟨_, rfl⟩
  rw [eNN] at HE ⊢
  go_enter Tryd.func32, Tryd.ntmps32
  go_wp2_with fail
  refine (HE.out _ _ rfl rfl).mono ?_
  rintro e w1 ⟨rfl, ⟨hS1, _⟩, hT1, hB1⟩
  have hU := up_alloc w (.cells #[.slice (some ⟨b, 0, none⟩) NN NN] 49)
  have HF : Hid (Sms w1 b NN (O * R * S * wd) (fun i => flat4 (inT L R S wd st x y i) R S wd (O * R * S * wd)) ∧ Stay b w w1 ∧ Below b w w1) := ⟨hS1, (Stay.of hU).trans hT1, (hU.mono (Nat.le_of_lt hb'.out)).trans hB1⟩
  clear hS1 hT1 hB1 hU
  go_wp2
  go_end0
  exact ⟨rfl, HF.out⟩
set_option maxRecDepth 8000 in
set_option maxHeartbeats 4000000 in
theorem kgather_any (R L O wd st S : Nat) (hS : stopsN L wd st = S) (h1 : wd ≤ L) (h2 : L ≤ 4096) (h3 : 1 ≤ st) (h4 : st ≤ 64) (h5 : O * R * wd ≤ 4096) (h6 : O * S ≤ 4096) (h7 : R * L ≤ 4096) (h8 : O ≤ 4096) (h9 : R ≤ 4096) (b gs ga gk : Nat) (pa : Option Addr) (na ca : Nat) (pk : Option Addr) (nk ck : Nat) (x y : List Int) (hx : RI x) (hy : RI y) (hxl : x.length = O * S) (hyl : y.length = R * L) (w : World)
    (hs : SlC w gs R L O wd st) (ca1 : w.cell? ⟨ga, 1, none⟩ = some (.slice pa na ca)) (ck1 : w.cell? ⟨gk, 1, none⟩ = some (.slice pk nk ck)) (nx : Nums .i64 w (.slice pa na ca) x) (ny : Nums .i64 w (.slice pk nk ck) y) (hne : ga ≠ b ∧ gk ≠ b) (fx : Off b (.slice pa na ca)) (fy : Off b (.slice pk nk ck)) (hb : b < w.heap.size) (h0 : Sms w b (O * R * wd) 0 (fun _ => 0)) :
    Calls Tryd.prog 34 #[.slice (some ⟨b, 0, none⟩) (O * R * wd) (O * R * wd), .pointer (some ⟨gs, 0, none⟩), .pointer (some ⟨ga, 0, none⟩), .pointer (some ⟨gk, 0, none⟩)] w fun e w' => e = .returned (.tuple #[]) ∧ Sms w' b (O * R * wd) (O * R * S * wd) (fun i => flat4 (kerT L R S wd st x y i) R S wd (O * R * S * wd)) ∧ Stay b w w' ∧ Below b w w' := by
  have hbnd : O * R * S * wd ≤ 1073741824 := by
    have q1 : S ≤ 4097 := by rw [← hS]; unfold stopsN; have := Nat.div_le_self (L - wd) st; omega
    have q2 : O * R * S * wd = O * R * wd * S := by rw [Nat.mul_assoc, Nat.mul_comm S wd, ← Nat.mul_assoc]
    rw [q2]
    exact Nat.le_trans (Nat.mul_le_mul h5 q1) (by decide)
  have hst : ∀ n, n < S → n * st + wd ≤ L := fun n hn => by
    unfold stopsN at hS
    have : n ≤ (L - wd) / st := by omega
    have := (Nat.le_div_iff_mul_le (by omega)).1 this
    omega
  have hmf : ∀ (fn : Fn) (first cap : Array Value) (w : World), (Instr.makeFunc fn first cap).run Tryd.prog w = .ok (.func fn first cap) w := fun _ _ _ _ => rfl
  obtain ⟨z0, z1, z2, z3, z4⟩ := hs
  have zl := cell_lt z0
  have HE : Hid (∀ gb W0, W0 = w.alloc (.cells #[.slice (some ⟨b, 0, none⟩) (O * R * wd) (O * R * wd)] 49) → gb = w.heap.size → Calls Tryd.prog 28 #[.agg #[.int .i64 (R : Int), .int .i64 (L : Int), .int .i64 (O : Int), .int .i64 (wd : Int), .int .i64 (st : Int)], .func (.func 35) #[] #[.pointer (some ⟨gb, 0, none⟩), .pointer (some ⟨ga, 0, none⟩), .pointer (some ⟨gk, 0, none⟩)]] W0 fun e w' => e = .returned (.tuple #[]) ∧ (Sms w' b (O * R * wd) (O * R * S * wd) (fun i => flat4 (kerT L R S wd st x y i) R S wd (O * R * S * wd)) ∧ Mt w' b gb ga gk (O * R * wd) pa na ca pk nk ck x y) ∧ Stay b W0 w' ∧ Below b W0 w') := fun gb W0 eW egb => by
    have hB : Below w.heap.size w W0 := by rw [eW]; exact up_alloc w _
    have cgb : W0.cell? ⟨gb, 0, none⟩ = some (.slice (some ⟨b, 0, none⟩) (O * R * wd) (O * R * wd)) := by rw [eW, egb]; simp [go_sem]
    refine each_any _ (fun args W => by simp [go_sem]) _ _ _ b R L O wd st S hS h1 h2 h3 h4 h5 h6 h7 h8 h9 (fun q W => Sms W b (O * R * wd) q (fun i => flat4 (kerT L R S wd st x y i) R S wd q) ∧ Mt W b gb ga gk (O * R * wd) pa na ca pk nk ck x y) (fun q W W' h hB => ⟨h.1.up hB, h.2.up hB⟩) ?_ W0 (Nat.lt_of_lt_of_le hb hB.size) ⟨h0.up hB, cgb, cell_low ca1 hB, cell_low ck1 hB, nx.up hB, ny.up hB, ⟨by omega, hne⟩, fx, fy⟩
    intro o c n y' ho hc hn hy' W hI
    have hb0 : c * L + n * st + y' < R * L := by
      have q1 := hst n hn
      have q2 : (c + 1) * L ≤ R * L := Nat.mul_le_mul_right L hc
      rw [Nat.add_mul, Nat.one_mul] at q2
      omega
    have hb1 : (o * R + c) * wd + y' < O * R * wd := pair_lt (pair_lt ho hc) hy'
    have hb2 : o * S + n < O * S := pair_lt ho hn
    have hq : ((o * R + c) * S + n) * wd + y' ≤ 1073741824 := by
      have := pair_lt (pair_lt (pair_lt ho hc) hn) hy'
      omega
    refine (kmeet_any b gb ga gk (O * R * wd) (((o * R + c) * S + n) * wd + y') _ _ _ _ pa na ca pk nk ck x y hx hy hq (by omega) hb1 (by rw [hxl]; exact hb2) (by rw [hyl]; exact hb0) (by omega) (by omega) W hI.2 (hI.1 _ hb1)).mono ?_
    rintro e w' ⟨e1, hs', hn'⟩
    refine ⟨e1, ⟨hI.1.add hn' hs' ?_, hI.2.stay hn'.stay⟩, hn'.stay, hn'.below⟩
    intro i hi
    show flat4 _ R S wd _ = _
    rw [flat4_step _ hc hn hy']
    unfold kerT
    by_cases e : (o * R + c) * wd + y' = i
    · rw [if_pos e, if_pos e]
    · rw [if_neg e, if_neg e, Int.add_zero]
  have hb' : Hid (b < w.heap.size) := hb
  clear h0 ca1 ck1 nx ny fx fy hx hy hxl hyl hbnd hst hS h5 h6 h7 hb hne
  haveI : Nonempty World := ⟨w⟩
  obtain ⟨NN, eNN⟩ : ∃ n, O * R * wd = n := ⟨_, rfl⟩
  rw [eNN] at HE ⊢
  go_enter Tryd.func34, Tryd.ntmps34
  go_wp2_with fail
  refine (HE.out _ _ rfl rfl).mono ?_
  rintro e w1 ⟨rfl, ⟨hS1, _⟩, hT1, hB1⟩
  have hU := up_alloc w (.cells #[.slice (some ⟨b, 0, none⟩) NN NN] 49)
  have HF : Hid (Sms w1 b NN (O * R * S * wd) (fun i => flat4 (kerT L R S wd st x y i) R S wd (O * R * S * wd)) ∧ Stay b w w1 ∧ Below b w w1) := ⟨hS1, (Stay.of hU).trans hT1, (hU.mono (Nat.le_of_lt hb'.out)).trans hB1⟩
  clear hS1 hT1 hB1 hU
  go_wp2
  go_end0
  exact ⟨rfl, HF.out⟩
end Go.Proofs.YtnicknnhboanoaaDoor.Wd
