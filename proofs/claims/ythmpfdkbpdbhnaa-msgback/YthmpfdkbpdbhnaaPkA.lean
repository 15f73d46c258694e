/- What the functions of package pack hand back: a Reader's calls. -/
import Derived.Test.YthmpfdkbpdbhnaaBy
import Derived.Deep.LoopGhost
namespace Go.Proofs.Ythmpfdkbpdbhnaa.Wd
open Go.RowKit
set_option linter.unusedVariables false
set_option linter.unusedSimpArgs false
/-- All blocks but g are as they were. -/
structure But (g : Nat) (w w' : World) : Prop where
  os : w'.os = w.os
  tape : w'.tape = w.tape
  output : w'.output = w.output
  size : w.heap.size ≤ w'.heap.size
  block : ∀ k, k < w.heap.size → k ≠ g → w'.heap[k]? = w.heap[k]?
theorem But.refl (g : Nat) (w : World) : But g w w := ⟨rfl, rfl, rfl, Nat.le_refl _, fun _ _ _ => rfl⟩
theorem But.trans {g : Nat} {a b c : World} (h : But g a b) (k : But g b c) : But g a c :=
  ⟨k.os.trans h.os, k.tape.trans h.tape, k.output.trans h.output, Nat.le_trans h.size k.size, fun i hi hg => (k.block i (Nat.lt_of_lt_of_le hi h.size) hg).trans (h.block i hi hg)⟩
theorem But.of {g : Nat} {w w' : World} (h : Below w.heap.size w w') : But g w w' := ⟨h.os, h.tape, h.output, h.size, fun k hk _ => h.block k hk⟩
theorem But.set {g o : Nat} {w : World} (u : Value) : But g w (w.setCell ⟨g, o, none⟩ u) := ⟨rfl, rfl, rfl, by simp [World.setCell], fun k hk hg => Below.heap_setCell _ _ _ _ hg⟩
theorem But.below {g B : Nat} {w0 w w' : World} (h : Below B w0 w) (hb : But g w w') (hg : B ≤ g) (hB : B ≤ w.heap.size) : Below B w0 w' :=
  h.trans ⟨hb.os, hb.tape, hb.output, hb.size, fun k hk => hb.block k (by omega) (by omega)⟩
theorem But.cell {g b o : Nat} {w w' : World} {v : Value} (h : But g w w') (hb : b ≠ g) (hc : w.cell? ⟨b, o, none⟩ = some v) : w'.cell? ⟨b, o, none⟩ = some v := by
  have := h.block b (cell_lt hc) hb
  unfold World.cell? at hc ⊢
  simp only [this]
  exact hc
/-- The slice's bytes are these, and its cells lie below block g. -/
def BytesOff (g : Nat) (W : World) (v : Value) (l : List Int) : Prop :=
  (v = .slice none 0 0 ∧ l = []) ∨ ∃ q o c, v = .slice (some ⟨q, o, none⟩) l.length c ∧ q < g ∧ l.length ≤ c ∧ c ≤ 9223372036854775807 ∧ ∀ j x, l[j]? = some x → W.cell? ⟨q, o + j, none⟩ = some (.int .u8 x)
theorem BytesOff.but {g : Nat} {W W' : World} {v : Value} {l : List Int} (h : BytesOff g W v l) (hb : But g W W') : BytesOff g W' v l := by
  rcases h with h | ⟨q, o, c, h1, h2, h3, h4, h5⟩
  · exact .inl h
  · exact .inr ⟨q, o, c, h1, h2, h3, h4, fun j x hj => hb.cell (Nat.ne_of_lt h2) (h5 j x hj)⟩
theorem addr_add (b o j : Nat) : (⟨b, o, none⟩ : Addr).add j = ⟨b, o + j, none⟩ := by
  unfold Addr.add
  split
  · rename_i h; rw [h, Nat.add_zero]
  · rfl
theorem BytesOff.bytes {g : Nat} {W : World} {v : Value} {l : List Int} (h : BytesOff g W v l) : Bytes W v l := by
  rcases h with h | ⟨q, o, c, h1, h2, h3, h4, h5⟩
  · exact .inl h
  · refine .inr ⟨⟨q, o, none⟩, c, h1, fun j u hu => ?_⟩
    rw [List.getElem?_map] at hu
    obtain ⟨x, hx, rfl⟩ := Option.map_eq_some_iff.1 hu
    rw [addr_add]
    exact h5 j x hx
/-- A Reader at block g: what is left to read, and whether it is spoilt. -/
structure Rd (W : World) (g : Nat) (l : List Int) (sp : Bool) : Prop where
  rest : ∃ v, W.cell? ⟨g, 0, none⟩ = some v ∧ BytesOff g W v l
  mark : W.cell? ⟨g, 1, none⟩ = some (.bool sp)
  fr0 : W.frozen? ⟨g, 0, none⟩ = false
  fr1 : W.frozen? ⟨g, 1, none⟩ = false
  rng : ∀ y, y ∈ l → 0 ≤ y ∧ y < 256
theorem Rd.lt {W : World} {g : Nat} {l : List Int} {sp : Bool} (h : Rd W g l sp) : g < W.heap.size := cell_lt h.mark
theorem Rd.up {W W' : World} {g : Nat} {l : List Int} {sp : Bool} (h : Rd W g l sp) (hb : Below W.heap.size W W') : Rd W' g l sp := by
  obtain ⟨v, h1, h2⟩ := h.rest
  exact ⟨⟨v, keep hb h1, h2.but (But.of hb)⟩, keep hb h.mark, keepf hb h1 h.fr0, keepf hb h.mark h.fr1, h.rng⟩
theorem Rd.low {W W' : World} {g B : Nat} {l : List Int} {sp : Bool} (h : Rd W g l sp) (hb : Below B W W') (hg : g < B) : Rd W' g l sp := by
  obtain ⟨v, h1, h2⟩ := h.rest
  refine ⟨⟨v, (hb.cell (p := ⟨g, 0, none⟩) hg).trans h1, ?_⟩, (hb.cell (p := ⟨g, 1, none⟩) hg).trans h.mark, (hb.frozen (p := ⟨g, 0, none⟩) hg).trans h.fr0, (hb.frozen (p := ⟨g, 1, none⟩) hg).trans h.fr1, h.rng⟩
  rcases h2 with h | ⟨q, o, c, e1, e2, e3, e4, e5⟩
  · exact .inl h
  · exact .inr ⟨q, o, c, e1, e2, e3, e4, fun j x hj => (hb.cell (p := ⟨q, o + j, none⟩) (Nat.lt_trans e2 hg)).trans (e5 j x hj)⟩
/-- What take takes, what is left, whether it is spoilt then. -/
def okT (l : List Int) (n : Int) : Bool := decide (0 ≤ n ∧ n ≤ (l.length : Int))
def got (l : List Int) (n : Int) : List Int := if okT l n then l.take n.toNat else []
def left (l : List Int) (n : Int) : List Int := if okT l n then l.drop n.toNat else []
def mars (l : List Int) (sp : Bool) (n : Int) : Bool := if okT l n then sp else true
set_option maxHeartbeats 1000000 in
theorem take_good_some (g q o c m n : Nat) (hn : n ≤ m) (hc : m ≤ c) (hcm : c ≤ 9223372036854775807) (w : World) (h0 : w.cell? ⟨g, 0, none⟩ = some (.slice (some ⟨q, o, none⟩) m c)) (hf : w.frozen? ⟨g, 0, none⟩ = false) :
    Calls Try.prog 58 #[.pointer (some ⟨g, 0, none⟩), .int .i64 (n : Int)] w fun e w' => e = .returned (.slice (some ⟨q, o, none⟩) n c) ∧ w' = w.setCell ⟨g, 0, none⟩ (if n = c then .slice (some ⟨q, o, none⟩) 0 0 else .slice (some ⟨q, o + n, none⟩) (m - n) (c - n)) := by
  have hn' : (n : Int) ≤ (m : Int) := by omega
  have hz : ¬ (n : Int) < 0 := by omega
  go_enter Try.func58, Try.ntmps58
  go_wp2
  all_goals (go_ret; exact ⟨rfl, rfl⟩)
set_option maxHeartbeats 1000000 in
theorem take_good_none (g : Nat) (w : World) (h0 : w.cell? ⟨g, 0, none⟩ = some (.slice none 0 0)) (hf : w.frozen? ⟨g, 0, none⟩ = false) :
    Calls Try.prog 58 #[.pointer (some ⟨g, 0, none⟩), .int .i64 0] w fun e w' => e = .returned (.slice none 0 0) ∧ w' = w.setCell ⟨g, 0, none⟩ (.slice none 0 0) := by
  go_enter Try.func58, Try.ntmps58
  go_wp2
  all_goals (go_ret; exact ⟨rfl, rfl⟩)
set_option maxHeartbeats 1000000 in
theorem take_bad (g : Nat) (p : Option Addr) (m c : Nat) (n : Int) (hn : n < 0 ∨ (m : Int) < n) (hn0 : -9223372036854775808 ≤ n ∧ n ≤ 9223372036854775807) (w : World) (h0 : w.cell? ⟨g, 0, none⟩ = some (.slice p m c)) (hf : w.frozen? ⟨g, 0, none⟩ = false) (h1 : ∃ b, w.cell? ⟨g, 1, none⟩ = some (.bool b)) (hf1 : w.frozen? ⟨g, 1, none⟩ = false) :
    Calls Try.prog 58 #[.pointer (some ⟨g, 0, none⟩), .int .i64 n] w fun e w' => e = .returned (.slice none 0 0) ∧ w' = (w.setCell ⟨g, 0, none⟩ (.slice none 0 0)).setCell ⟨g, 1, none⟩ (.bool true) := by
  obtain ⟨b, h1⟩ := h1
  by_cases hz : n < 0
  · clear hn
    go_enter Try.func58, Try.ntmps58
    go_wp2
    all_goals (go_ret; exact ⟨rfl, rfl⟩)
  · have hm : (m : Int) < n := by omega
    clear hn
    go_enter Try.func58, Try.ntmps58
    go_wp2
    all_goals (go_ret; exact ⟨rfl, rfl⟩)
theorem Rd.set {W : World} {g : Nat} {l l' : List Int} {sp : Bool} {v' : Value} (h : Rd W g l sp) (hv : BytesOff g W v' l') (hr : ∀ y, y ∈ l' → 0 ≤ y ∧ y < 256) : Rd (W.setCell ⟨g, 0, none⟩ v') g l' sp := by
  obtain ⟨v, h1, h2⟩ := h.rest
  refine ⟨⟨v', World.cell?_setCell_same _ _ _ h1, hv.but (But.set v')⟩, ?_, ?_, ?_, hr⟩
  · rw [World.cell?_setCell_other _ _ _ _ (by simp)]; exact h.mark
  · rw [World.frozen?_setCell]; exact h.fr0
  · rw [World.frozen?_setCell]; exact h.fr1
theorem Rd.spoil {W : World} {g : Nat} {l : List Int} {sp : Bool} (h : Rd W g l sp) : Rd ((W.setCell ⟨g, 0, none⟩ (.slice none 0 0)).setCell ⟨g, 1, none⟩ (.bool true)) g [] true := by
  have h1 := h.set (v' := .slice none 0 0) (l' := []) (.inl ⟨rfl, rfl⟩) (by simp)
  obtain ⟨v, h2, h3⟩ := h1.rest
  refine ⟨⟨v, ?_, h3.but (But.set _)⟩, World.cell?_setCell_same _ _ _ h1.mark, ?_, ?_, by simp⟩
  · rw [World.cell?_setCell_other _ _ _ _ (by simp)]; exact h2
  · rw [World.frozen?_setCell]; exact h1.fr0
  · rw [World.frozen?_setCell]; exact h1.fr1
theorem BytesOff.part {g : Nat} {W : World} {q o c n : Nat} {l : List Int} (hg : q < g) (hn : n ≤ l.length) (hc : l.length ≤ c) (hcm : c ≤ 9223372036854775807) (h : ∀ j x, l[j]? = some x → W.cell? ⟨q, o + j, none⟩ = some (.int .u8 x)) : BytesOff g W (.slice (some ⟨q, o, none⟩) n c) (l.take n) := by
  refine .inr ⟨q, o, c, by simp [Nat.min_eq_left hn], hg, by simp; omega, hcm, fun j x hj => h j x ?_⟩
  rw [List.getElem?_take] at hj
  split at hj
  · exact hj
  · cases hj
theorem BytesOff.rest {g : Nat} {W : World} {q o c n : Nat} {l : List Int} (hg : q < g) (hn : n ≤ l.length) (hc : l.length ≤ c) (hcm : c ≤ 9223372036854775807) (h : ∀ j x, l[j]? = some x → W.cell? ⟨q, o + j, none⟩ = some (.int .u8 x)) : BytesOff g W (if n = c then .slice (some ⟨q, o, none⟩) 0 0 else .slice (some ⟨q, o + n, none⟩) (l.length - n) (c - n)) (l.drop n) := by
  split
  · rename_i e
    have : l.drop n = [] := by rw [List.drop_eq_nil_iff]; omega
    rw [this]
    exact .inr ⟨q, o, 0, rfl, hg, by simp, by omega, fun j x hj => by simp at hj⟩
  · refine .inr ⟨q, o + n, c - n, by simp, hg, by simp; omega, by omega, fun j x hj => ?_⟩
    rw [List.getElem?_drop] at hj
    have := h (n + j) x hj
    rw [← Nat.add_assoc] at this
    exact this
theorem take_any (g : Nat) (l : List Int) (sp : Bool) (n : Int) (hn : -9223372036854775808 ≤ n ∧ n ≤ 9223372036854775807) (w : World) (h : Rd w g l sp) :
    Calls Try.prog 58 #[.pointer (some ⟨g, 0, none⟩), .int .i64 n] w fun e w' => ∃ v, e = .returned v ∧ BytesOff g w' v (got l n) ∧ Rd w' g (left l n) (mars l sp n) ∧ But g w w' := by
  obtain ⟨v, h1, h2⟩ := h.rest
  by_cases ok : okT l n = true
  · have e1 : got l n = l.take n.toNat := by unfold got; rw [if_pos ok]
    have e2 : left l n = l.drop n.toNat := by unfold left; rw [if_pos ok]
    have e3 : mars l sp n = sp := by unfold mars; rw [if_pos ok]
    rw [e1, e2, e3]
    have ok' := ok
    simp only [okT, decide_eq_true_eq] at ok'
    obtain ⟨k, rfl⟩ := Int.eq_ofNat_of_zero_le ok'.1
    rw [Int.toNat_natCast]
    have hk : k ≤ l.length := by omega
    rcases h2 with ⟨rfl, rfl⟩ | ⟨q, o, c, rfl, hq, hc, hcm, hx⟩
    · obtain rfl : k = 0 := by simpa using hk
      refine (take_good_none g w h1 h.fr0).mono ?_
      rintro e w' ⟨rfl, rfl⟩
      exact ⟨_, rfl, .inl ⟨rfl, rfl⟩, h.set (.inl ⟨rfl, rfl⟩) (by simp), But.set _⟩
    · refine (take_good_some g q o c l.length k hk hc hcm w h1 h.fr0).mono ?_
      rintro e w' ⟨rfl, rfl⟩
      exact ⟨_, rfl, (BytesOff.part hq hk hc hcm hx).but (But.set _), h.set (BytesOff.rest hq hk hc hcm hx) (fun y hy => h.rng y (List.mem_of_mem_drop hy)), But.set _⟩
  · have e1 : got l n = [] := by unfold got; rw [if_neg ok]
    have e2 : left l n = [] := by unfold left; rw [if_neg ok]
    have e3 : mars l sp n = true := by unfold mars; rw [if_neg ok]
    rw [e1, e2, e3]
    have ok' : n < 0 ∨ (l.length : Int) < n := by
      simp only [okT, decide_eq_true_eq] at ok; omega
    obtain ⟨p, c, rfl⟩ : ∃ p c, v = .slice p l.length c := by
      rcases h2 with ⟨rfl, rfl⟩ | ⟨q, o, c, rfl, _⟩
      · exact ⟨_, _, rfl⟩
      · exact ⟨_, _, rfl⟩
    refine (take_bad g p l.length c n ok' hn w h1 h.fr0 ⟨_, h.mark⟩ h.fr1).mono ?_
    rintro e w' ⟨rfl, rfl⟩
    exact ⟨_, rfl, .inl ⟨rfl, rfl⟩, h.spoil, (But.set _).trans (But.set _)⟩
end Go.Proofs.Ythmpfdkbpdbhnaa.Wd
