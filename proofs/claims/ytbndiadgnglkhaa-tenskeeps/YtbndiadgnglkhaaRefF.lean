/- A signed number that lies in memory, bit by bit; the reference's shift. -/
import Derived.Test.YtbndiadgnglkhaaRefM
import Derived.Test.YtbndiadgnglkhaaRefD
namespace Go.Proofs.Ytbndiadgnglkhaa.Rf
open Go.RowKit Fx
set_option linter.unusedVariables false
set_option linter.unusedSimpArgs false
attribute [local go_sem] setCell_drewN alloc_drewN
/-- Block b holds a sign and four words; below B all is as it was. -/
structure Mem (B : Nat) (W2 : World) (b : Nat) (s : Bool) (r0 r1 r2 r3 : Int) (wr : World) : Prop where
  below : Below B W2 wr
  le : B ≤ b
  lt : b < wr.heap.size
  c0 : wr.cell? ⟨b, 0, none⟩ = some (.bool s)
  c1 : wr.cell? ⟨b, 1, none⟩ = some (.int .u64 r0)
  c2 : wr.cell? ⟨b, 2, none⟩ = some (.int .u64 r1)
  c3 : wr.cell? ⟨b, 3, none⟩ = some (.int .u64 r2)
  c4 : wr.cell? ⟨b, 4, none⟩ = some (.int .u64 r3)
  fz : ∀ o, wr.frozen? ⟨b, o, none⟩ = false
  u0 : U r0
  u1 : U r1
  u2 : U r2
  u3 : U r3
theorem Mem.up {B : Nat} {W2 wr w1 : World} {b : Nat} {s : Bool} {r0 r1 r2 r3 : Int} (h : Mem B W2 b s r0 r1 r2 r3 wr) (hb : Below wr.heap.size wr w1) : Mem B W2 b s r0 r1 r2 r3 w1 := by
  obtain ⟨hc, hf⟩ := bcell hb
  have hl : wr.heap.size ≤ w1.heap.size := hb.size
  have h1 := h.le
  have h2 := h.lt
  exact ⟨h.below.trans (hb.mono (by omega)), h.le, by omega, by rw [hc _ _ h2]; exact h.c0, by rw [hc _ _ h2]; exact h.c1, by rw [hc _ _ h2]; exact h.c2, by rw [hc _ _ h2]; exact h.c3, by rw [hc _ _ h2]; exact h.c4, fun o => by rw [hf _ _ h2]; exact h.fz o, h.u0, h.u1, h.u2, h.u3⟩
theorem Mem.set0 {B : Nat} {W2 wr : World} {b : Nat} {s : Bool} {r0 r1 r2 r3 v : Int} (h : Mem B W2 b s r0 r1 r2 r3 wr) (hv : U v) : Mem B W2 b s v r1 r2 r3 (wr.setCell ⟨b, 1, none⟩ (.int .u64 v)) :=
  ⟨h.below.setCell h.le _, h.le, by rw [World.size_setCell]; exact h.lt, by rw [set_off (by omega)]; exact h.c0, set_same h.c1, by rw [set_off (by omega)]; exact h.c2, by rw [set_off (by omega)]; exact h.c3, by rw [set_off (by omega)]; exact h.c4, fun o => by rw [World.frozen?_setCell]; exact h.fz o, hv, h.u1, h.u2, h.u3⟩
theorem Mem.set1 {B : Nat} {W2 wr : World} {b : Nat} {s : Bool} {r0 r1 r2 r3 v : Int} (h : Mem B W2 b s r0 r1 r2 r3 wr) (hv : U v) : Mem B W2 b s r0 v r2 r3 (wr.setCell ⟨b, 2, none⟩ (.int .u64 v)) :=
  ⟨h.below.setCell h.le _, h.le, by rw [World.size_setCell]; exact h.lt, by rw [set_off (by omega)]; exact h.c0, by rw [set_off (by omega)]; exact h.c1, set_same h.c2, by rw [set_off (by omega)]; exact h.c3, by rw [set_off (by omega)]; exact h.c4, fun o => by rw [World.frozen?_setCell]; exact h.fz o, h.u0, hv, h.u2, h.u3⟩
theorem Mem.set2 {B : Nat} {W2 wr : World} {b : Nat} {s : Bool} {r0 r1 r2 r3 v : Int} (h : Mem B W2 b s r0 r1 r2 r3 wr) (hv : U v) : Mem B W2 b s r0 r1 v r3 (wr.setCell ⟨b, 3, none⟩ (.int .u64 v)) :=
  ⟨h.below.setCell h.le _, h.le, by rw [World.size_setCell]; exact h.lt, by rw [set_off (by omega)]; exact h.c0, by rw [set_off (by omega)]; exact h.c1, by rw [set_off (by omega)]; exact h.c2, set_same h.c3, by rw [set_off (by omega)]; exact h.c4, fun o => by rw [World.frozen?_setCell]; exact h.fz o, h.u0, h.u1, hv, h.u3⟩
theorem Mem.set3 {B : Nat} {W2 wr : World} {b : Nat} {s : Bool} {r0 r1 r2 r3 v : Int} (h : Mem B W2 b s r0 r1 r2 r3 wr) (hv : U v) : Mem B W2 b s r0 r1 r2 v (wr.setCell ⟨b, 4, none⟩ (.int .u64 v)) :=
  ⟨h.below.setCell h.le _, h.le, by rw [World.size_setCell]; exact h.lt, by rw [set_off (by omega)]; exact h.c0, by rw [set_off (by omega)]; exact h.c1, by rw [set_off (by omega)]; exact h.c2, by rw [set_off (by omega)]; exact h.c3, set_same h.c4, fun o => by rw [World.frozen?_setCell]; exact h.fz o, h.u0, h.u1, h.u2, hv⟩
theorem set_num0 {r0 r1 r2 r3 z y : Int} (h : Hid (PS 4 r0 r1 r2 r3 = z)) (tt m : Nat) (hm : m = 64 * 0 + tt) (hy : y = z + 2 ^ m) : Hid (PS 4 (r0 + 2 ^ tt) r1 r2 r3 = y) := by
  have h' := h.out
  show PS 4 (r0 + 2 ^ tt) r1 r2 r3 = y
  rw [hy, ← h', PS4, PS4, hm, Int.pow_add]
  generalize (2 : Int) ^ tt = P
  show _ = _ + 1 * P
  omega
theorem set_num1 {r0 r1 r2 r3 z y : Int} (h : Hid (PS 4 r0 r1 r2 r3 = z)) (tt m : Nat) (hm : m = 64 * 1 + tt) (hy : y = z + 2 ^ m) : Hid (PS 4 r0 (r1 + 2 ^ tt) r2 r3 = y) := by
  have h' := h.out
  show PS 4 r0 (r1 + 2 ^ tt) r2 r3 = y
  rw [hy, ← h', PS4, PS4, hm, Int.pow_add]
  generalize (2 : Int) ^ tt = P
  show _ = _ + 18446744073709551616 * P
  omega
theorem set_num2 {r0 r1 r2 r3 z y : Int} (h : Hid (PS 4 r0 r1 r2 r3 = z)) (tt m : Nat) (hm : m = 64 * 2 + tt) (hy : y = z + 2 ^ m) : Hid (PS 4 r0 r1 (r2 + 2 ^ tt) r3 = y) := by
  have h' := h.out
  show PS 4 r0 r1 (r2 + 2 ^ tt) r3 = y
  rw [hy, ← h', PS4, PS4, hm, Int.pow_add]
  generalize (2 : Int) ^ tt = P
  show _ = _ + 340282366920938463463374607431768211456 * P
  omega
theorem set_num3 {r0 r1 r2 r3 z y : Int} (h : Hid (PS 4 r0 r1 r2 r3 = z)) (tt m : Nat) (hm : m = 64 * 3 + tt) (hy : y = z + 2 ^ m) : Hid (PS 4 r0 r1 r2 (r3 + 2 ^ tt) = y) := by
  have h' := h.out
  show PS 4 r0 r1 r2 (r3 + 2 ^ tt) = y
  rw [hy, ← h', PS4, PS4, hm, Int.pow_add]
  generalize (2 : Int) ^ tt = P
  show _ = _ + 6277101735386680763835789423207666416102355444464034512896 * P
  omega
theorem mul_bit (x : Int) (n m : Nat) (h : n ≤ m) : x * 2 ^ n / 2 ^ m % 2 = x / 2 ^ (m - n) % 2 := by
  rw [show m = n + (m - n) by omega, div_two, Int.mul_ediv_cancel _ (Int.ne_of_gt (two_pos n)), show n + (m - n) - n = m - n by omega]
end Go.Proofs.Ytbndiadgnglkhaa.Rf
