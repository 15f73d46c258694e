/- Sums of bytes, as numbers: one step is a shift, exclusive or'd with the polynomial where a bit falls out. Nothing of the program is named here. -/
import Derived.RowKit
namespace Go.Proofs.Ythmpfdkbpdbhnaa.Wd
open Go.RowKit
set_option linter.unusedVariables false
set_option linter.unusedSimpArgs false
def tN (x : Nat) : Nat := x / 2 ^^^ (if x % 2 = 1 then 3988292384 else 0)
def tk : Nat → Nat → Nat
  | 0, x => x
  | k + 1, x => tk k (tN x)
def byteN (s b : Nat) : Nat := tk 8 (s ^^^ b)
def runN (s : Nat) (l : List Nat) : Nat := l.foldl byteN s
def moreN (c : Nat) (l : List Nat) : Nat := 4294967295 ^^^ runN (4294967295 ^^^ c) l
def ofN (l : List Nat) : Nat := moreN 0 l
theorem xor_lt {x y : Nat} (hx : x < 4294967296) (hy : y < 4294967296) : x ^^^ y < 4294967296 := Nat.xor_lt_two_pow (n := 32) hx hy
theorem tN_lt {x : Nat} (h : x < 4294967296) : tN x < 4294967296 := by
  unfold tN
  refine xor_lt (by omega) ?_
  split <;> omega
theorem tk_lt : ∀ (k : Nat) {x : Nat}, x < 4294967296 → tk k x < 4294967296
  | 0, _, h => h
  | k + 1, _, h => tk_lt k (tN_lt h)
theorem byteN_lt {s b : Nat} (hs : s < 4294967296) (hb : b < 256) : byteN s b < 4294967296 := tk_lt 8 (xor_lt hs (by omega))
theorem runN_lt : ∀ (l : List Nat) {s : Nat}, s < 4294967296 → (∀ b, b ∈ l → b < 256) → runN s l < 4294967296
  | [], s, h, _ => h
  | b :: l, s, h, hl => runN_lt l (byteN_lt h (hl b List.mem_cons_self)) fun c hc => hl c (List.mem_cons_of_mem _ hc)
theorem xor_div (x y : Nat) : (x ^^^ y) / 2 = x / 2 ^^^ y / 2 := by
  have := Nat.shiftRight_xor_distrib (a := x) (b := y) (i := 1)
  simpa [Nat.shiftRight_eq_div_pow] using this
theorem tN_xor (x y : Nat) : tN (x ^^^ y) = tN x ^^^ tN y := by
  unfold tN
  rw [xor_div]
  have hm : (x ^^^ y) % 2 = (x + y) % 2 := by
    have h := Nat.xor_mod_two_pow (a := x) (b := y) (n := 1)
    rw [Nat.pow_one] at h
    rw [h]
    rcases Nat.mod_two_eq_zero_or_one x with hx | hx <;> rcases Nat.mod_two_eq_zero_or_one y with hy | hy <;> rw [hx, hy, Nat.add_mod, hx, hy] <;> rfl
  rcases Nat.mod_two_eq_zero_or_one x with hx | hx <;> rcases Nat.mod_two_eq_zero_or_one y with hy | hy
  · rw [if_neg (by omega), if_neg (by omega), if_neg (by omega)]; simp
  · rw [if_pos (by omega), if_neg (by omega), if_pos (by omega)]; simp [Nat.xor_assoc]
  · rw [if_pos (by omega), if_pos (by omega), if_neg (by omega), Nat.xor_zero, Nat.xor_assoc, Nat.xor_assoc, Nat.xor_comm (y / 2)]
  · rw [if_neg (by omega), if_pos (by omega), if_pos (by omega), Nat.xor_zero, Nat.xor_assoc, Nat.xor_comm 3988292384, Nat.xor_assoc, Nat.xor_self, Nat.xor_zero]
theorem tk_xor : ∀ (k x y : Nat), tk k (x ^^^ y) = tk k x ^^^ tk k y
  | 0, _, _ => rfl
  | k + 1, x, y => by rw [tk, tk, tk, tN_xor, tk_xor k]
theorem xor_zero_eq {x y : Nat} (h : x ^^^ y = 0) : x = y := by
  have e : x ^^^ y ^^^ y = x := by rw [Nat.xor_assoc, Nat.xor_self, Nat.xor_zero]
  rw [h, Nat.zero_xor] at e
  exact e.symm
theorem tN_zero {x : Nat} (hx : x < 4294967296) (h : tN x = 0) : x = 0 := by
  unfold tN at h
  have := xor_zero_eq h
  split at this <;> omega
theorem tk_zero : ∀ (k : Nat) {x : Nat}, x < 4294967296 → tk k x = 0 → x = 0
  | 0, _, _, h => h
  | k + 1, x, hx, h => tN_zero hx (tk_zero k (tN_lt hx) h)
theorem tk_of_zero : ∀ k, tk k 0 = 0
  | 0 => rfl
  | k + 1 => by rw [tk, show tN 0 = 0 from rfl, tk_of_zero k]
theorem tN_even (m : Nat) : tN (m * 2) = m := by
  unfold tN
  rw [if_neg (by omega)]
  simp
theorem tk_shift : ∀ (k m : Nat), tk k (m * 2 ^ k) = m
  | 0, m => by simp [tk]
  | k + 1, m => by rw [tk, Nat.pow_succ, ← Nat.mul_assoc, tN_even, tk_shift k m]
theorem tk_add : ∀ (j k x : Nat), tk (j + k) x = tk k (tk j x)
  | 0, k, x => by rw [Nat.zero_add]; rfl
  | j + 1, k, x => by rw [Nat.add_right_comm, tk, tk, tk_add j k]
theorem runN_append (s : Nat) (a b : List Nat) : runN s (a ++ b) = runN (runN s a) b := List.foldl_append ..
theorem runN_xor : ∀ (l l' : List Nat) (s s' : Nat), l.length = l'.length → runN (s ^^^ s') (List.zipWith (· ^^^ ·) l l') = runN s l ^^^ runN s' l'
  | [], [], _, _, _ => rfl
  | a :: l, b :: l', s, s', h => by
    have e : byteN (s ^^^ s') (a ^^^ b) = byteN s a ^^^ byteN s' b := by
      unfold byteN
      rw [← tk_xor]
      congr 1
      rw [Nat.xor_assoc, Nat.xor_assoc, ← Nat.xor_assoc s' a b, Nat.xor_comm s' a, Nat.xor_assoc a]
    show runN (byteN (s ^^^ s') (a ^^^ b)) _ = runN (byteN s a) l ^^^ runN (byteN s' b) l'
    rw [e]
    exact runN_xor l l' _ _ (by simpa using h)
theorem runN_zero : ∀ (n s : Nat), s < 4294967296 → runN s (List.replicate n 0) = 0 → s = 0
  | 0, _, _, h => h
  | n + 1, s, hs, h => by
    have h1 : byteN s 0 = 0 := runN_zero n _ (byteN_lt hs (by omega)) h
    unfold byteN at h1
    rw [Nat.xor_zero] at h1
    exact tk_zero 8 hs h1
theorem runN_of_zero : ∀ n, runN 0 (List.replicate n 0) = 0
  | 0 => rfl
  | n + 1 => by
    show runN (byteN 0 0) (List.replicate n 0) = 0
    rw [show byteN 0 0 = 0 from tk_of_zero 8, runN_of_zero n]
/-- Four bytes side by side are 32 bits, the first lowest. -/
theorem four_run (a b c d : Nat) (ha : a < 256) (hb : b < 256) (hc : c < 256) (hd : d < 256) (h : runN 0 [a, b, c, d] = 0) : a = 0 ∧ b = 0 ∧ c = 0 ∧ d = 0 := by
  have e : runN 0 [a, b, c, d] = tk 32 (a ^^^ (b * 256) ^^^ (c * 65536) ^^^ (d * 16777216)) := by
    have e1 : byteN 0 a = tk 8 a := by unfold byteN; rw [Nat.zero_xor]
    have sb : tk 8 (b * 256) = b := tk_shift 8 b
    have sc : tk 16 (c * 65536) = c := tk_shift 16 c
    have sd : tk 24 (d * 16777216) = d := tk_shift 24 d
    have e2 : byteN (byteN 0 a) b = tk 16 (a ^^^ (b * 256)) := by
      rw [e1, show tk 16 = tk (8 + 8) from rfl, tk_add, tk_xor, sb]
      rfl
    have e3 : byteN (byteN (byteN 0 a) b) c = tk 24 (a ^^^ (b * 256) ^^^ (c * 65536)) := by
      rw [e2, show tk 24 = tk (16 + 8) from rfl, tk_add, tk_xor 16 _ (c * 65536), sc]
      rfl
    show byteN (byteN (byteN (byteN 0 a) b) c) d = _
    rw [e3, show tk 32 = tk (24 + 8) from rfl, tk_add, tk_xor 24 _ (d * 16777216), sd]
    rfl
  rw [e] at h
  have hz := tk_zero 32 (xor_lt (xor_lt (xor_lt (by omega) (by omega)) (by omega)) (by omega)) h
  have h3 : a ^^^ b * 256 ^^^ c * 65536 = d * 16777216 := xor_zero_eq hz
  have l3 : a ^^^ b * 256 ^^^ c * 65536 < 16777216 := Nat.xor_lt_two_pow (n := 24) (Nat.xor_lt_two_pow (n := 24) (by omega) (by omega)) (by omega)
  have hd0 : d = 0 := by omega
  have h2 : a ^^^ b * 256 = c * 65536 := xor_zero_eq (by rw [h3, hd0])
  have l2 : a ^^^ b * 256 < 65536 := Nat.xor_lt_two_pow (n := 16) (by omega) (by omega)
  have hc0 : c = 0 := by omega
  have h1 : a = b * 256 := xor_zero_eq (by rw [h2, hc0])
  omega
/-- A change within four bytes side by side changes the run. -/
theorem burst (s : Nat) (p r : List Nat) (x0 x1 x2 x3 d0 d1 d2 d3 : Nat) (h0 : d0 < 256) (h1 : d1 < 256) (h2 : d2 < 256) (h3 : d3 < 256) (hd : ¬ (d0 = 0 ∧ d1 = 0 ∧ d2 = 0 ∧ d3 = 0)) :
    runN s (p ++ ([x0 ^^^ d0, x1 ^^^ d1, x2 ^^^ d2, x3 ^^^ d3] ++ r)) ≠ runN s (p ++ ([x0, x1, x2, x3] ++ r)) := by
  intro h
  have key := runN_xor (p ++ ([x0 ^^^ d0, x1 ^^^ d1, x2 ^^^ d2, x3 ^^^ d3] ++ r)) (p ++ ([x0, x1, x2, x3] ++ r)) s s (by simp)
  rw [h, Nat.xor_self, Nat.xor_self] at key
  have zz : ∀ q : List Nat, List.zipWith (· ^^^ ·) q q = List.replicate q.length 0 := by
    intro q
    induction q with
    | nil => rfl
    | cons a q ih => rw [List.zipWith_cons_cons, ih, Nat.xor_self]; rfl
  have xd : ∀ x d : Nat, x ^^^ d ^^^ x = d := fun x d => by rw [Nat.xor_comm x d, Nat.xor_assoc, Nat.xor_self, Nat.xor_zero]
  rw [List.zipWith_append rfl, zz p, List.zipWith_append (by simp), zz r] at key
  simp only [List.zipWith_cons_cons, List.zipWith_nil_left, xd] at key
  rw [runN_append, runN_of_zero, runN_append] at key
  have hlt : runN 0 [d0, d1, d2, d3] < 4294967296 := runN_lt _ (by omega) (by
    intro b hb
    simp at hb
    omega)
  exact hd (four_run _ _ _ _ h0 h1 h2 h3 (runN_zero _ _ hlt key))
theorem more_of (a b : List Nat) : moreN (ofN a) b = ofN (a ++ b) := by
  unfold ofN moreN
  rw [runN_append, ← Nat.xor_assoc, Nat.xor_self, Nat.zero_xor]
theorem lines (a b c : List Nat) (hb : b.length = a.length) (hc : c.length = a.length) : ofN (List.zipWith (· ^^^ ·) (List.zipWith (· ^^^ ·) a b) c) = ofN a ^^^ ofN b ^^^ ofN c := by
  unfold ofN moreN
  generalize e : (4294967295 ^^^ 0 : Nat) = s
  have k1 := runN_xor a b s s hb.symm
  have k2 := runN_xor (List.zipWith (· ^^^ ·) a b) c (s ^^^ s) s (by simp; omega)
  have e1 : s ^^^ s ^^^ s = s := by rw [Nat.xor_self, Nat.zero_xor]
  rw [k1, e1] at k2
  rw [k2]
  generalize runN s a = x
  generalize runN s b = y
  generalize runN s c = z
  generalize (4294967295 : Nat) = m
  rw [Nat.xor_assoc m x, Nat.xor_assoc m]
  congr 1
  rw [Nat.xor_assoc x (m ^^^ y), ← Nat.xor_assoc (m ^^^ y), Nat.xor_comm m y, Nat.xor_assoc y, Nat.xor_self, Nat.xor_zero, Nat.xor_assoc]
end Go.Proofs.Ythmpfdkbpdbhnaa.Wd
