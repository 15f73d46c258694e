/- Bytes that came in; append behind bytes of the call's own; the string of bytes, nil or not. -/
import Derived.Test.YthmpfdkbpdbhnaaPkC
import Derived.Test.YthmpfdkbpdbhnaaRow
import Derived.Test.YthmpfdkbpdbhnaaSeg
namespace Go.Proofs.Ythmpfdkbpdbhnaa.Wd
open Go.RowKit
set_option linter.unusedVariables false
set_option linter.unusedSimpArgs false
theorem byte_wf {x : Int} (h : (Lit.int .u8 x).wf = true) : 0 ≤ x ∧ x < 256 := by
  have := bounds_u8 h
  omega
/-- The numbers of a slice that came in, as a list. -/
def lst (n : Nat) (z : Nat → Int) : List Int := (List.range n).map z
theorem lst_len (n : Nat) (z : Nat → Int) : (lst n z).length = n := by simp [lst]
theorem lst_get (n : Nat) (z : Nat → Int) (j : Nat) (h : j < n) : (lst n z)[j]? = some (z j) := by simp [lst, h]
theorem RowN.rng {W : World} {p : Option Addr} {n c : Nat} {z : Nat → Int} (h : RowN .u8 W p n c z) : ∀ y, y ∈ lst n z → 0 ≤ y ∧ y < 256 := by
  intro y hy
  obtain ⟨i, hi, rfl⟩ := List.mem_map.1 hy
  exact byte_wf (h.1.2.2.1 i (List.mem_range.1 hi))
theorem RowN.bytes {W : World} {p : Option Addr} {n c : Nat} {z : Nat → Int} (h : RowN .u8 W p n c z) : Bytes W (.slice p n c) (lst n z) := by
  cases p with
  | none =>
    obtain ⟨rfl, rfl⟩ := h.2 rfl
    exact .inl ⟨rfl, rfl⟩
  | some ad =>
    refine .inr ⟨ad, c, by rw [lst_len], fun j u hu => ?_⟩
    rw [List.getElem?_map] at hu
    obtain ⟨x, hx, rfl⟩ := Option.map_eq_some_iff.1 hu
    have hj : j < n := by
      rcases Nat.lt_or_ge j n with h | h
      · exact h
      · rw [List.getElem?_eq_none (by rw [lst_len]; exact h)] at hx; cases hx
    rw [lst_get n z j hj] at hx
    cases hx
    obtain ⟨b, o, e, _, hcell⟩ := h.1.2.2.2 (by omega)
    cases e
    rw [addr_add]
    exact hcell j hj
theorem Own8.grown {W : World} {B : Nat} {v : Value} {l : List Int} (h : Own8 W B v l) : ∀ k, v.ownBlock = some k → B ≤ k := by
  intro k hk
  rcases h.2 with ⟨rfl, _⟩ | ⟨g, cap, cur, rfl, hB, _⟩
  · cases hk
  · cases hk; exact hB
/-- append of bytes, whatever they are, behind bytes of the call's own. -/
theorem wpList_append8 {ops : Array Oper} {rest : List Oper} {o : Oper} {a : Act} {Q : Exit → Act → World → Prop} {w : World} (hgd : o.guard = none) (s x : Operand)
    (ho : o.op = .call { callee := .builtin .append, args := #[s, x], argTypes := #[31, 31] }) (B : Nat) (v0 : Value) (l0 : List Int) (hs : a.eval s = v0) (hown : Own8 w B v0 l0)
    (v : Value) (l : List Int) (hx : a.eval x = v) (hb : Bytes w v l) (hlen : l0.length + l.length ≤ 1073741824) (hB : B ≤ w.heap.size) (w0 : World) (hB0 : Below B w0 w)
    (h : ∀ v' w', Hid (Own8 w' B v' (l0 ++ l)) → Below B w0 w' → wpList Try.prog ops Q rest (a.put o.dst v') w') : wpList Try.prog ops Q (o :: rest) a w := by
  obtain ⟨i0, hi, hz0, hz1, hz2⟩ := info_parts info8
  rcases hb with ⟨rfl, rfl⟩ | ⟨ad, c, rfl, hc⟩
  · refine wpList_append_own_none hgd s x 31 ho B 5 i0 1 Try.underlying31 hi v0 l0.length _ hs hown hx ?_
    exact h v0 w (show Own8 _ _ _ _ by rw [List.append_nil]; exact hown) hB0
  · refine wpList_append_own _ hgd s x 31 ho B 5 i0 (.int .u8 0) 1 1 Try.underlying31 hi hz0 hz1 hz2 rfl (by decide) v0 l0.length _ hs hown ad l.length c (l.map (Value.int .u8)) hx (by simp) hc (one8 _) (by unfold maxLen; omega) (by omega) hB ?_
    intro v' w' h1 h2 h3
    refine h v' w' ?_ (Below.grown hB0 h2 hB hown.grown)
    show Own8 _ _ _ _
    unfold Own8
    simpa using h1
theorem own8_new (w : World) : Own8 (w.alloc (.cells #[] 5)) w.heap.size (.slice (some ⟨w.heap.size, 0, none⟩) 0 0) [] := own_new w
theorem conv_nil (W : World) : Sem.run Try.prog (convert 31 9 (.slice none 0 0)) W = .ok (.string (str [])) W := by
  kernel_rfl
theorem conv_any {W : World} {v : Value} {l : List Int} (h : Bytes W v l) (hl : ∀ y, y ∈ l → 0 ≤ y ∧ y < 256) : Sem.run Try.prog (convert 31 9 v) W = .ok (.string (str l)) W := by
  rcases h with ⟨rfl, rfl⟩ | ⟨ad, c, rfl, h⟩
  · exact conv_nil W
  · exact conv_run rfl hl h
theorem i64_and16 (n : Int) : bits .and .i64 n 65535 = n % 65536 := by
  have h127 : (BitVec.ofInt 64 65535).toNat = 2 ^ 16 - 1 := by decide
  have key : (BitVec.ofInt 64 n &&& BitVec.ofInt 64 65535).toNat = (n % ((2 ^ 64 : Nat) : Int)).toNat % 2 ^ 16 := by
    rw [BitVec.toNat_and, BitVec.toNat_ofInt, h127, Nat.and_two_pow_sub_one_eq_mod]
  show IntKind.i64.wrap ((BitVec.ofInt 64 n &&& BitVec.ofInt 64 65535).toNat : Nat) = n % 65536
  rw [key, IntKind.wrap_i64]
  omega
theorem i64_and3 (n : Int) : bits .and .i64 n 7 = n % 8 := by
  have h127 : (BitVec.ofInt 64 7).toNat = 2 ^ 3 - 1 := by decide
  have key : (BitVec.ofInt 64 n &&& BitVec.ofInt 64 7).toNat = (n % ((2 ^ 64 : Nat) : Int)).toNat % 2 ^ 3 := by
    rw [BitVec.toNat_and, BitVec.toNat_ofInt, h127, Nat.and_two_pow_sub_one_eq_mod]
  show IntKind.i64.wrap ((BitVec.ofInt 64 n &&& BitVec.ofInt 64 7).toNat : Nat) = n % 8
  rw [key, IntKind.wrap_i64]
  omega
theorem num_append (l : List Int) (x : Int) : num (l ++ [x]) = num l * 256 + x := by
  unfold num
  rw [List.length_append, List.length_singleton, val]
  congr 1
  · congr 1
    have : ∀ k, k ≤ l.length → val (fun i => (l ++ [x]).getD i 0) k = val (fun i => l.getD i 0) k := by
      intro k
      induction k with
      | zero => intro _; rfl
      | succ k ih =>
        intro hk
        rw [val, val, ih (by omega)]
        congr 1
        simp [List.getD_eq_getElem?_getD, List.getElem?_append_left (show k < l.length by omega)]
    exact this _ (Nat.le_refl _)
  · simp [List.getD_eq_getElem?_getD]
theorem num_be (x : Int) : ∀ k, num (be k x) = x % 256 ^ k
  | 0 => by simp [be, num, val, Int.emod_one]
  | k + 1 => by
    rw [be, num_append, num_be (x / 256) k, Int.pow_succ]
    have hp : (0 : Int) < 256 ^ k := Int.pow_pos (by decide)
    have h1 := Int.mul_ediv_add_emod x 256
    have h2 := Int.mul_ediv_add_emod (x / 256) (256 ^ k)
    have r1 := Int.emod_nonneg (x / 256) (Int.ne_of_gt hp)
    have r2 := Int.emod_lt_of_pos (x / 256) hp
    have e : x = (x / 256 % 256 ^ k * 256 + x % 256) + (256 ^ k * 256) * (x / 256 / 256 ^ k) := by
      conv => lhs; rw [← h1, ← h2]
      rw [Int.mul_add, Int.mul_comm (256 ^ k) 256, Int.mul_assoc, Int.mul_comm (x / 256 % 256 ^ k) 256]
      omega
    have e2 : x % (256 ^ k * 256) = ((x / 256 % 256 ^ k * 256 + x % 256) + (256 ^ k * 256) * (x / 256 / 256 ^ k)) % (256 ^ k * 256) := congrArg (fun y => y % (256 ^ k * 256)) e
    rw [Int.add_mul_emod_self_left, Int.emod_eq_of_lt (a := x / 256 % 256 ^ k * 256 + x % 256) (by omega) (by omega)] at e2
    exact e2.symm
theorem got_front (a b : List Int) (n : Nat) (h : a.length = n) : got (a ++ b) n = a ∧ left (a ++ b) n = b ∧ ∀ sp, mars (a ++ b) sp n = sp := by
  have ok : okT (a ++ b) n = true := by simp [okT]; omega
  refine ⟨?_, ?_, fun sp => ?_⟩
  · unfold got
    rw [if_pos ok, Int.toNat_natCast, ← h, List.take_left]
  · unfold left
    rw [if_pos ok, Int.toNat_natCast, ← h, List.drop_left]
  · unfold mars
    rw [if_pos ok]
/-- The value is this one. -/
def IsV (u : Value) (v : Value) (W : World) : Prop := v = u
end Go.Proofs.Ythmpfdkbpdbhnaa.Wd
