/- A message's Body as a Reader tells it, held against what stands there. -/
import Derived.Test.YthmpfdkbpdbhnaaMsM
import Derived.Test.YthmpfdkbpdbhnaaFrN
namespace Go.Proofs.Ythmpfdkbpdbhnaa.Wd
open Go.RowKit
set_option linter.unusedVariables false
set_option linter.unusedSimpArgs false
def gdN : Nat → List Int → List Int
  | 0, _ => []
  | n + 1, y => i64w (num (got y 8)) :: gdN n (left y 8)
def rsN : Nat → List Int → List Int
  | 0, y => y
  | n + 1, y => rsN n (left y 8)
def wOf (t : List Int) : Int := if t.length = 16 then hiW t * 18446744073709551616 + loW t else 0
def gdW : Nat → List Int → List Int
  | 0, _ => []
  | n + 1, y => wOf (got y 16) :: gdW n (left y 16)
def rsW : Nat → List Int → List Int
  | 0, y => y
  | n + 1, y => rsW n (left y 16)
theorem gdN_len : ∀ (n : Nat) (x : List Int), (gdN n x).length = n
  | 0, _ => rfl
  | n + 1, x => by rw [gdN, List.length_cons, gdN_len n]
theorem gdW_len : ∀ (n : Nat) (x : List Int), (gdW n x).length = n
  | 0, _ => rfl
  | n + 1, x => by rw [gdW, List.length_cons, gdW_len n]
theorem gdN_succ : ∀ (i : Nat) (x : List Int), gdN (i + 1) x = gdN i x ++ [i64w (num (got (rsN i x) 8))]
  | 0, x => rfl
  | i + 1, x => by
    have e : gdN (i + 1 + 1) x = i64w (num (got x 8)) :: gdN (i + 1) (left x 8) := rfl
    rw [e, gdN_succ i, gdN, rsN]
    rfl
theorem rsN_succ : ∀ (i : Nat) (x : List Int), rsN (i + 1) x = left (rsN i x) 8
  | 0, x => rfl
  | i + 1, x => by
    have e : rsN (i + 1 + 1) x = rsN (i + 1) (left x 8) := rfl
    rw [e, rsN_succ i, rsN]
theorem gdW_succ : ∀ (i : Nat) (x : List Int), gdW (i + 1) x = gdW i x ++ [wOf (got (rsW i x) 16)]
  | 0, x => rfl
  | i + 1, x => by
    have e : gdW (i + 1 + 1) x = wOf (got x 16) :: gdW (i + 1) (left x 16) := rfl
    rw [e, gdW_succ i, gdW, rsW]
    rfl
theorem rsW_succ : ∀ (i : Nat) (x : List Int), rsW (i + 1) x = left (rsW i x) 16
  | 0, x => rfl
  | i + 1, x => by
    have e : rsW (i + 1 + 1) x = rsW (i + 1) (left x 16) := rfl
    rw [e, rsW_succ i, rsW]
theorem rsN_by : ∀ (n : Nat) (x : List Int), By8 x → By8 (rsN n x)
  | 0, _, h => h
  | n + 1, x, h => rsN_by n _ (left_by h 8)
theorem rsW_by : ∀ (n : Nat) (x : List Int), By8 x → By8 (rsW n x)
  | 0, _, h => h
  | n + 1, x, h => rsW_by n _ (left_by h 16)
theorem rsN_le : ∀ (n : Nat) (x : List Int), (rsN n x).length ≤ x.length
  | 0, _ => Nat.le_refl _
  | n + 1, x => Nat.le_trans (rsN_le n _) (left_le x 8)
theorem rsW_le : ∀ (n : Nat) (x : List Int), (rsW n x).length ≤ x.length
  | 0, _ => Nat.le_refl _
  | n + 1, x => Nat.le_trans (rsW_le n _) (left_le x 16)
theorem gdN_in : ∀ (n : Nat) (x : List Int) (a : Int), a ∈ gdN n x → In64 a
  | n + 1, x, a, h => by
    rw [gdN, List.mem_cons] at h
    rcases h with rfl | h
    · exact i64w_in _
    · exact gdN_in n _ a h
theorem got_by {l : List Int} (h : By8 l) (n : Int) : By8 (got l n) := got_rng h n
theorem wOf_in {t : List Int} (h : By8 t) : In128 (wOf t) := by
  unfold wOf
  split
  · rename_i h16
    obtain ⟨h1, h2⟩ := w_rng t h (by omega)
    unfold In64 at h1
    unfold In128
    omega
  · decide
theorem gdW_in : ∀ (n : Nat) (x : List Int), By8 x → ∀ a, a ∈ gdW n x → In128 a
  | n + 1, x, hx, a, h => by
    rw [gdW, List.mem_cons] at h
    rcases h with rfl | h
    · exact wOf_in (got_by hx 16)
    · exact gdW_in n _ (left_by hx 16) a h
theorem gdN_is : ∀ (n : Nat) (x : List Int), 8 * n ≤ x.length → gdN n x = rdN n x ∧ rsN n x = x.drop (8 * n)
  | 0, x, _ => ⟨rfl, by simp [rsN]⟩
  | n + 1, x, h => by
    obtain ⟨e1, e2⟩ := got_in (l := x) 8 (by omega)
    obtain ⟨r1, r2⟩ := gdN_is n (x.drop 8) (by rw [List.length_drop]; omega)
    rw [show ((8 : Nat) : Int) = 8 from rfl] at e1 e2
    refine ⟨?_, ?_⟩
    · rw [gdN, rdN, e1, e2, r1]
    · rw [rsN, e2, r2, List.drop_drop, show 8 + 8 * n = 8 * (n + 1) by omega]
theorem wOf_take {x : List Int} (h : 16 ≤ x.length) : wOf (x.take 16) = hiW x * 18446744073709551616 + loW x := by
  unfold wOf
  rw [if_pos (by rw [List.length_take]; omega)]
  have a : hiW (x.take 16) = hiW x := by
    unfold hiW
    rw [List.take_take, Nat.min_eq_left (by omega)]
  have b : loW (x.take 16) = loW x := by
    unfold loW
    rw [List.drop_take, List.take_take, Nat.min_eq_left (by omega)]
  rw [a, b]
theorem gdW_is : ∀ (n : Nat) (x : List Int), 16 * n ≤ x.length → gdW n x = rdW n x ∧ rsW n x = x.drop (16 * n)
  | 0, x, _ => ⟨rfl, by simp [rsW]⟩
  | n + 1, x, h => by
    obtain ⟨e1, e2⟩ := got_in (l := x) 16 (by omega)
    obtain ⟨r1, r2⟩ := gdW_is n (x.drop 16) (by rw [List.length_drop]; omega)
    rw [show ((16 : Nat) : Int) = 16 from rfl] at e1 e2
    refine ⟨?_, ?_⟩
    · rw [gdW, rdW, e1, e2, r1, wOf_take (by omega)]
    · rw [rsW, e2, r2, List.drop_drop, show 16 + 16 * n = 16 * (n + 1) by omega]
/-- How many N, these, how many W, these, as they are read. -/
def hN (x : List Int) : Nat := (num (got x 2)).toNat
def hNs (x : List Int) : List Int := gdN (hN x) (left x 2)
def hR (x : List Int) : List Int := rsN (hN x) (left x 2)
def hW (x : List Int) : Nat := (num (got (hR x) 2)).toNat
def hWs (x : List Int) : List Int := gdW (hW x) (left (hR x) 2)
def hE (x : List Int) : List Int := rsW (hW x) (left (hR x) 2)
theorem h_is {x : List Int} (h : getB x) : hN x = nN x ∧ hNs x = parN x ∧ hW x = nW x ∧ hWs x = parW x ∧ hE x = [] := by
  obtain ⟨g1, g2, g3, g4, g5⟩ := h
  obtain ⟨e1, e2⟩ := got_in (l := x) 2 (by omega)
  rw [show ((2 : Nat) : Int) = 2 from rfl] at e1 e2
  have a : hN x = nN x := by unfold hN nN; rw [e1]
  obtain ⟨n1, n2⟩ := gdN_is (nN x) (x.drop 2) (by rw [List.length_drop]; omega)
  have hr : hR x = x.drop (2 + 8 * nN x) := by unfold hR; rw [a, e2, n2, List.drop_drop]
  obtain ⟨f1, f2⟩ := got_in (l := x.drop (2 + 8 * nN x)) 2 (by rw [List.length_drop]; omega)
  rw [show ((2 : Nat) : Int) = 2 from rfl] at f1 f2
  have b : hW x = nW x := by unfold hW nW; rw [hr, f1]
  obtain ⟨w1, w2⟩ := gdW_is (nW x) (x.drop (4 + 8 * nN x)) (by rw [List.length_drop]; omega)
  have hd : (x.drop (2 + 8 * nN x)).drop 2 = x.drop (4 + 8 * nN x) := by rw [List.drop_drop]; congr 1; omega
  refine ⟨a, ?_, b, ?_, ?_⟩
  · unfold hNs parN
    rw [a, e2, n1]
  · unfold hWs parW
    rw [b, hr, f2, hd, w1]
  · unfold hE
    rw [b, hr, f2, hd, w2, List.drop_drop]
    exact List.drop_of_length_le (by omega)
/-- What is read, written, is the bytes: just where they are a message. -/
theorem h_iff {l : List Int} (hd : decP l) (hb : By8 l) : (goodG (uK l) (uF l) (uT l) (hNs (uB l)).length (hWs (uB l)).length ∧ putG (uK l) (uF l) (uT l) (uV l) (uS l) (hNs (uB l)) (hWs (uB l)) = l) ↔ getP l := by
  obtain ⟨rv, rs, b8, _⟩ := u_rng hb hd.1
  constructor
  · rintro ⟨hg, he⟩
    have i1 : ∀ a, a ∈ hNs (uB l) → In64 a := fun a ha => gdN_in _ _ a ha
    have hrb : By8 (hR (uB l)) := rsN_by _ _ (left_by b8 2)
    have i2 : ∀ a, a ∈ hWs (uB l) → In128 a := fun a ha => gdW_in _ _ (left_by hrb 2) a ha
    have := (put_get hg rv rs i1 i2).2.1
    rw [he] at this
    exact this
  · intro h
    obtain ⟨_, h2, _, h4, _⟩ := h_is h.2
    have := get_put h hb
    rw [h2, h4]
    exact this
end Go.Proofs.Ythmpfdkbpdbhnaa.Wd
