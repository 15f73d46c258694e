/- What fix.Text hands back, for all numbers. -/
import Derived.Test.YtokjokgmmkancaaDoorFmt
import Derived.Test.YtokjokgmmkancaaDoorFacts
namespace Go.Proofs.YtokjokgmmkancaaDoor.Fx
open Go.RowKit Kn
set_option linter.unusedVariables false
theorem tab_below {w w' : World} (h : Hid (Tab w)) (hb : Below w.heap.size w w') : Hid (Tab w') := Lib.tabBelow_of_tabIs h.out w' hb
/-- The digits of a rest, ten of them. -/
def padI (n : Nat) : List UInt8 := Lib.repeatL [48] (10 - Lib.nDigits n) ++ Lib.decDigits n
/-- A number's rest in ten digits; its whole part. -/
def restI (x : Nat) : Nat := rq (x % 4294967296 * 10000000000) 4294967296
def wholeI (x : Nat) : Nat := x / 4294967296 + restI x / 10000000000
def signI (a : Int) : List UInt8 := if a < 0 then [45] else []
def textI (a : Int) : List UInt8 := signI a ++ Lib.decDigits (wholeI a.natAbs) ++ [46] ++ padI (restI a.natAbs % 10000000000)
theorem restI_le (x : Nat) : restI x ≤ 10000000000 := by
  unfold restI
  have h := rq_mono (x % 4294967296 * 10000000000) (10000000000 * 4294967296) 4294967296 (by omega) (by omega)
  rw [rq_mul _ _ (by omega)] at h
  exact h
theorem nDigits_le : ∀ (k n : Nat), n < 10 ^ (k + 1) → Lib.nDigits n ≤ k + 1
  | 0, n, h => by rw [Lib.nDigits_small (by simpa using h)]; omega
  | k + 1, n, h => by
    by_cases h10 : n < 10
    · rw [Lib.nDigits_small h10]; omega
    · rw [Lib.nDigits_big h10]
      have := nDigits_le k (n / 10) (by rw [Nat.pow_succ] at h; omega)
      omega
theorem rep_at (k : Int) (c : Nat) (r : ByteArray) (ek : k = (c : Int)) (hc : c ≤ 10) (er : r = ⟨(Lib.repeatL [48] c).toArray⟩) (w : World) :
    Calls Tryd.prog 51 #[.string ⟨#[48]⟩, .int .i64 k] w fun e w' => e = .returned (.string r) ∧ Below w.heap.size w w' := by
  subst ek er
  exact Tryd.strings_Repeat ⟨#[48]⟩ c w (by omega) (by show 1 * c ≤ _; omega)
theorem append_mk (a b : List UInt8) : (⟨a.toArray⟩ : ByteArray) ++ ⟨b.toArray⟩ = ⟨(a ++ b).toArray⟩ := by
  apply ByteArray.ext
  rw [ByteArray.data_append]
  simp
theorem padded_at (n : Int) (m : Nat) (t : ByteArray) (en : n = (m : Int)) (h : m < 10000000000) (et : t = ⟨(padI m).toArray⟩) (w : World) (htab : Hid (Tab w)) :
    Calls Tryd.prog 36 #[.int .u64 n] w fun e w' => e = .returned (.string t) ∧ Below w.heap.size w w' := by
  obtain ⟨s, es⟩ : ∃ s : ByteArray, s = ⟨(Lib.decDigits m).toArray⟩ := ⟨_, rfl⟩
  obtain ⟨r, er⟩ : ∃ r : ByteArray, r = ⟨(Lib.repeatL [48] (10 - Lib.nDigits m)).toArray⟩ := ⟨_, rfl⟩
  have hsz : s.size = Lib.nDigits m := by rw [es]; show (Lib.decDigits m).toArray.size = _; rw [List.size_toArray, Lib.decDigits_length]
  have hs : s.size ≤ 10 := by rw [hsz]; exact nDigits_le 9 m (by omega)
  have hr : r.size ≤ 10 := by rw [er]; show (Lib.repeatL [48] (10 - Lib.nDigits m)).toArray.size ≤ 10; rw [List.size_toArray, Lib.repeatL_length]; show (10 - Lib.nDigits m) * 1 ≤ 10; omega
  have Es : Hid (n = (m : Int) ∧ s = ⟨(Lib.decDigits m).toArray⟩ ∧ s.size = Lib.nDigits m ∧ r = ⟨(Lib.repeatL [48] (10 - Lib.nDigits m)).toArray⟩ ∧ r ++ s = t) := ⟨en, es, hsz, er, by rw [er, es, et, append_mk]; rfl⟩
  clear es hsz er en et
  go_enter Tryd.func36, Tryd.ntmps36
  go_wp2_with fail
  refine (fmt_any n m s Es.out.1 Es.out.2.1 (by omega) _ htab).mono ?_
  rintro e w1 ⟨rfl, hb1⟩
  go_wp2_with fail
  refine (rep_at _ (10 - Lib.nDigits m) r (by have := Es.out.2.2.1; omega) (by omega) Es.out.2.2.2.1 _).mono ?_
  rintro e w2 ⟨rfl, hb2⟩
  go_wp2
  go_ret
  exact ⟨ret_str Es.out.2.2.2.2, hb1.trans (hb2.mono hb1.size)⟩
theorem mul64_int (p hi lo : Int) (hp : 0 ≤ p ∧ p < 4294967296) (e1 : hi = p * 10000000000 / 18446744073709551616) (e2 : lo = p * 10000000000 % 18446744073709551616) (w : World) :
    Calls Tryd.prog 32 #[.int .u64 p, .int .u64 10000000000] w fun e w' => e = .returned (.tuple #[.int .u64 hi, .int .u64 lo]) ∧ w' = w := by
  obtain ⟨p, rfl⟩ := Int.eq_ofNat_of_zero_le hp.1
  obtain ⟨hi, rfl⟩ := Int.eq_ofNat_of_zero_le (show 0 ≤ hi by omega)
  obtain ⟨lo, rfl⟩ := Int.eq_ofNat_of_zero_le (show 0 ≤ lo by omega)
  exact mul64_at p 10000000000 hi lo (by omega) (by omega) (by omega) (by omega) w
theorem byParts_int (hi lo m : Int) (k : Nat) (h1 : 0 ≤ hi ∧ hi < 2147483648) (h2 : 0 ≤ lo ∧ lo < 18446744073709551616) (hk : hi * 18446744073709551616 + lo = (k : Int)) (hm : m = ((rq k 4294967296 : Nat) : Int)) (w : World) :
    Calls Tryd.prog 33 #[.int .u64 hi, .int .u64 lo] w fun e w' => e = .returned (.int .u64 m) ∧ w' = w := by
  obtain ⟨hi, rfl⟩ := Int.eq_ofNat_of_zero_le h1.1
  obtain ⟨lo, rfl⟩ := Int.eq_ofNat_of_zero_le h2.1
  obtain rfl : k = hi * 18446744073709551616 + lo := by omega
  subst hm
  exact byParts_any hi lo (by omega) (by omega) w
theorem sign_at (a : Int) (s : ByteArray) (es : s = ⟨(signI a).toArray⟩) (w : World) :
    Calls Tryd.prog 34 #[.int .i64 a] w fun e w' => e = .returned (.string s) ∧ w' = w := by
  have H : Hid (s = ⟨(signI a).toArray⟩) := es
  clear es
  by_cases h : a < 0
  all_goals
    go_enter Tryd.func34, Tryd.ntmps34
    go_wp2
    go_ret
    refine ⟨ret_str ?_, rfl⟩
    rw [H.out]
    simp [signI, h]
theorem text_at (a : Int) (t : ByteArray) (et : t = ⟨(textI a).toArray⟩) (ha : InR a) (w : World) (htab : Hid (Tab w)) :
    Calls Tryd.prog 16 #[.int .i64 a] w fun e w' => e = .returned (.string t) ∧ Below w.heap.size w w' := by
  obtain ⟨x, ex⟩ : ∃ x : Int, (a.natAbs : Int) = x := ⟨_, rfl⟩
  have hx : 0 ≤ x ∧ x ≤ 9223372036854775808 := by unfold InR at ha; omega
  obtain ⟨hi, ehi⟩ : ∃ y : Int, y = x % 4294967296 * 10000000000 / 18446744073709551616 := ⟨_, rfl⟩
  obtain ⟨lo, elo⟩ : ∃ y : Int, y = x % 4294967296 * 10000000000 % 18446744073709551616 := ⟨_, rfl⟩
  obtain ⟨m, em⟩ : ∃ y : Int, y = ((restI a.natAbs : Nat) : Int) := ⟨_, rfl⟩
  have hm := restI_le a.natAbs
  have hm' : 0 ≤ m ∧ m ≤ 10000000000 := by omega
  have hhi : 0 ≤ hi ∧ hi < 2147483648 := by omega
  have hlo : 0 ≤ lo ∧ lo < 18446744073709551616 := by omega
  obtain ⟨s1, es1⟩ : ∃ s : ByteArray, s = ⟨(signI a).toArray⟩ := ⟨_, rfl⟩
  obtain ⟨s2, es2⟩ : ∃ s : ByteArray, s = ⟨(Lib.decDigits (wholeI a.natAbs)).toArray⟩ := ⟨_, rfl⟩
  obtain ⟨s3, es3⟩ : ∃ s : ByteArray, s = ⟨(padI (restI a.natAbs % 10000000000)).toArray⟩ := ⟨_, rfl⟩
  have hk : hi * 18446744073709551616 + lo = ((a.natAbs % 4294967296 * 10000000000 : Nat) : Int) := by omega
  have hw : x / 4294967296 + m / 10000000000 = ((wholeI a.natAbs : Nat) : Int) := by unfold wholeI; omega
  have hr : m % 10000000000 = ((restI a.natAbs % 10000000000 : Nat) : Int) := by omega
  have ht : s1 ++ s2 ++ ⟨#[46]⟩ ++ s3 = t := by
    rw [es1, es2, es3, et, append_mk, show (⟨#[46]⟩ : ByteArray) = ⟨([46] : List UInt8).toArray⟩ from rfl, append_mk, append_mk]
    rfl
  have z1 : s1.size ≤ 1 := by rw [es1]; show (signI a).toArray.size ≤ 1; unfold signI; split <;> simp
  have z2 : s2.size ≤ 20 := by rw [es2]; show (Lib.decDigits (wholeI a.natAbs)).toArray.size ≤ 20; rw [List.size_toArray, Lib.decDigits_length]; exact nDigits_le 19 _ (by omega)
  have z3 : s3.size ≤ 20 := by
    rw [es3]; show (padI (restI a.natAbs % 10000000000)).toArray.size ≤ 20
    have := nDigits_le 9 (restI a.natAbs % 10000000000) (by omega)
    unfold padI
    rw [List.size_toArray, List.length_append, Lib.decDigits_length, Lib.repeatL_length]
    show (10 - _) * 1 + _ ≤ 20
    omega
  have hmk : bits .and .u64 x 4294967295 = x % 4294967296 := maskI x (by omega) (by omega)
  have E : Hid ((a.natAbs : Int) = x ∧ hi = x % 4294967296 * 10000000000 / 18446744073709551616 ∧ lo = x % 4294967296 * 10000000000 % 18446744073709551616 ∧ m = ((restI a.natAbs : Nat) : Int) ∧ s1 = ⟨(signI a).toArray⟩ ∧ s2 = ⟨(Lib.decDigits (wholeI a.natAbs)).toArray⟩ ∧ s3 = ⟨(padI (restI a.natAbs % 10000000000)).toArray⟩ ∧ hi * 18446744073709551616 + lo = ((a.natAbs % 4294967296 * 10000000000 : Nat) : Int) ∧ x / 4294967296 + m / 10000000000 = ((wholeI a.natAbs : Nat) : Int) ∧ m % 10000000000 = ((restI a.natAbs % 10000000000 : Nat) : Int) ∧ s1 ++ s2 ++ ⟨#[46]⟩ ++ s3 = t) :=
    ⟨ex, ehi, elo, em, es1, es2, es3, hk, hw, hr, ht⟩
  have hwl : wholeI a.natAbs < 18446744073709551616 := by omega
  clear ex ehi elo em es1 es2 es3 hk hw hr ht et hm
  go_enter Tryd.func16, Tryd.ntmps16
  go_wp2_with fail
  refine (size_int a x ha E.out.1 _).mono ?_
  rintro e w' ⟨rfl, rfl⟩
  go_wp2_with fail
  refine (mul64_int (x % 4294967296) hi lo (by omega) E.out.2.1 E.out.2.2.1 _).mono ?_
  rintro e w' ⟨rfl, rfl⟩
  go_wp2_with fail
  refine (byParts_int hi lo m _ hhi hlo E.out.2.2.2.2.2.2.2.1 E.out.2.2.2.1 _).mono ?_
  rintro e w' ⟨rfl, rfl⟩
  go_wp2_with fail
  refine (sign_at a s1 E.out.2.2.2.2.1 _).mono ?_
  rintro e w' ⟨rfl, rfl⟩
  go_wp2_with fail
  refine (fmt_any _ _ s2 E.out.2.2.2.2.2.2.2.2.1 E.out.2.2.2.2.2.1 hwl _ htab).mono ?_
  rintro e w1 ⟨rfl, hb1⟩
  go_wp2_with fail
  refine (padded_at _ _ s3 E.out.2.2.2.2.2.2.2.2.2.1 (by omega) E.out.2.2.2.2.2.2.1 _ (tab_below htab hb1)).mono ?_
  rintro e w2 ⟨rfl, hb2⟩
  go_wp2
  go_ret
  exact ⟨ret_str E.out.2.2.2.2.2.2.2.2.2.2, hb1.trans (hb2.mono hb1.size)⟩
end Go.Proofs.YtokjokgmmkancaaDoor.Fx
