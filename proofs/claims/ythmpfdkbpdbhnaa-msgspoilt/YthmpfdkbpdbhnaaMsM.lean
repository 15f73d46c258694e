/- Messages: their bytes, and what is read out of bytes. -/
import Derived.Test.YthmpfdkbpdbhnaaFrM
namespace Go.Proofs.Ythmpfdkbpdbhnaa.Wd
open Go.RowKit
set_option linter.unusedVariables false
set_option linter.unusedSimpArgs false
def i64w (x : Int) : Int := (x + 9223372036854775808) % 18446744073709551616 - 9223372036854775808
abbrev In64 (x : Int) : Prop := -9223372036854775808 ≤ x ∧ x ≤ 9223372036854775807
abbrev In128 (x : Int) : Prop := -170141183460469231731687303715884105728 ≤ x ∧ x < 170141183460469231731687303715884105728
theorem i64w_in (x : Int) : In64 (i64w x) := by unfold i64w; omega
theorem i64w_mod {x : Int} (h : In64 x) : i64w (x % 18446744073709551616) = x := by unfold i64w; omega
abbrev goodG (k f t : Int) (n m : Nat) : Prop := (1 ≤ k ∧ k ≤ 20) ∧ (0 ≤ f ∧ f ≤ 15) ∧ (0 ≤ t ∧ t ≤ 15) ∧ n ≤ 500 ∧ m ≤ 500
def eN (N : List Int) : List Int := N.flatMap (be 8)
def eW (V : List Int) : List Int := V.flatMap (be 16)
def bodyG (N V : List Int) : List Int := be 2 (N.length : Int) ++ (eN N ++ (be 2 (V.length : Int) ++ eW V))
def putG (k f t v s : Int) (N V : List Int) : List Int := if goodG k f t N.length V.length then encF k f t v s (bodyG N V) else []
def hiW (y : List Int) : Int := i64w (num (y.take 8))
def loW (y : List Int) : Int := num ((y.drop 8).take 8)
def rdN : Nat → List Int → List Int
  | 0, _ => []
  | n + 1, x => i64w (num (x.take 8)) :: rdN n (x.drop 8)
def rdW : Nat → List Int → List Int
  | 0, _ => []
  | n + 1, x => (hiW x * 18446744073709551616 + loW x) :: rdW n (x.drop 16)
def nN (x : List Int) : Nat := (num (x.take 2)).toNat
def nW (x : List Int) : Nat := (num ((x.drop (2 + 8 * nN x)).take 2)).toNat
abbrev getB (x : List Int) : Prop := 4 ≤ x.length ∧ nN x ≤ 500 ∧ 4 + 8 * nN x ≤ x.length ∧ nW x ≤ 500 ∧ x.length = 4 + 8 * nN x + 16 * nW x
def parN (x : List Int) : List Int := rdN (nN x) (x.drop 2)
def parW (x : List Int) : List Int := rdW (nW x) (x.drop (4 + 8 * nN x))
abbrev getP (l : List Int) : Prop := decP l ∧ getB (uB l)
def qI (l : List Int) (x : Int) : Int := if getP l then x else 0
def qN (l : List Int) : List Int := if getP l then parN (uB l) else []
def qW (l : List Int) : List Int := if getP l then parW (uB l) else []
theorem eN_len : ∀ N : List Int, (eN N).length = 8 * N.length
  | [] => rfl
  | a :: N => by
    have := eN_len N
    unfold eN at this ⊢
    rw [List.flatMap_cons, List.length_append, be_len, this, List.length_cons]
    omega
theorem eW_len : ∀ N : List Int, (eW N).length = 16 * N.length
  | [] => rfl
  | a :: N => by
    have := eW_len N
    unfold eW at this ⊢
    rw [List.flatMap_cons, List.length_append, be_len, this, List.length_cons]
    omega
theorem eN_app (N : List Int) (a : Int) : eN (N ++ [a]) = eN N ++ be 8 a := by
  unfold eN
  rw [List.flatMap_append]
  simp
theorem eW_app (N : List Int) (a : Int) : eW (N ++ [a]) = eW N ++ be 16 a := by
  unfold eW
  rw [List.flatMap_append]
  simp
theorem take_next (N : List Int) (i : Nat) (h : i < N.length) : N.take (i + 1) = N.take i ++ [N.getD i 0] := by
  rw [List.take_add, List.drop_eq_getElem_cons h, List.take_succ_cons, List.take_zero, List.getD_eq_getElem?_getD, List.getElem?_eq_getElem h]
  rfl
theorem eN_by (N : List Int) : By8 (eN N) := fun y hy => by
  obtain ⟨a, _, h⟩ := List.mem_flatMap.1 hy
  exact by8_be 8 a y h
theorem eW_by (N : List Int) : By8 (eW N) := fun y hy => by
  obtain ⟨a, _, h⟩ := List.mem_flatMap.1 hy
  exact by8_be 16 a y h
theorem bodyG_len (N V : List Int) : (bodyG N V).length = 4 + 8 * N.length + 16 * V.length := by
  unfold bodyG
  rw [List.length_append, List.length_append, List.length_append, be_len, be_len, eN_len, eW_len]
  omega
theorem bodyG_by (N V : List Int) : By8 (bodyG N V) := (by8_be _ _).app ((eN_by _).app ((by8_be _ _).app (eW_by _)))
theorem goodG_F {k f t : Int} {N V : List Int} (h : goodG k f t N.length V.length) : goodF k f t (bodyG N V).length := by
  rw [bodyG_len]
  obtain ⟨h1, h2, h3, h4, h5⟩ := h
  exact ⟨h1, h2, h3, by omega⟩
theorem be_num (y : List Int) (h : By8 y) : be y.length (num y) = y := by
  unfold num
  rw [be_val _ _ (fun i hi => h _ (by rw [List.getD_eq_getElem?_getD, List.getElem?_eq_getElem hi]; exact List.getElem_mem hi))]
  refine List.ext_getElem (by simp) fun i h1 h2 => ?_
  simp [h2]
theorem num8 (a : Int) : num (be 8 a) = a % 18446744073709551616 := num_be a 8
theorem rdN_eN : ∀ (N r : List Int), (∀ a, a ∈ N → In64 a) → rdN N.length (eN N ++ r) = N
  | [], _, _ => rfl
  | a :: N, r, h => by
    have ih := rdN_eN N r fun b hb => h b (List.mem_cons_of_mem _ hb)
    unfold eN at ih ⊢
    rw [List.flatMap_cons, List.append_assoc, List.length_cons, rdN, List.take_left' (be_len 8 a), List.drop_left' (be_len 8 a), ih, num8, i64w_mod (h a List.mem_cons_self)]
theorem hiW_be {a : Int} (h : In128 a) (r : List Int) : hiW (be 16 a ++ r) * 18446744073709551616 + loW (be 16 a ++ r) = a := by
  unfold hiW loW
  rw [← be_88, List.append_assoc, List.take_left' (be_len 8 _), List.drop_left' (be_len 8 _), List.take_left' (be_len 8 _), num8, num8, i64w_mod (by unfold In128 at h; unfold In64; omega)]
  omega
theorem rdW_eW : ∀ (N r : List Int), (∀ a, a ∈ N → In128 a) → rdW N.length (eW N ++ r) = N
  | [], _, _ => rfl
  | a :: N, r, h => by
    have ih := rdW_eW N r fun b hb => h b (List.mem_cons_of_mem _ hb)
    unfold eW at ih ⊢
    rw [List.flatMap_cons, List.append_assoc, List.length_cons, rdW, hiW_be (h a List.mem_cons_self), List.drop_left' (be_len 16 a), ih]
theorem num_top {y : List Int} (n : Nat) (h : By8 y) (hl : y.length = n) : 0 ≤ num y ∧ num y < 256 ^ n := by
  have := num_rng h
  rw [hl] at this
  exact this
theorem be_i64w (y : List Int) (h : By8 y) (hl : y.length = 8) : be 8 (i64w (num y)) = y := by
  have e := be_num y h
  rw [hl] at e
  have := num_top 8 h hl
  rw [← be8_mod, show i64w (num y) % 18446744073709551616 = num y by unfold i64w; omega, e]
theorem eN_rdN : ∀ (n : Nat) (x : List Int), By8 x → 8 * n ≤ x.length → eN (rdN n x) = x.take (8 * n)
  | 0, x, _, _ => by simp [rdN, eN]
  | n + 1, x, h, hl => by
    have ih := eN_rdN n (x.drop 8) (h.drop _) (by rw [List.length_drop]; omega)
    unfold eN at ih ⊢
    rw [rdN, List.flatMap_cons, ih, be_i64w _ (h.take 8) (by rw [List.length_take]; omega), show 8 * (n + 1) = 8 + 8 * n by omega, List.take_add]
theorem w_rng (x : List Int) (h : By8 x) (hl : 16 ≤ x.length) : In64 (hiW x) ∧ (0 ≤ loW x ∧ loW x < 18446744073709551616) := by
  refine ⟨i64w_in _, ?_⟩
  exact num_top 8 ((h.drop 8).take 8) (by rw [List.length_take, List.length_drop]; omega)
theorem eW_one (x : List Int) (h : By8 x) (hl : 16 ≤ x.length) : be 16 (hiW x * 18446744073709551616 + loW x) = x.take 16 := by
  obtain ⟨h1, h2⟩ := w_rng x h hl
  rw [← be_88, show (hiW x * 18446744073709551616 + loW x) / 18446744073709551616 = hiW x by omega, ← be8_mod (hiW x * 18446744073709551616 + loW x), show (hiW x * 18446744073709551616 + loW x) % 18446744073709551616 = loW x by omega]
  unfold hiW loW
  rw [be_i64w _ (h.take 8) (by rw [List.length_take]; omega)]
  have e := be_num _ ((h.drop 8).take 8)
  rw [show ((x.drop 8).take 8).length = 8 by rw [List.length_take, List.length_drop]; omega] at e
  rw [e, show (16 : Nat) = 8 + 8 from rfl, List.take_add]
theorem eW_rdW : ∀ (n : Nat) (x : List Int), By8 x → 16 * n ≤ x.length → eW (rdW n x) = x.take (16 * n)
  | 0, x, _, _ => by simp [rdW, eW]
  | n + 1, x, h, hl => by
    have ih := eW_rdW n (x.drop 16) (h.drop _) (by rw [List.length_drop]; omega)
    unfold eW at ih ⊢
    rw [rdW, List.flatMap_cons, ih, eW_one x h (by omega), show 16 * (n + 1) = 16 + 16 * n by omega, List.take_add]
theorem rdN_len : ∀ (n : Nat) (x : List Int), (rdN n x).length = n
  | 0, _ => rfl
  | n + 1, x => by rw [rdN, List.length_cons, rdN_len n]
theorem rdW_len : ∀ (n : Nat) (x : List Int), (rdW n x).length = n
  | 0, _ => rfl
  | n + 1, x => by rw [rdW, List.length_cons, rdW_len n]
theorem rdN_in : ∀ (n : Nat) (x : List Int) (a : Int), a ∈ rdN n x → In64 a
  | n + 1, x, a, h => by
    rw [rdN, List.mem_cons] at h
    rcases h with rfl | h
    · exact i64w_in _
    · exact rdN_in n _ a h
theorem rdW_in : ∀ (n : Nat) (x : List Int), By8 x → 16 * n ≤ x.length → ∀ a, a ∈ rdW n x → In128 a
  | n + 1, x, hx, hl, a, h => by
    rw [rdW, List.mem_cons] at h
    rcases h with rfl | h
    · obtain ⟨h1, h2⟩ := w_rng x hx (by omega)
      unfold In64 at h1
      unfold In128
      omega
    · exact rdW_in n _ (hx.drop _) (by rw [List.length_drop]; omega) a h
theorem rdN_succ : ∀ (i : Nat) (x : List Int), rdN (i + 1) x = rdN i x ++ [i64w (num ((x.drop (8 * i)).take 8))]
  | 0, x => by simp [rdN]
  | i + 1, x => by
    have e : rdN (i + 1 + 1) x = i64w (num (x.take 8)) :: rdN (i + 1) (x.drop 8) := rfl
    rw [e, rdN_succ i, rdN, List.drop_drop, show 8 + 8 * i = 8 * (i + 1) by omega]
    rfl
theorem rdW_succ : ∀ (i : Nat) (x : List Int), rdW (i + 1) x = rdW i x ++ [hiW (x.drop (16 * i)) * 18446744073709551616 + loW (x.drop (16 * i))]
  | 0, x => by simp [rdW]
  | i + 1, x => by
    have e : rdW (i + 1 + 1) x = (hiW x * 18446744073709551616 + loW x) :: rdW (i + 1) (x.drop 16) := rfl
    rw [e, rdW_succ i, rdW, List.drop_drop, show 16 + 16 * i = 16 * (i + 1) by omega]
    rfl
theorem parse_body {N V : List Int} (hn : N.length ≤ 500) (hv : V.length ≤ 500) (h1 : ∀ a, a ∈ N → In64 a) (h2 : ∀ a, a ∈ V → In128 a) : getB (bodyG N V) ∧ parN (bodyG N V) = N ∧ parW (bodyG N V) = V := by
  have e1 : nN (bodyG N V) = N.length := by
    unfold nN bodyG
    rw [List.take_left' (be_len 2 _), num_be]
    omega
  have d : (bodyG N V).drop (2 + 8 * N.length) = be 2 (V.length : Int) ++ eW V := by
    unfold bodyG
    rw [← List.drop_drop, List.drop_left' (be_len 2 _), List.drop_left' (eN_len N)]
  have e2 : nW (bodyG N V) = V.length := by
    unfold nW
    rw [e1, d, List.take_left' (be_len 2 _), num_be]
    omega
  refine ⟨?_, ?_, ?_⟩
  · unfold getB
    rw [e1, e2, bodyG_len]
    omega
  · unfold parN
    rw [e1]
    unfold bodyG
    rw [List.drop_left' (be_len 2 _)]
    exact rdN_eN N _ h1
  · unfold parW
    rw [e1, e2, show 4 + 8 * N.length = 2 + 8 * N.length + 2 by omega, ← List.drop_drop, d, List.drop_left' (be_len 2 _)]
    have := rdW_eW V [] h2
    rw [List.append_nil] at this
    exact this
theorem two_num {y : List Int} (h : By8 y) (hl : y.length = 2) : be 2 (((num y).toNat : Nat) : Int) = y := by
  have := num_top 2 h hl
  have e := be_num y h
  rw [hl] at e
  rw [show (((num y).toNat : Nat) : Int) = num y by omega, e]
theorem body_parse {x : List Int} (h : By8 x) (hg : getB x) : bodyG (parN x) (parW x) = x ∧ (parN x).length = nN x ∧ (parW x).length = nW x := by
  obtain ⟨g1, g2, g3, g4, g5⟩ := hg
  refine ⟨?_, rdN_len _ _, rdW_len _ _⟩
  unfold bodyG
  rw [show (parN x).length = nN x from rdN_len _ _, show (parW x).length = nW x from rdW_len _ _]
  unfold parN parW
  rw [eN_rdN _ _ (h.drop _) (by rw [List.length_drop]; omega), eW_rdW _ _ (h.drop _) (by rw [List.length_drop]; omega)]
  have e1 : be 2 ((nN x : Nat) : Int) = x.take 2 := two_num (h.take 2) (by rw [List.length_take]; omega)
  have e2 : be 2 ((nW x : Nat) : Int) = (x.drop (2 + 8 * nN x)).take 2 := two_num ((h.drop _).take 2) (by rw [List.length_take, List.length_drop]; omega)
  rw [e1, e2, show (x.drop (4 + 8 * nN x)).take (16 * nW x) = x.drop (4 + 8 * nN x) from List.take_of_length_le (by rw [List.length_drop]; omega)]
  rw [show x.drop (4 + 8 * nN x) = (x.drop (2 + 8 * nN x)).drop 2 by rw [List.drop_drop]; congr 1; omega, List.take_append_drop, show x.drop (2 + 8 * nN x) = (x.drop 2).drop (8 * nN x) by rw [List.drop_drop], List.take_append_drop, List.take_append_drop]
theorem put_get {k f t v s : Int} {N V : List Int} (hg : goodG k f t N.length V.length) (hv : 0 ≤ v ∧ v < 4294967296) (hs : 0 ≤ s ∧ s < 4294967296) (h1 : ∀ a, a ∈ N → In64 a) (h2 : ∀ a, a ∈ V → In128 a) :
    putG k f t v s N V = encL k f t v s (bodyG N V) ∧ getP (putG k f t v s N V) ∧ uK (putG k f t v s N V) = k ∧ uF (putG k f t v s N V) = f ∧ uT (putG k f t v s N V) = t ∧ uV (putG k f t v s N V) = v ∧ uS (putG k f t v s N V) = s ∧ parN (uB (putG k f t v s N V)) = N ∧ parW (uB (putG k f t v s N V)) = V := by
  have e : putG k f t v s N V = encL k f t v s (bodyG N V) := by
    unfold putG encF
    rw [if_pos hg, if_pos (goodG_F hg)]
  obtain ⟨r1, r2, r3, r4, r5, r6⟩ := enc_read (k := k) (f := f) (t := t) (b := bodyG N V) hv hs
  obtain ⟨p1, p2, p3⟩ := parse_body hg.2.2.2.1 hg.2.2.2.2 h1 h2
  rw [e]
  refine ⟨rfl, ⟨enc_dec (goodG_F hg) hv hs, ?_⟩, r1, r2, r3, r4, r5, ?_, ?_⟩
  · rw [r6]
    exact p1
  · rw [r6]
    exact p2
  · rw [r6]
    exact p3
theorem get_put {l : List Int} (h : getP l) (hb : By8 l) : goodG (uK l) (uF l) (uT l) (parN (uB l)).length (parW (uB l)).length ∧ putG (uK l) (uF l) (uT l) (uV l) (uS l) (parN (uB l)) (parW (uB l)) = l := by
  obtain ⟨hd, hB⟩ := h
  obtain ⟨hg, he⟩ := decP_good hd
  obtain ⟨_, _, b8, _⟩ := u_rng hb hd.1
  obtain ⟨e1, e2, e3⟩ := body_parse b8 hB
  have hG : goodG (uK l) (uF l) (uT l) (parN (uB l)).length (parW (uB l)).length := by
    rw [e2, e3]
    exact ⟨hg.1, hg.2.1, hg.2.2.1, hB.2.1, hB.2.2.2.1⟩
  refine ⟨hG, ?_⟩
  unfold putG
  rw [if_pos hG, e1]
  exact hd.2
theorem putG_by {k f t v s : Int} {N V : List Int} : By8 (putG k f t v s N V) := by
  unfold putG
  split
  · exact encF_by (bodyG_by N V)
  · exact By8.nil
theorem putG_len {k f t v s : Int} {N V : List Int} (hg : goodG k f t N.length V.length) : (putG k f t v s N V).length = 23 + 8 * N.length + 16 * V.length := by
  unfold putG encF
  rw [if_pos hg, if_pos (goodG_F hg), encL_len, bodyG_len]
  omega
end Go.Proofs.Ythmpfdkbpdbhnaa.Wd
