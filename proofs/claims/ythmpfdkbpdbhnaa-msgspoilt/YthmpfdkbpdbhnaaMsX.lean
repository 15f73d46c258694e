/- A message's rows as a walk is told of them; what is read makes one. -/
import Derived.Test.YthmpfdkbpdbhnaaMsG
namespace Go.Proofs.Ythmpfdkbpdbhnaa.Wd
open Go.RowKit
set_option linter.unusedVariables false
set_option linter.unusedSimpArgs false
/-- The rows of a message: its numbers, its Wides. -/
structure MsgR (W : World) (pn : Option Addr) (n cn : Nat) (pv : Option Addr) (m cv : Nat) (N V : List Int) : Prop where
  nums : Nums .i64 W (.slice pn n cn) N
  nlen : N.length = n
  n64 : ∀ a, a ∈ N → In64 a
  wds : WdR W pv m V
  ncap : n ≤ cn
  vcap : m ≤ cv
  nmax : cn ≤ 9223372036854775807
  vmax : cv ≤ 9223372036854775807
theorem MsgR.up {W W' : World} {pn pv : Option Addr} {n cn m cv : Nat} {N V : List Int} (h : MsgR W pn n cn pv m cv N V) (hB : Below W.heap.size W W') : MsgR W' pn n cn pv m cv N V :=
  ⟨h.nums.up hB, h.nlen, h.n64, h.wds.up hB, h.ncap, h.vcap, h.nmax, h.vmax⟩
theorem MsgR.v128 {W : World} {pn pv : Option Addr} {n cn m cv : Nat} {N V : List Int} (h : MsgR W pn n cn pv m cv N V) : ∀ a, a ∈ V → In128 a := fun a ha => h.wds.2.1 a ha
theorem msgR_in {W : World} {pn pv : Option Addr} {n cn m cv : Nat} {z : Nat → Int} {V : List Int} (h : RowN .i64 W pn n cn z) (h2 : WdsN W pv m cv V) : MsgR W pn n cn pv m cv (nlst n z) V :=
  ⟨h.nums, nlst_len _ _, fun a ha => by
    have := h.wf a ha
    have := bounds_i64 this
    exact this, h2.2.2, h.1.1, h2.1, h.1.2.1, h2.2.1⟩
theorem msgR_own {W : World} {B : Nat} {vN vV : Value} {N V : List Int} (hN : OwnK .i64 2 W B vN N) (hV : OwnW W B vV V) (h64 : ∀ a, a ∈ N → In64 a) :
    ∃ pn cn pv cv, vN = .slice pn N.length cn ∧ vV = .slice pv V.length cv ∧ MsgR W pn N.length cn pv V.length cv N V := by
  have hn : ∃ pn cn, vN = .slice pn N.length cn ∧ N.length ≤ cn ∧ cn ≤ 9223372036854775807 := by
    rcases hN.2 with ⟨e, h0⟩ | ⟨g, cap, cur, e, _, _, h5, h6, _⟩
    · exact ⟨none, 0, by rw [e, h0], by omega, by omega⟩
    · exact ⟨_, _, e, h5, by unfold maxLen at h6; omega⟩
  have hv : ∃ pv cv, vV = .slice pv V.length cv ∧ V.length ≤ cv ∧ cv ≤ 9223372036854775807 := by
    rcases hV.2.2 with ⟨e, h0⟩ | ⟨g, cap, cur, e, _, _, h5, h6, _⟩
    · exact ⟨none, 0, by rw [e, h0], by omega, by omega⟩
    · exact ⟨_, _, e, h5, by unfold maxLen at h6; omega⟩
  obtain ⟨pn, cn, rfl, a1, a2⟩ := hn
  obtain ⟨pv, cv, rfl, b1, b2⟩ := hv
  obtain ⟨p', c', e, hw⟩ := hV.wdr
  cases e
  exact ⟨pn, cn, pv, cv, rfl, rfl, hN.nums, rfl, h64, hw, a1, b1, a2, b2⟩
theorem wdr_one (W : World) (hi lo : Int) (τ : TypeId) (h1 : In64 hi) (h2 : 0 ≤ lo ∧ lo < 18446744073709551616) : WdR (W.alloc (.cells #[.int .i64 hi, .int .u64 lo] τ)) (some ⟨W.heap.size, 0, none⟩) 1 [hi * 18446744073709551616 + lo] := by
  unfold In64 at h1
  have e : (W.alloc (.cells #[.int .i64 hi, .int .u64 lo] τ)).heap[W.heap.size]? = some (.cells #[.int .i64 hi, .int .u64 lo] τ (0, 0)) := by
    show (W.heap.push _)[W.heap.size]? = _
    simp
  refine ⟨rfl, fun y hy => ?_, fun i hi' => ?_⟩
  · simp only [List.mem_singleton] at hy
    subst hy
    unfold InW
    omega
  · obtain rfl : i = 0 := by omega
    refine ⟨_, _, rfl, ?_, ?_⟩
    · rw [show [hi * 18446744073709551616 + lo].getD 0 0 / 18446744073709551616 = hi by show (hi * 18446744073709551616 + lo) / _ = _; omega]
      unfold World.cell?
      simp only [e]
      rfl
    · rw [show [hi * 18446744073709551616 + lo].getD 0 0 % 18446744073709551616 = lo by show (hi * 18446744073709551616 + lo) % _ = _; omega]
      unfold World.cell?
      simp only [e]
      rfl
theorem qN_in (l : List Int) : ∀ a, a ∈ qN l → In64 a := fun a ha => by
  unfold qN at ha
  split at ha
  · exact rdN_in _ _ a ha
  · simp at ha
theorem qN_len (l : List Int) : (qN l).length ≤ 500 := by
  unfold qN
  split
  · rename_i h
    unfold parN
    rw [rdN_len]
    exact h.2.2.1
  · simp
theorem qW_len (l : List Int) : (qW l).length ≤ 500 := by
  unfold qW
  split
  · rename_i h
    unfold parW
    rw [rdW_len]
    exact h.2.2.2.2.1
  · simp
/-- What was put is read as it was. -/
theorem put_q {k f t v s : Int} {N V : List Int} (hg : goodG k f t N.length V.length) (hv : 0 ≤ v ∧ v < 4294967296) (hs : 0 ≤ s ∧ s < 4294967296) (h1 : ∀ a, a ∈ N → In64 a) (h2 : ∀ a, a ∈ V → In128 a) :
    getP (putG k f t v s N V) ∧ qI (putG k f t v s N V) (uK (putG k f t v s N V)) = k ∧ qI (putG k f t v s N V) (uF (putG k f t v s N V)) = f ∧ qI (putG k f t v s N V) (uT (putG k f t v s N V)) = t ∧ qI (putG k f t v s N V) (uV (putG k f t v s N V)) = v ∧ qI (putG k f t v s N V) (uS (putG k f t v s N V)) = s ∧ qN (putG k f t v s N V) = N ∧ qW (putG k f t v s N V) = V := by
  obtain ⟨_, g, a1, a2, a3, a4, a5, a6, a7⟩ := put_get hg hv hs h1 h2
  unfold qI qN qW
  simp only [if_pos g]
  exact ⟨g, a1, a2, a3, a4, a5, a6, a7⟩
theorem putG_le {k f t v s : Int} {N V : List Int} : (putG k f t v s N V).length ≤ 12023 := by
  by_cases hg : goodG k f t N.length V.length
  · rw [putG_len hg]
    obtain ⟨_, _, _, h4, h5⟩ := hg
    omega
  · unfold putG
    rw [if_neg hg]
    exact Nat.zero_le _
end Go.Proofs.Ythmpfdkbpdbhnaa.Wd
