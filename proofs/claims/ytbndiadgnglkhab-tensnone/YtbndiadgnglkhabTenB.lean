/- Tensors: what tens.Same and the reference's Alike hand back; the law's great and row. -/
import Derived.Test.YtbndiadgnglkhabTenA
namespace Go.Proofs.Ytbndiadgnglkhab.Wd
open Go.RowKit
set_option linter.unusedVariables false
set_option linter.unusedSimpArgs false
set_option maxHeartbeats 2000000 in
theorem tsame_any (s t s' t' : Value) (d x d' x' : List Int) (hd : d.length ≤ 9223372036854775807) (hx : x.length ≤ 9223372036854775807) (w : World) (hs : Nums .i64 w s d) (ht : Nums .i64 w t x) (hs' : Nums .i64 w s' d') (ht' : Nums .i64 w t' x') :
    Calls Try.prog 14 #[.agg #[s, t], .agg #[s', t']] w fun e w' => e = .returned (.bool (decide (d = d' ∧ x = x'))) ∧ Below w.heap.size w w' := by
  have c1 : ∀ W, Below w.heap.size w W → Calls Try.prog 24 #[s, s'] W fun e w' => e = .returned (.bool (decide (d = d'))) ∧ ∃ n, w' = W.drewN n := fun W hW => same_any s s' d d' hd W (hs.up hW) (hs'.up hW)
  have c2 : ∀ W, Below w.heap.size w W → Calls Try.prog 27 #[t, t'] W fun e w' => e = .returned (.bool (decide (x = x'))) ∧ ∃ n, w' = W.drewN n := fun W hW => equalF_any t t' x x' hx W (ht.up hW) (ht'.up hW)
  obtain ⟨p, n, c, rfl, HA⟩ := hs.lst
  obtain ⟨p2, n2, c2', rfl, HB⟩ := ht.lst
  obtain ⟨p3, n3, c3, rfl, HC⟩ := hs'.lst
  obtain ⟨p4, n4, c4, rfl, HD⟩ := ht'.lst
  clear hs ht hs' ht' hd hx HA HB HC HD
  by_cases hdd : d = d'
  · rw [decide_eq_true hdd] at c1
    have er : decide (d = d' ∧ x = x') = decide (x = x') := decide_eq_decide.2 ⟨fun h => h.2, fun h => ⟨hdd, h⟩⟩
    rw [er]
    obtain ⟨r, hr⟩ : ∃ r, decide (x = x') = r := ⟨_, rfl⟩
    rw [hr] at c2 ⊢
    clear er hr hdd
    go_enter Try.func14, Try.ntmps14
    go_wp2_with fail
    refine (c1 _ ?_).mono ?_
    · go_grown
    rintro e w1 ⟨rfl, m, rfl⟩
    go_wp2_with fail
    refine (c2 _ ?_).mono ?_
    · exact below_drew (by go_grown) m
    rintro e w1 ⟨rfl, m2, rfl⟩
    go_wp2
    go_ret
    refine ⟨rfl, ?_⟩
    first
    | (refine below_drew (below_drew ?_ _) _; go_grown; done)
    | (refine below_drew ?_ _; go_grown; done)
  · rw [decide_eq_false hdd] at c1
    rw [decide_eq_false (fun h : d = d' ∧ x = x' => hdd h.1)]
    clear c2 hdd
    go_enter Try.func14, Try.ntmps14
    go_wp2_with fail
    refine (c1 _ ?_).mono ?_
    · go_grown
    rintro e w1 ⟨rfl, m, rfl⟩
    go_wp2
    go_ret
    exact ⟨rfl, below_drew (by go_grown) m⟩
end Go.Proofs.Ytbndiadgnglkhab.Wd
