/- What the functions of package pack hand back: the numbers and bytes that a Reader reads, a new Reader. -/
import Derived.Test.YthmpfdkbpdbhnaaPkA
import Derived.Lib.SliceRun
namespace Go.Proofs.Ythmpfdkbpdbhnaa.Wd
open Go.RowKit
set_option linter.unusedVariables false
set_option linter.unusedSimpArgs false
/-- The number that a list of bytes is. -/
def num (l : List Int) : Int := val (fun i => l.getD i 0) l.length
theorem getD_rng {l : List Int} (h : ∀ y, y ∈ l → 0 ≤ y ∧ y < 256) (i : Nat) (hi : i < l.length) : 0 ≤ l.getD i 0 ∧ l.getD i 0 < 256 := by
  rw [List.getD_eq_getElem?_getD, List.getElem?_eq_getElem hi]
  exact h _ (List.getElem_mem hi)
theorem num_rng {l : List Int} (h : ∀ y, y ∈ l → 0 ≤ y ∧ y < 256) : 0 ≤ num l ∧ num l < 256 ^ l.length :=
  val_lt _ l.length (fun i hi => getD_rng h i hi) _ (Nat.le_refl _)
theorem got_rng {l : List Int} (h : ∀ y, y ∈ l → 0 ≤ y ∧ y < 256) (n : Int) : ∀ y, y ∈ got l n → 0 ≤ y ∧ y < 256 := by
  intro y hy
  unfold got at hy
  split at hy
  · exact h y (List.mem_of_mem_take hy)
  · cases hy
theorem got_len (l : List Int) (n : Nat) : (got l n).length ≤ n := by
  unfold got
  split
  · simp; omega
  · simp
set_option maxHeartbeats 1000000 in
theorem number_any (g : Nat) (l : List Int) (sp : Bool) (n : Nat) (hn : n ≤ 8) (w : World) (h : Rd w g l sp) :
    Calls Try.prog 56 #[.pointer (some ⟨g, 0, none⟩), .int .i64 (n : Int)] w fun e w' => e = .returned (.int .u64 (num (got l n))) ∧ Rd w' g (left l n) (mars l sp n) ∧ But g w w' := by
  have hr := got_rng h.rng n
  have hlen := got_len l n
  have ct := take_any g l sp n (by omega) w h
  obtain ⟨L, eL⟩ : ∃ L, got l n = L := ⟨_, rfl⟩
  rw [eL] at ct hr hlen ⊢
  obtain ⟨m, em⟩ : ∃ m, L.length = m := ⟨_, rfl⟩
  have hm8 : m ≤ 8 := by omega
  obtain ⟨z, ez⟩ : ∃ z : Nat → Int, (fun i => L.getD i 0) = z := ⟨_, rfl⟩
  have enum : num L = val z m := by unfold num; rw [ez, em]
  have hz : ∀ i, i < m → 0 ≤ z i ∧ z i < 256 := fun i hi => by rw [← ez]; exact getD_rng hr i (by omega)
  rw [enum]
  go_enter Try.func56, Try.ntmps56
  go_wp2_with fail
  refine ct.mono ?_
  rintro e w1 ⟨v, rfl, hv, hR, hB⟩
  have HP : Hid (Rd w1 g (left l n) (mars l sp n) ∧ But g w w1) := ⟨hR, hB⟩
  have hc : ∃ p c, v = .slice p m c ∧ Hid (∀ j, j < m → ∃ q o, p = some ⟨q, o, none⟩ ∧ w1.cell? ⟨q, o + j, none⟩ = some (.int .u8 (z j))) := by
    rcases hv with ⟨rfl, e⟩ | ⟨q, o, c, rfl, _, _, _, hx⟩
    · subst e
      exact ⟨none, 0, by rw [← em]; rfl, fun j hj => by simp at em; omega⟩
    · refine ⟨_, c, by rw [em], fun j hj => ⟨q, o, rfl, ?_⟩⟩
      refine hx j _ ?_
      rw [← ez]
      show _ = some (L.getD j 0)
      rw [List.getD_eq_getElem?_getD, List.getElem?_eq_getElem (by omega)]
      rfl
  obtain ⟨p, c, rfl, hc⟩ := hc
  clear hR hB hv ct eL ez enum em hlen hr h
  have hlt := val_lt z m hz
  go_wp2_with fail
  go_loopg [5, 12] m (fun gg u v wr => ∃ (k : Nat) (x : Int), k ≤ m ∧ gg = m - k ∧ u = .int .u64 x ∧ v = .int .i64 (k : Int) ∧ Hid (x = val z k) ∧ wr = w1)
  case atStart => exact ⟨0, 0, by omega, by omega, rfl, rfl, rfl, rfl⟩
  case round =>
    obtain ⟨k, x, hk, hg, rfl, rfl, Hx, rfl⟩ := hrel
    by_cases hk8 : k < m
    · have hk' : (k : Int) < (m : Int) := by omega
      obtain ⟨q, o, rfl, hcell⟩ := hc.out k hk8
      obtain ⟨y, ey⟩ : ∃ y, z k = y := ⟨_, rfl⟩
      rw [ey] at hcell
      have hy := hz k hk8
      rw [ey] at hy
      have hm := hlt k hk
      have hp := pow7 k (by omega)
      have hm1 : 0 ≤ x ∧ x < 72057594037927936 := by have := Hx.out; omega
      have eo : bits .or .u64 (x * 256) y = x * 256 + y := by
        have := or_split x y 8 (by decide) hm1.1 (by simp; try omega) hy.1 (by simp; try omega)
        simpa using this
      have Hn : Hid (x * 256 + y = val z (k + 1)) := by show _ = _; rw [val, ← Hx.out, ey]
      clear hm hp hlt
      go_wp2
      go_roundg (m - (k + 1))
      case measure => omega
      case rel => exact ⟨k + 1, x * 256 + y, by omega, rfl, rfl, by first | rfl | simp, Hn, rfl⟩
    · obtain rfl : k = m := by omega
      have e := Hx.out
      subst e
      go_wp2
      go_ret
      exact ⟨rfl, HP.out⟩
theorem num_lt {l : List Int} (n : Nat) (h : ∀ y, y ∈ l → 0 ≤ y ∧ y < 256) (hn : l.length ≤ n) : 0 ≤ num l ∧ num l < 256 ^ n := by
  have h1 := num_rng h
  have h2 : (256 : Int) ^ l.length ≤ 256 ^ n := by
    have := Nat.pow_le_pow_right (n := 256) (by decide) hn
    have e : ((256 ^ l.length : Nat) : Int) ≤ ((256 ^ n : Nat) : Int) := by omega
    rw [Int.natCast_pow, Int.natCast_pow] at e
    exact e
  omega
set_option maxHeartbeats 1000000 in
theorem ru8_any (g : Nat) (l : List Int) (sp : Bool) (w : World) (h : Rd w g l sp) :
    Calls Try.prog 54 #[.pointer (some ⟨g, 0, none⟩)] w fun e w' => e = .returned (.int .i64 (num (got l 1))) ∧ Rd w' g (left l 1) (mars l sp 1) ∧ But g w w' := by
  have hb := num_lt 1 (got_rng h.rng 1) (got_len l 1)
  have c := number_any g l sp 1 (by omega) w h
  obtain ⟨x, ex⟩ : ∃ x, num (got l 1) = x := ⟨_, rfl⟩
  have e1 : ((1 : Nat) : Int) = 1 := rfl
  rw [e1] at c
  rw [ex] at c hb ⊢
  have hx : 0 ≤ x ∧ x < 256 := hb
  clear hb ex
  go_enter Try.func54, Try.ntmps54
  go_wp2_with fail
  refine c.mono ?_
  rintro e w1 ⟨rfl, hR, hB⟩
  go_wp2
  go_ret
  exact ⟨rfl, hR, hB⟩
set_option maxHeartbeats 1000000 in
theorem ru16_any (g : Nat) (l : List Int) (sp : Bool) (w : World) (h : Rd w g l sp) :
    Calls Try.prog 41 #[.pointer (some ⟨g, 0, none⟩)] w fun e w' => e = .returned (.int .i64 (num (got l 2))) ∧ Rd w' g (left l 2) (mars l sp 2) ∧ But g w w' := by
  have hb := num_lt 2 (got_rng h.rng 2) (got_len l 2)
  have c := number_any g l sp 2 (by omega) w h
  obtain ⟨x, ex⟩ : ∃ x, num (got l 2) = x := ⟨_, rfl⟩
  have e1 : ((2 : Nat) : Int) = 2 := rfl
  rw [e1] at c
  rw [ex] at c hb ⊢
  have hx : 0 ≤ x ∧ x < 65536 := hb
  clear hb ex
  go_enter Try.func41, Try.ntmps41
  go_wp2_with fail
  refine c.mono ?_
  rintro e w1 ⟨rfl, hR, hB⟩
  go_wp2
  go_ret
  exact ⟨rfl, hR, hB⟩
set_option maxHeartbeats 1000000 in
theorem ru32_any (g : Nat) (l : List Int) (sp : Bool) (w : World) (h : Rd w g l sp) :
    Calls Try.prog 55 #[.pointer (some ⟨g, 0, none⟩)] w fun e w' => e = .returned (.int .u32 (num (got l 4))) ∧ Rd w' g (left l 4) (mars l sp 4) ∧ But g w w' := by
  have hb := num_lt 4 (got_rng h.rng 4) (got_len l 4)
  have c := number_any g l sp 4 (by omega) w h
  obtain ⟨x, ex⟩ : ∃ x, num (got l 4) = x := ⟨_, rfl⟩
  have e1 : ((4 : Nat) : Int) = 4 := rfl
  rw [e1] at c
  rw [ex] at c hb ⊢
  have hx : 0 ≤ x ∧ x < 4294967296 := hb
  clear hb ex
  go_enter Try.func55, Try.ntmps55
  go_wp2_with fail
  refine c.mono ?_
  rintro e w1 ⟨rfl, hR, hB⟩
  go_wp2
  go_ret
  exact ⟨rfl, hR, hB⟩
set_option maxHeartbeats 1000000 in
theorem ru64_any (g : Nat) (l : List Int) (sp : Bool) (w : World) (h : Rd w g l sp) :
    Calls Try.prog 42 #[.pointer (some ⟨g, 0, none⟩)] w fun e w' => e = .returned (.int .u64 (num (got l 8))) ∧ Rd w' g (left l 8) (mars l sp 8) ∧ But g w w' := by
  have c := number_any g l sp 8 (by omega) w h
  obtain ⟨x, ex⟩ : ∃ x, num (got l 8) = x := ⟨_, rfl⟩
  have e1 : ((8 : Nat) : Int) = 8 := rfl
  rw [e1] at c
  rw [ex] at c ⊢
  clear ex
  go_enter Try.func42, Try.ntmps42
  go_wp2_with fail
  refine c.mono ?_
  rintro e w1 ⟨rfl, hR, hB⟩
  go_wp2
  go_ret
  exact ⟨rfl, hR, hB⟩
set_option maxHeartbeats 1000000 in
theorem clone_any (v : Value) (l : List Int) (hl : l.length ≤ 1073741824) (w : World) (hv : Bytes w v l) :
    Calls Try.prog 40 #[v] w fun e w' => ∃ v', e = .returned v' ∧ Own8 w' w.heap.size v' l ∧ Below w.heap.size w w' := by
  obtain ⟨i0, hi, hz0, hz1, hz2⟩ := info_parts info8
  have hnil := fun (w : World) a n c => Lib.run_eql_slice_nil (P := Try.prog) w 31 5 a n c 0 0 Try.underlying31
  rcases hv with ⟨rfl, rfl⟩ | ⟨ad, c, rfl, h⟩
  · go_enter Try.func40, Try.ntmps40
    go_wp2
    go_ret
    exact ⟨_, rfl, ⟨rfl, .inl ⟨rfl, rfl⟩⟩, Below.refl _ _⟩
  · have hc' : ∀ j u, (l.map (Value.int .u8))[j]? = some u → (w.alloc (.cells #[] 5)).cell? (ad.add j) = some u := by
      intro j u hu
      have h0 := h j u hu
      have hlt : (ad.add j).block < w.heap.size := by
        unfold World.cell? at h0
        by_cases c : (ad.add j).block < w.heap.size
        · exact c
        · rw [show w.heap[(ad.add j).block]? = none from by simp; omega] at h0
          simp at h0
      rw [((Below.refl w.heap.size w).alloc (Nat.le_refl _) _).cell (p := ad.add j) hlt]
      exact h0
    have H : Hid (∀ j u, (l.map (Value.int .u8))[j]? = some u → (w.alloc (.cells #[] 5)).cell? (ad.add j) = some u) := hc'
    obtain ⟨n, en⟩ : ∃ n, l.length = n := ⟨_, rfl⟩
    have hm : (l.map (Value.int .u8)).length = n * 1 := by simp [en]
    rw [en] at hl ⊢
    clear h hc'
    go_enter Try.func40, Try.ntmps40
    go_wp2_with (at_builtin; refine wpList_append_own _ rfl (.tmp 5) (.tmp 6) 31 rfl w.heap.size 5 i0 (.int .u8 0) 1 1 Try.underlying31 hi hz0 hz1 hz2 rfl (by decide) (.slice (some ⟨w.heap.size, 0, none⟩) 0 0) 0 [] rfl (own_new w) ad n c (l.map (Value.int .u8)) rfl hm H.out (one8 _) (by unfold maxLen; omega) (by omega) (by simp; try omega) ?_; intro v0 w0 hown0 hgrow0 hnil0; simp only [Nat.zero_add, List.nil_append] at hown0; have hB0 : Below w.heap.size w w0 := Below.grown (by go_grown) hgrow0 (by simp; try omega) (by intro k hk; simp [Value.ownBlock] at hk; omega); have hs0 := hB0.size)
    refine bodyPost_ret (v := v0) (by simp [results, Try.results40, go_sem]) rfl ⟨_, rfl, by unfold Own8; simpa [en] using hown0, hB0⟩
theorem got_len' (l : List Int) (n : Int) : (got l n).length ≤ l.length := by
  unfold got
  split
  · simp; omega
  · simp
set_option maxHeartbeats 1000000 in
theorem rbytes_any (g : Nat) (l : List Int) (hl : l.length ≤ 1073741824) (sp : Bool) (n : Int) (hn : -9223372036854775808 ≤ n ∧ n ≤ 9223372036854775807) (w : World) (h : Rd w g l sp) :
    Calls Try.prog 44 #[.pointer (some ⟨g, 0, none⟩), .int .i64 n] w fun e w' => ∃ v, e = .returned v ∧ Own8 w' w.heap.size v (got l n) ∧ Rd w' g (left l n) (mars l sp n) ∧ But g w w' := by
  have ct := take_any g l sp n hn w h
  have hlen := got_len' l n
  go_enter Try.func44, Try.ntmps44
  go_wp2_with fail
  refine ct.mono ?_
  rintro e w1 ⟨v, rfl, hv, hR, hB⟩
  go_wp2_with fail
  refine (clone_any v _ (by omega) _ hv.bytes).mono ?_
  rintro e w2 ⟨v2, rfl, ho, hb⟩
  have H : Hid (Own8 w2 w.heap.size v2 (got l n) ∧ Rd w2 g (left l n) (mars l sp n) ∧ But g w w2) := ⟨ho.low hB.size, hR.up hb, hB.trans (But.of hb)⟩
  clear ho hb hR hB hv ct
  go_wp2
  refine bodyPost_ret (v := v2) (by simp [results, Try.results44, go_sem]) rfl ⟨_, rfl, H.out⟩
theorem Rd.new {W : World} {B : Nat} {v : Value} {l : List Int} {t : TypeId} (h : Own8 W B v l) (hr : ∀ y, y ∈ l → 0 ≤ y ∧ y < 256) : Rd (W.alloc (.cells #[v, .bool false] t)) W.heap.size l false := by
  have e : (W.alloc (.cells #[v, .bool false] t)).heap[W.heap.size]? = some (.cells #[v, .bool false] t) := by
    show (W.heap.push _)[W.heap.size]? = _
    simp
  refine ⟨⟨v, by unfold World.cell?; simp only [e]; rfl, ?_⟩, by unfold World.cell?; simp only [e]; rfl, by unfold World.frozen?; simp only [e]; simp, by unfold World.frozen?; simp only [e]; simp, hr⟩
  have hb := (Below.refl W.heap.size W).alloc (Nat.le_refl _) (.cells #[v, .bool false] t)
  rcases h.2 with ⟨h1, h2⟩ | ⟨q, cap, cur, rfl, hB, hh, hcap, hm, hs, hx⟩
  · exact .inl ⟨h1, by simpa using h2⟩
  · have hq : q < W.heap.size := by
      rcases Nat.lt_or_ge q W.heap.size with c | c
      · exact c
      · rw [Array.getElem?_eq_none c] at hh; cases hh
    refine .inr ⟨q, 0, cap, rfl, by omega, hcap, by unfold maxLen at hm; omega, fun j x hj => keep hb ?_⟩
    have := World.ownsRow.cells h rfl j (.int .u8 x) (by rw [List.getElem?_map, hj]; rfl)
    rw [addr_add] at this
    exact this
set_option maxHeartbeats 1000000 in
theorem read_any (v : Value) (l : List Int) (hl : l.length ≤ 1073741824) (hr : ∀ y, y ∈ l → 0 ≤ y ∧ y < 256) (w : World) (hv : Bytes w v l) :
    Calls Try.prog 20 #[v] w fun e w' => ∃ g, e = .returned (.pointer (some ⟨g, 0, none⟩)) ∧ w.heap.size ≤ g ∧ Rd w' g l false ∧ Below w.heap.size w w' := by
  have c := clone_any v l hl w hv
  go_enter Try.func20, Try.ntmps20
  go_wp2_with fail
  refine c.mono ?_
  rintro e w1 ⟨v1, rfl, ho, hb⟩
  have H : Hid (Own8 w1 w.heap.size v1 l ∧ Below w.heap.size w w1) := ⟨ho, hb⟩
  obtain ⟨p, n, k, rfl⟩ : ∃ p n k, v1 = .slice p n k := by
    rcases ho.2 with ⟨h, _⟩ | ⟨q, cap, cur, h, _⟩
    · exact ⟨_, _, _, h⟩
    · exact ⟨_, _, _, h⟩
  clear ho hb c
  go_wp2
  refine bodyPost_ret (v := .pointer (some ⟨w1.heap.size, 0, none⟩)) (by simp [results, Try.results20, go_sem]) rfl ⟨_, rfl, H.out.2.size, ?_, H.out.2.alloc H.out.2.size _⟩
  exact Rd.new H.out.1 hr
end Go.Proofs.Ythmpfdkbpdbhnaa.Wd
