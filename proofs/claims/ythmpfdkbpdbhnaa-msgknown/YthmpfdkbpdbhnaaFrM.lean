/- Frames: their bytes, and what is read out of bytes; a byte that is changed, a frame that is cut or that more stands behind. -/
import Derived.Test.YthmpfdkbpdbhnaaCrcB
namespace Go.Proofs.Ythmpfdkbpdbhnaa.Wd
open Go.RowKit
set_option linter.unusedVariables false
set_option linter.unusedSimpArgs false
abbrev goodF (k f t : Int) (n : Nat) : Prop := (1 ≤ k ∧ k ≤ 20) ∧ (0 ≤ f ∧ f ≤ 15) ∧ (0 ≤ t ∧ t ≤ 15) ∧ n ≤ 16384
def hF (k f t v s : Int) (b : List Int) : List Int := [82, 1, k, f, t] ++ (be 4 v ++ (be 4 s ++ (be 2 (b.length : Int) ++ b)))
def crcI (l : List Int) : Int := ((ofN (nats l) : Nat) : Int)
def encL (k f t v s : Int) (b : List Int) : List Int := hF k f t v s b ++ be 4 (crcI (hF k f t v s b))
def encF (k f t v s : Int) (b : List Int) : List Int := if goodF k f t b.length then encL k f t v s b else []
abbrev By8 (l : List Int) : Prop := ∀ y, y ∈ l → 0 ≤ y ∧ y < 256
theorem By8.app {a b : List Int} (h : By8 a) (h2 : By8 b) : By8 (a ++ b) := fun y hy => (List.mem_append.1 hy).elim (h y) (h2 y)
theorem By8.take {a : List Int} (h : By8 a) (n : Nat) : By8 (a.take n) := fun y hy => h y (List.mem_of_mem_take hy)
theorem By8.drop {a : List Int} (h : By8 a) (n : Nat) : By8 (a.drop n) := fun y hy => h y (List.mem_of_mem_drop hy)
theorem By8.nil : By8 [] := fun y h => by simp at h
theorem by8_be (k : Nat) (x : Int) : By8 (be k x) := be_rng k x
theorem hF_len (k f t v s : Int) (b : List Int) : (hF k f t v s b).length = 15 + b.length := by
  simp [hF, be_len]
  omega
theorem encL_len (k f t v s : Int) (b : List Int) : (encL k f t v s b).length = 19 + b.length := by
  rw [encL, List.length_append, hF_len, be_len]
  omega
theorem hF_by {k f t v s : Int} {b : List Int} (hk : 0 ≤ k ∧ k < 256) (hf : 0 ≤ f ∧ f < 256) (ht : 0 ≤ t ∧ t < 256) (hb : By8 b) : By8 (hF k f t v s b) := by
  refine By8.app ?_ ((by8_be _ _).app ((by8_be _ _).app ((by8_be _ _).app hb)))
  intro y hy
  simp only [List.mem_cons, List.not_mem_nil, or_false] at hy
  rcases hy with rfl | rfl | rfl | rfl | rfl <;> omega
theorem good_by {k f t : Int} {n : Nat} (h : goodF k f t n) : (0 ≤ k ∧ k < 256) ∧ (0 ≤ f ∧ f < 256) ∧ (0 ≤ t ∧ t < 256) := by omega
theorem encF_by {k f t v s : Int} {b : List Int} (hb : By8 b) : By8 (encF k f t v s b) := by
  unfold encF
  split
  · rename_i h
    obtain ⟨h1, h2, h3⟩ := good_by h
    exact (hF_by h1 h2 h3 hb).app (by8_be _ _)
  · exact By8.nil
/-- What is read. -/
def uK (l : List Int) : Int := l.getD 2 0
def uF (l : List Int) : Int := l.getD 3 0
def uT (l : List Int) : Int := l.getD 4 0
def uV (l : List Int) : Int := num ((l.drop 5).take 4)
def uS (l : List Int) : Int := num ((l.drop 9).take 4)
def uB (l : List Int) : List Int := (l.drop 15).take (l.length - 19)
abbrev decP (l : List Int) : Prop := 19 ≤ l.length ∧ encF (uK l) (uF l) (uT l) (uV l) (uS l) (uB l) = l
theorem decP_good {l : List Int} (h : decP l) : goodF (uK l) (uF l) (uT l) (uB l).length ∧ encL (uK l) (uF l) (uT l) (uV l) (uS l) (uB l) = l := by
  obtain ⟨h1, h2⟩ := h
  unfold encF at h2
  split at h2
  · rename_i hg
    exact ⟨hg, h2⟩
  · rw [← h2] at h1
    simp at h1
theorem uB_len {l : List Int} (h : 19 ≤ l.length) : (uB l).length = l.length - 19 := by
  unfold uB
  rw [List.length_take, List.length_drop]
  omega
theorem num_four {l : List Int} (h : By8 l) (hl : l.length = 4) : 0 ≤ num l ∧ num l < 4294967296 := by
  have := num_rng h
  rw [hl] at this
  simpa using this
theorem u_rng {l : List Int} (h : By8 l) (hl : 19 ≤ l.length) : (0 ≤ uV l ∧ uV l < 4294967296) ∧ (0 ≤ uS l ∧ uS l < 4294967296) ∧ By8 (uB l) ∧ (0 ≤ uK l ∧ uK l < 256) ∧ (0 ≤ uF l ∧ uF l < 256) ∧ (0 ≤ uT l ∧ uT l < 256) := by
  have g : ∀ i, i < l.length → 0 ≤ l.getD i 0 ∧ l.getD i 0 < 256 := fun i hi => h _ (by rw [List.getD_eq_getElem?_getD, List.getElem?_eq_getElem hi]; exact List.getElem_mem hi)
  refine ⟨?_, ?_, (h.drop _).take _, g _ (by omega), g _ (by omega), g _ (by omega)⟩
  · exact num_four ((h.drop 5).take 4) (by rw [List.length_take, List.length_drop]; omega)
  · exact num_four ((h.drop 9).take 4) (by rw [List.length_take, List.length_drop]; omega)
/-- A frame's bytes are read as the frame. -/
theorem enc_read {k f t v s : Int} {b : List Int} (hv : 0 ≤ v ∧ v < 4294967296) (hs : 0 ≤ s ∧ s < 4294967296) : uK (encL k f t v s b) = k ∧ uF (encL k f t v s b) = f ∧ uT (encL k f t v s b) = t ∧ uV (encL k f t v s b) = v ∧ uS (encL k f t v s b) = s ∧ uB (encL k f t v s b) = b := by
  have e : ∃ c, c.length = 4 ∧ encL k f t v s b = 82 :: 1 :: k :: f :: t :: (be 4 v ++ (be 4 s ++ (be 2 (b.length : Int) ++ (b ++ c)))) := ⟨be 4 (crcI (hF k f t v s b)), be_len _ _, by simp [encL, hF]⟩
  obtain ⟨c, hc, e⟩ := e
  have hl := encL_len k f t v s b
  have d9 : ∀ x, (be 4 v ++ x).drop 4 = x := fun x => List.drop_left' (be_len _ _)
  have d4 : ∀ x, (be 4 s ++ x).drop 4 = x := fun x => List.drop_left' (be_len _ _)
  have d2 : ∀ x, (be 2 (b.length : Int) ++ x).drop 2 = x := fun x => List.drop_left' (be_len _ _)
  have dr : ∀ (n : Nat) (x : List Int), (82 :: 1 :: k :: f :: t :: x).drop (5 + n) = x.drop n := fun n x => by
    rw [Nat.add_comm]; rfl
  refine ⟨by rw [e]; rfl, by rw [e]; rfl, by rw [e]; rfl, ?_, ?_, ?_⟩
  · unfold uV
    rw [e, show (5 : Nat) = 5 + 0 from rfl, dr, List.drop_zero, List.take_left' (be_len _ _), num_be]
    simp
    omega
  · unfold uS
    rw [e, show (9 : Nat) = 5 + 4 from rfl, dr, d9, List.take_left' (be_len _ _), num_be]
    simp
    omega
  · unfold uB
    rw [hl, e, show (15 : Nat) = 5 + (4 + (4 + 2)) from rfl, dr, ← List.drop_drop, d9, ← List.drop_drop, d4, d2, Nat.add_sub_cancel_left, List.take_left' rfl]
theorem enc_dec {k f t v s : Int} {b : List Int} (hg : goodF k f t b.length) (hv : 0 ≤ v ∧ v < 4294967296) (hs : 0 ≤ s ∧ s < 4294967296) : decP (encL k f t v s b) := by
  obtain ⟨h1, h2, h3, h4, h5, h6⟩ := enc_read (k := k) (f := f) (t := t) (b := b) hv hs
  refine ⟨by rw [encL_len]; omega, ?_⟩
  rw [h1, h2, h3, h4, h5, h6]
  exact if_pos hg
theorem not_dec_nil : ¬ decP [] := fun h => absurd h.1 (by decide)
/-- How long a frame is stands in it. -/
theorem dec_size {l : List Int} (h : decP l) : num ((l.drop 13).take 2) = (l.length : Int) - 19 := by
  obtain ⟨hg, e⟩ := decP_good h
  have hb := uB_len h.1
  have key : (l.drop 13).take 2 = be 2 ((uB l).length : Int) := by
    conv => lhs; rw [← e]
    have e2 : encL (uK l) (uF l) (uT l) (uV l) (uS l) (uB l) = 82 :: 1 :: uK l :: uF l :: uT l :: (be 4 (uV l) ++ (be 4 (uS l) ++ (be 2 ((uB l).length : Int) ++ (uB l ++ be 4 (crcI (hF (uK l) (uF l) (uT l) (uV l) (uS l) (uB l))))))) := by simp [encL, hF]
    have dr : ∀ (n : Nat) (a b c d f : Int) (x : List Int), (a :: b :: c :: d :: f :: x).drop (5 + n) = x.drop n := fun n _ _ _ _ _ x => by
      rw [Nat.add_comm]; rfl
    rw [e2, show (13 : Nat) = 5 + (4 + 4) from rfl, dr, ← List.drop_drop, List.drop_left' (be_len _ _), List.drop_left' (be_len _ _), List.take_left' (be_len _ _)]
  rw [key, num_be, hb]
  have := hg.2.2.2
  have h1 := h.1
  omega
theorem cut_none {l : List Int} {c : Nat} (h : decP l) (hc : c < l.length) : ¬ decP (l.take c) := fun h2 => by
  have h3 : 19 ≤ (l.take c).length := h2.1
  rw [List.length_take] at h3
  have e1 := dec_size h
  have e2 := dec_size h2
  rw [List.length_take, Nat.min_eq_left (by omega)] at e2
  have : ((l.take c).drop 13).take 2 = (l.drop 13).take 2 := by
    rw [List.drop_take, List.take_take, Nat.min_eq_left (by omega)]
  rw [this, e1] at e2
  omega
theorem more_none {l m : List Int} (h : decP l) (hm : 1 ≤ m.length) : ¬ decP (l ++ m) := fun h2 => by
  have e1 := dec_size h
  have e2 := dec_size h2
  have h1 := h.1
  have : ((l ++ m).drop 13).take 2 = (l.drop 13).take 2 := by
    rw [List.drop_append_of_le_length (by omega), List.take_append_of_le_length (by rw [List.length_drop]; omega)]
  rw [this, e1, List.length_append] at e2
  omega
/-- Its last four bytes are the sum of those ahead. -/
theorem dec_crc {l : List Int} (h : decP l) : l.drop (l.length - 4) = be 4 (crcI (l.take (l.length - 4))) := by
  obtain ⟨hg, e⟩ := decP_good h
  obtain ⟨H, eH⟩ : ∃ H, hF (uK l) (uF l) (uT l) (uV l) (uS l) (uB l) = H := ⟨_, rfl⟩
  rw [encL, eH] at e
  have hl : l.length - 4 = H.length := by rw [← e, List.length_append, be_len]; omega
  rw [hl]
  conv => lhs; rw [← e]
  conv => rhs; rw [← e]
  rw [List.drop_left' rfl, List.take_left' rfl]
theorem crc_lt (l : List Int) (h : By8 l) : ofN (nats l) < 4294967296 := by
  unfold ofN moreN
  refine xor_lt (by omega) (runN_lt _ (xor_lt (by omega) (by omega)) fun b hb => ?_)
  obtain ⟨y, hy, rfl⟩ := List.mem_map.1 hb
  have := h y hy
  omega
/-- One byte that is changed changes the sum. -/
theorem crc_one (p r : List Int) (x y : Int) (hp : By8 p) (hx : 0 ≤ x ∧ x < 256) (hy : 0 ≤ y ∧ y < 256) (h : ofN (nats (p ++ x :: r)) = ofN (nats (p ++ y :: r))) : x = y := by
  unfold ofN moreN nats at h
  simp only [List.map_append, List.map_cons] at h
  obtain ⟨P, eP⟩ : ∃ P, p.map Int.toNat = P := ⟨_, rfl⟩
  obtain ⟨R, eR⟩ : ∃ R, r.map Int.toNat = R := ⟨_, rfl⟩
  rw [eP, eR] at h
  have e := congrArg (fun m => 4294967295 ^^^ m) h
  simp only [← Nat.xor_assoc, Nat.xor_self, Nat.zero_xor] at e
  rw [runN_append, runN_append] at e
  have hs : runN (4294967295 ^^^ 0) P < 4294967296 := runN_lt _ (by decide) fun b hb => by
    rw [← eP] at hb
    obtain ⟨y, hy, rfl⟩ := List.mem_map.1 hb
    have := hp y hy
    omega
  obtain ⟨s, es⟩ : ∃ s, runN (4294967295 ^^^ 0) P = s := ⟨_, rfl⟩
  rw [es] at e hs
  have e : runN (byteN s x.toNat) R = runN (byteN s y.toNat) R := e
  have zz : ∀ q : List Nat, List.zipWith (· ^^^ ·) q q = List.replicate q.length 0 := by
    intro q
    induction q with
    | nil => rfl
    | cons a q ih => rw [List.zipWith_cons_cons, ih, Nat.xor_self]; rfl
  have key := runN_xor R R (byteN s x.toNat) (byteN s y.toNat) rfl
  rw [e, Nat.xor_self, zz] at key
  have hx1 := byteN_lt hs (b := x.toNat) (by omega)
  have hy1 := byteN_lt hs (b := y.toNat) (by omega)
  have k2 := runN_zero _ _ (xor_lt hx1 hy1) key
  unfold byteN at k2
  rw [← tk_xor] at k2
  have hx2 : s ^^^ x.toNat < 4294967296 := xor_lt hs (by omega)
  have hy2 : s ^^^ y.toNat < 4294967296 := xor_lt hs (by omega)
  have k3 := xor_zero_eq (tk_zero 8 (xor_lt hx2 hy2) k2)
  have k4 := congrArg (fun m => s ^^^ m) k3
  simp only [← Nat.xor_assoc, Nat.xor_self, Nat.zero_xor] at k4
  omega
theorem be4_inj {x y : Nat} (hx : x < 4294967296) (hy : y < 4294967296) (h : be 4 (x : Int) = be 4 (y : Int)) : x = y := by
  have e := congrArg num h
  rw [num_be, num_be] at e
  simp at e
  omega
theorem set_none {l : List Int} {i : Nat} {y : Int} (h : decP l) (hb : By8 l) (hi : i < l.length) (hy : 0 ≤ y ∧ y < 256) (hne : y ≠ l.getD i 0) : ¬ decP (l.set i y) := fun h2 => by
  have h19 := h.1
  have e1 := dec_crc h
  have e2 := dec_crc h2
  rw [List.length_set] at e2
  have hli : l.getD i 0 = l[i] := by rw [List.getD_eq_getElem?_getD, List.getElem?_eq_getElem hi]; rfl
  by_cases c : i < l.length - 4
  · have d1 : (l.set i y).drop (l.length - 4) = l.drop (l.length - 4) := List.drop_set_of_lt c
    rw [d1, e1, List.take_set] at e2
    obtain ⟨H, eH⟩ : ∃ H, l.take (l.length - 4) = H := ⟨_, rfl⟩
    have hH : By8 H := by rw [← eH]; exact hb.take _
    have hHl : i < H.length := by rw [← eH, List.length_take]; omega
    have hHi : H[i] = l[i] := by simp only [← eH]; exact List.getElem_take
    rw [eH] at e2
    have hs : H.set i y = H.take i ++ y :: H.drop (i + 1) := by rw [List.set_eq_take_append_cons_drop, if_pos hHl]
    have hH2 : H = H.take i ++ H[i] :: H.drop (i + 1) := by
      conv => lhs; rw [← List.take_append_drop i H]
      rw [List.drop_eq_getElem_cons hHl]
    have hS : By8 (H.set i y) := by
      rw [hs]
      refine (hH.take i).app fun z hz => ?_
      rcases List.mem_cons.1 hz with rfl | hz
      · exact hy
      · exact hH.drop _ z hz
    have k := be4_inj (crc_lt H hH) (crc_lt _ hS) e2
    rw [hs] at k
    conv at k => lhs; rw [hH2]
    have := crc_one _ _ _ _ (hH.take i) (by rw [hHi]; exact hb _ (List.getElem_mem hi)) hy k
    exact hne (by rw [hli, ← hHi, this])
  · have d1 : (l.set i y).take (l.length - 4) = l.take (l.length - 4) := by rw [List.take_set, List.set_eq_of_length_le (by rw [List.length_take]; omega)]
    rw [d1, ← e1] at e2
    have := congrArg (fun z => z[i - (l.length - 4)]?) e2
    simp only [List.getElem?_drop] at this
    rw [show l.length - 4 + (i - (l.length - 4)) = i by omega, List.getElem?_set_self hi, List.getElem?_eq_getElem hi] at this
    exact hne (by rw [hli]; exact Option.some.inj this)
/-- Bytes as strings. -/
theorem str_list (l : List Int) : (str l).toList = l.map fun x => UInt8.ofNat x.toNat := by
  unfold str
  rw [ByteArray.toList_eq]
theorem str_eq {a b : List Int} (ha : By8 a) (hb : By8 b) : ((str a).toList == (str b).toList) = decide (a = b) := by
  rw [str_list, str_list]
  have key : ∀ (a b : List Int), By8 a → By8 b → (a.map fun x => UInt8.ofNat x.toNat) = (b.map fun x => UInt8.ofNat x.toNat) → a = b := by
    intro a
    induction a with
    | nil => intro b _ _ h; cases b with
      | nil => rfl
      | cons _ _ => cases h
    | cons x a ih =>
      intro b ha hb h
      cases b with
      | nil => cases h
      | cons y b =>
        simp only [List.map_cons, List.cons.injEq] at h
        have hx := ha x List.mem_cons_self
        have hy := hb y List.mem_cons_self
        have h1 : x.toNat = y.toNat := by
          have := congrArg UInt8.toNat h.1
          simp only [UInt8.toNat_ofNat'] at this
          omega
        rw [show x = y by omega, ih b (fun z hz => ha z (List.mem_cons_of_mem _ hz)) (fun z hz => hb z (List.mem_cons_of_mem _ hz)) h.2]
  by_cases h : a = b
  · subst h
    simp
  · rw [decide_eq_false h]
    simp only [beq_eq_false_iff_ne, ne_eq]
    exact fun h2 => h (key a b ha hb h2)
end Go.Proofs.Ythmpfdkbpdbhnaa.Wd
