/- What every law of stage 18 asks first. -/
import Derived.Test.YtdllobikpjejiaaFrP
namespace Go.Proofs.Ytdllobikpjejiaa.Wd
open Go.RowKit
set_option linter.unusedVariables false
set_option linter.unusedSimpArgs false
set_option maxRecDepth 8000
set_option maxHeartbeats 4000000
theorem bytes_nil (W : World) : Bytes W (.slice none 0 0) [] := .inl ⟨rfl, rfl⟩
theorem dec_enc {k f t v s : Int} {b : List Int} (hg : goodF k f t b.length) (hv : 0 ≤ v ∧ v < 4294967296) (hs : 0 ≤ s ∧ s < 4294967296) (vb : Value) : decP (encF k f t v s b) ∧ FrD (encF k f t v s b) vb = FrV k f t v s vb ∧ dB8 (encF k f t v s b) = b := by
  have hd := enc_dec hg hv hs
  have e : encF k f t v s b = encL k f t v s b := if_pos hg
  obtain ⟨h1, h2, h3, h4, h5, h6⟩ := enc_read (k := k) (f := f) (t := t) (b := b) hv hs
  rw [e]
  refine ⟨hd, ?_, ?_⟩
  · unfold FrD dN
    simp only [if_pos hd, h1, h2, h3, h4, h5]
  · unfold dB8
    rw [if_pos hd, h6]
theorem aw18_len : (encF 1 0 0 0 0 []).length = 19 := by
  rw [show encF 1 0 0 0 0 [] = encL 1 0 0 0 0 [] from if_pos (by decide), encL_len]
  rfl
theorem awake18_any (w : World) : Calls Try.prog 8 #[] w fun e w' => e = .returned (.bool true) ∧ Below w.heap.size w w' := by
  go_enter Try.func8, Try.ntmps8
  go_wp2_with fail
  refine (pfenc_any 1 0 0 0 0 none 0 0 [] (by omega) (by omega) By8.nil w (bytes_nil _) rfl).mono ?_
  rintro e w1 ⟨v1, rfl, ho, hB⟩
  obtain ⟨p, c, rfl, hc⟩ := own8_form ho
  have H1 : Hid (Below w.heap.size w w1 ∧ Bytes w1 (.slice p 19 c) (encF 1 0 0 0 0 [])) := ⟨hB, by rw [← aw18_len]; exact ho.bytes⟩
  rw [aw18_len] at hc ⊢
  clear ho hB
  go_wp2_with fail
  refine (pfdec_any p 19 c (encF 1 0 0 0 0 []) (encF_by By8.nil) aw18_len (by omega) hc w1 H1.out.2).mono ?_
  rintro e w2 ⟨vb, rfl, ho, hB⟩
  obtain ⟨h1, h2, h3⟩ := dec_enc (k := 1) (f := 0) (t := 0) (v := 0) (s := 0) (b := []) (by decide) (by omega) (by omega) vb
  rw [if_pos h1, h2]
  obtain ⟨pb, cb, rfl, _⟩ := own8_form ho
  unfold FrV
  have H2 : Hid (Below w.heap.size w w2) := bstep H1.out.1 hB
  clear h1 h2 h3 ho hB H1
  go_wp2
  go_ret
  exact ⟨rfl, bstep H2.out (up_alloc _ _)⟩
end Go.Proofs.Ytdllobikpjejiaa.Wd
