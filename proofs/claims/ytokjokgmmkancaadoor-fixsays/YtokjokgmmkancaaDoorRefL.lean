/- The reference's text of a number. -/
import Derived.Test.YtokjokgmmkancaaDoorRefK
namespace Go.Proofs.YtokjokgmmkancaaDoor.Rf
open Go.RowKit Fx
set_option linter.unusedVariables false
set_option linter.unusedSimpArgs false
theorem idx4_0 (p q r s : Int) (W : World) : Sem.run Tryd.prog (Instr.index 47 (.agg #[.int .u64 p, .int .u64 q, .int .u64 r, .int .u64 s]) (.int .i64 0)) W = .ok (.int .u64 p) W := by
  simp [Instr.index, go_sem]
theorem idx4_1 (p q r s : Int) (W : World) : Sem.run Tryd.prog (Instr.index 47 (.agg #[.int .u64 p, .int .u64 q, .int .u64 r, .int .u64 s]) (.int .i64 1)) W = .ok (.int .u64 q) W := by
  simp [Instr.index, go_sem]
attribute [local go_sem] idx4_0 idx4_1
theorem wh_lt (n D : Nat) (h : n ≤ 9223372036854775808) (hD : D ≤ 10000000000) : n / 4294967296 + D / 10000000000 < 18446744073709551616 := by omega
theorem whole_a {q x : Int} {n Wh D : Nat} (h1 : (n : Int) = x) (h2 : x / 4294967296 = q) (h3 : Wh = n / 4294967296 + D / 10000000000) (hD : D = 10000000000) : q + 1 = (Wh : Int) := by omega
theorem whole_b {q x : Int} {n Wh D : Nat} (h1 : (n : Int) = x) (h2 : x / 4294967296 = q) (h3 : Wh = n / 4294967296 + D / 10000000000) (hD : D < 10000000000) : q = (Wh : Int) := by omega
theorem rest_a {D : Nat} (hD : D = 10000000000) : (0 : Int) = ((D % 10000000000 : Nat) : Int) := by omega
theorem rest_b {D : Nat} {d : Int} (hD : D < 10000000000 ∧ d = (D : Int)) : d = ((D % 10000000000 : Nat) : Int) := by omega
theorem nd20 (n : Nat) (h : n < 18446744073709551616) : Lib.nDigits n ≤ 20 := nDigits_le 19 n (Nat.lt_trans h (by decide))
theorem nd10 (n : Nat) (h : n < 10000000000) : Lib.nDigits n ≤ 10 := nDigits_le 9 n h
theorem fld_1 (s : Bool) (p q r t : Int) (W : World) : Sem.run Tryd.prog (Instr.field 49 (.agg #[.bool s, .int .u64 p, .int .u64 q, .int .u64 r, .int .u64 t]) 1) W = .ok (.agg #[.int .u64 p, .int .u64 q, .int .u64 r, .int .u64 t]) W := by
  kernel_rfl
attribute [local go_sem] fld_1
theorem low_two {v : Value} {s : Bool} {X : Int} (h : IsN v s X) (hX : X < 340282366920938463463374607431768211456) : ∃ m0 m1 m2 m3 : Int, v = .agg #[.bool s, .int .u64 m0, .int .u64 m1, .int .u64 m2, .int .u64 m3] ∧ U m0 ∧ U m1 ∧ Hid (m0 + m1 * 18446744073709551616 = X) := by
  obtain ⟨m0, m1, m2, m3, rfl, h0, h1, h2, h3, hP⟩ := h
  refine ⟨m0, m1, m2, m3, rfl, h0, h1, ?_⟩
  rw [PS4] at hP
  unfold U at *
  show _ = _
  omega
theorem low_one {v : Value} {s : Bool} {X : Int} (h : IsN v s X) (hX : X < 18446744073709551616) : ∃ m0 m1 m2 m3 : Int, v = .agg #[.bool s, .int .u64 m0, .int .u64 m1, .int .u64 m2, .int .u64 m3] ∧ U m0 ∧ Hid (m0 = X) := by
  obtain ⟨m0, m1, m2, m3, rfl, h0, h1, h2, h3, hP⟩ := h
  refine ⟨m0, m1, m2, m3, rfl, h0, ?_⟩
  rw [PS4] at hP
  unfold U at *
  show _ = _
  omega
def strLen (v : Value) : Nat := match v with
  | .string s => s.size
  | _ => 0
theorem pad_size (k d : Nat) : (⟨(Lib.repeatL [48] k ++ Lib.decDigits d).toArray⟩ : ByteArray).size = k + Lib.nDigits d := by
  show (Lib.repeatL [48] k ++ Lib.decDigits d).toArray.size = _
  rw [List.size_toArray, List.length_append, Lib.repeatL_length, Lib.decDigits_length]
  show k * 1 + _ = _
  omega
set_option maxRecDepth 20000 in
set_option maxHeartbeats 2000000 in
theorem text_ref (a : Int) (t : ByteArray) (et : t = ⟨(textI a).toArray⟩) (ha : InR a) (w : World) :
    Calls Tryd.prog 25 #[.int .i64 a] w fun e w' => e = .returned (.string t) ∧ Below w.heap.size w w' := by
  have hna : a.natAbs ≤ 9223372036854775808 := by unfold InR at ha; omega
  obtain ⟨x, ex⟩ : ∃ x : Int, (a.natAbs : Int) = x := ⟨_, rfl⟩
  have hx : 0 ≤ x ∧ x ≤ 9223372036854775808 := by unfold InR at ha; omega
  obtain ⟨p, ep⟩ : ∃ p : Int, x % 4294967296 = p := ⟨_, rfl⟩
  have hp : 0 ≤ p ∧ p < 4294967296 := by omega
  obtain ⟨q, eq⟩ : ∃ q : Int, x / 4294967296 = q := ⟨_, rfl⟩
  have hq : 0 ≤ q ∧ q ≤ 2147483648 := by omega
  have hmk : bits .and .u64 x 4294967295 = p := by rw [Kn.maskI x (by omega) (by omega)]; exact ep
  have hpn : p.natAbs = a.natAbs % 4294967296 := by omega
  obtain ⟨D, eD⟩ : ∃ D : Nat, restI a.natAbs = D := ⟨_, rfl⟩
  have hD : D ≤ 10000000000 := by rw [← eD]; exact restI_le _
  obtain ⟨Wh, eW⟩ : ∃ n : Nat, wholeI a.natAbs = n := ⟨_, rfl⟩
  have hW : Wh = a.natAbs / 4294967296 + D / 10000000000 := by rw [← eW, ← eD]; rfl
  have hrq : rqI ((p.natAbs * 10000000000 : Nat) : Int) 4294967296 = (D : Int) := by
    rw [show (4294967296 : Int) = ((4294967296 : Nat) : Int) from rfl, rqI_nat, hpn, ← eD]
    unfold restI
    rfl
  have hWl : Wh < 18446744073709551616 := by rw [hW]; exact wh_lt _ _ hna hD
  have hDl : D % 10000000000 < 10000000000 := Nat.mod_lt _ (by decide)
  obtain ⟨s2, es2⟩ : ∃ s : ByteArray, s = ⟨(Lib.decDigits Wh).toArray⟩ := ⟨_, rfl⟩
  obtain ⟨s3, es3⟩ : ∃ s : ByteArray, s = ⟨(Lib.decDigits (D % 10000000000)).toArray⟩ := ⟨_, rfl⟩
  have z2 : s2.size ≤ 20 := by rw [es2]; show (Lib.decDigits Wh).toArray.size ≤ 20; rw [List.size_toArray, Lib.decDigits_length]; exact nd20 _ hWl
  have z3 : s3.size = Lib.nDigits (D % 10000000000) := by rw [es3]; show (Lib.decDigits _).toArray.size = _; rw [List.size_toArray, Lib.decDigits_length]
  have z3' : s3.size ≤ 10 := by rw [z3]; exact nd10 _ hDl
  have hfin : t = ⟨(signI a).toArray⟩ ++ (s2 ++ ⟨#[46]⟩ ++ ⟨(padI (D % 10000000000)).toArray⟩) := by
    rw [et, es2, show (⟨#[46]⟩ : ByteArray) = ⟨([46] : List UInt8).toArray⟩ from rfl, append_mk, append_mk, append_mk]
    unfold textI
    rw [eW, eD, List.append_assoc, List.append_assoc, List.append_assoc]
  have E : Hid ((a.natAbs : Int) = x ∧ x / 4294967296 = q ∧ Wh = a.natAbs / 4294967296 + D / 10000000000 ∧ s2 = ⟨(Lib.decDigits Wh).toArray⟩ ∧ s3 = ⟨(Lib.decDigits (D % 10000000000)).toArray⟩ ∧ s3.size = Lib.nDigits (D % 10000000000) ∧ rqI ((p.natAbs * 10000000000 : Nat) : Int) 4294967296 = (D : Int) ∧ t = ⟨(signI a).toArray⟩ ++ (s2 ++ ⟨#[46]⟩ ++ ⟨(padI (D % 10000000000)).toArray⟩)) := ⟨ex, eq, hW, es2, es3, z3, hrq, hfin⟩
  have hpP : InR p := by unfold InR; omega
  have hten : InR 10000000000 := by unfold InR; omega
  have hdf : Fx.differ p 10000000000 = false := by rw [Bool.eq_false_iff, ne_eq, differ_iff]; omega
  have HX : Hid (((p.natAbs * 10000000000 : Nat) : Int) < 340282366920938463463374607431768211456) := by show _ < _; omega
  have HW : Hid (Wh < 18446744073709551616) := hWl
  have HQ : Hid (0 ≤ q ∧ q ≤ 2147483648) := hq
  clear ex ep hpn eD eW hW hrq es2 es3 z3 hfin et
  go_enter Tryd.func25, Tryd.ntmps25
  go_wp2_with fail
  refine (size_ref a x ha E.out.1 _).mono ?_
  rintro e w' ⟨rfl, rfl⟩
  go_wp2_with fail
  refine (times_any p 10000000000 hpP hten _).mono ?_
  rintro e w1 ⟨v, rfl, hv, hb1⟩
  rw [hdf, show (10000000000 : Int).natAbs = 10000000000 from rfl] at hv
  obtain ⟨m0, m1, m2, m3, rfl, um0, um1, hm⟩ := low_two hv HX.out
  clear hv
  go_wp2_with fail
  refine (times_any p 10000000000 hpP hten _).mono ?_
  rintro e w2 ⟨v, rfl, hv, hb2⟩
  rw [hdf, show (10000000000 : Int).natAbs = 10000000000 from rfl] at hv
  obtain ⟨n0, n1, n2, n3, rfl, un0, un1, hn⟩ := low_two hv HX.out
  clear hv
  go_wp2_with fail
  have hN : IsN (.agg #[.bool false, .int .u64 m0, .int .u64 n1, .int .u64 0, .int .u64 0]) false ((p.natAbs * 10000000000 : Nat) : Int) := by
    refine ⟨m0, n1, 0, 0, rfl, um0, un1, by unfold U; omega, by unfold U; omega, ?_⟩
    rw [PS4]
    have h1 := hm.out
    have h2 := hn.out
    unfold U at *
    omega
  refine (divided_any _ false _ 4294967296 hN (by unfold InR; omega) (by omega) _).mono ?_
  rintro e w3 ⟨v, rfl, hv, hb3⟩
  clear hN
  rw [show ((4294967296 : Int).natAbs : Int) = 4294967296 from rfl, E.out.2.2.2.2.2.2.1] at hv
  obtain ⟨d0, d1, d2, d3, rfl, ud0, hd0⟩ := low_one hv (by omega)
  clear hv
  have hd0' : 0 ≤ d0 ∧ d0 ≤ 10000000000 := by have := hd0.out; omega
  have c1 := hb1.trans (hb2.mono hb1.size)
  have c2 := c1.trans (hb3.mono c1.size)
  clear hb1 hb2 hb3 c1 hdf
  have hca : ((d0 == 10000000000) = true ∧ Hid (D = 10000000000)) ∨ ((d0 == 10000000000) = false ∧ Hid (D < 10000000000 ∧ d0 = (D : Int))) := by
    have h := hd0.out
    by_cases hdd : d0 = 10000000000
    · exact Or.inl ⟨by simpa using hdd, by show _ = _; omega⟩
    · exact Or.inr ⟨by simpa using hdd, by omega, h⟩
  clear hd0
  rcases hca with ⟨hca, HD⟩ | ⟨hca, HD⟩
  all_goals
    go_wp2_with fail
    refine (digits_at _ (D % 10000000000) s3 (by first | exact rest_a HD.out | exact rest_b HD.out) (Nat.lt_trans hDl (by decide)) E.out.2.2.2.2.1 _).mono ?_
    rintro e w4 ⟨rfl, hb4⟩
    have c3 := c2.trans (hb4.mono c2.size)
    clear hb4
    go_wp2
    clear hca eq hmk hpP hten um0 um1 hm un0 un1 hn ud0 hd0' hD hWl hDl hna hx hp HX
    go_loop [7] (fun v => ∃ (k : Nat) (t' : ByteArray), v = .string t' ∧ t'.size ≤ 10 ∧ Hid (t' = ⟨(Lib.repeatL [48] k ++ Lib.decDigits (D % 10000000000)).toArray⟩)) (fun v => 10 - strLen v)
    case atStart => exact ⟨0, s3, rfl, z3', E.out.2.2.2.2.1⟩
    case round =>
      obtain ⟨k, t', rfl, ht, hk⟩ := hrel
      clear ‹w4 = w4›
      by_cases hlt : t'.size < 10
      · go_wp2
        go_round
        case rel => exact ⟨k + 1, _, rfl, by rw [ByteArray.size_append]; show 1 + _ ≤ 10; omega, by show _ = _; rw [hk.out, show (⟨#[48]⟩ : ByteArray) = ⟨([48] : List UInt8).toArray⟩ from rfl, append_mk]; rfl⟩
        case measure =>
          simp only [strLen]
          rw [ByteArray.size_append]
          show 10 - (1 + _) < _
          omega
      · have hpad : Hid (t' = ⟨(padI (D % 10000000000)).toArray⟩) := by
          show _ = _
          have h1 := hk.out
          have h2 : t'.size = k + Lib.nDigits (D % 10000000000) := by rw [h1]; exact pad_size _ _
          rw [h1]
          unfold padI
          rw [show 10 - Lib.nDigits (D % 10000000000) = k by omega]
        clear hk
        go_wp2_with fail
        refine (digits_at _ Wh s2 (by first | exact whole_a E.out.1 E.out.2.1 E.out.2.2.1 HD.out | exact whole_b E.out.1 E.out.2.1 E.out.2.2.1 HD.out.1) HW.out E.out.2.2.2.1 _).mono ?_
        rintro e w5 ⟨rfl, hb5⟩
        have c4 := c3.trans (hb5.mono c3.size)
        by_cases hneg : a < 0
        · have hsg : Hid (signI a = [45]) := by show _ = _; unfold signI; rw [if_pos hneg]
          go_wp2
          go_ret
          refine ⟨ret_str ?_, c4⟩
          rw [E.out.2.2.2.2.2.2.2, hsg.out, hpad.out]
        · have hsg : Hid (signI a = []) := by show _ = _; unfold signI; rw [if_neg hneg]
          go_wp2
          go_ret
          refine ⟨ret_str ?_, c4⟩
          rw [E.out.2.2.2.2.2.2.2, hsg.out, hpad.out, show (⟨([] : List UInt8).toArray⟩ : ByteArray) = ByteArray.empty from rfl, ByteArray.empty_append]
end Go.Proofs.YtokjokgmmkancaaDoor.Rf
