/- Tensors: what tens.Good, tens.Same, slic -/
import Derived.Test.YtihjnbbhpojnpaaGreatDoorQ01
import Derived.Laws.Bits64b
import Derived.Laws.BitsLemmas
import Derived.Deep.AppendLies
import Derived.Deep.MidRow
import Derived.Lib.SlicesS
import Derived.Deep.RegionHeld3
set_option linter.unusedVariables false
set_option linter.unusedSimpArgs false
set_option maxHeartbeats 16000000
set_option maxRecDepth 16000
namespace Go.Proofs.YtihjnbbhpojnpaaGreatDoor.Wd
open Go.RowKit
theorem fixT:NumT Tryz.prog 47 46 .i64 8:=⟨Tryz.underlying47,by kernel_rfl⟩
/-- A tensor: a shape, and as many numbers as that has. -/
abbrev isP (d x:List Int):Prop:=goodN (ntl d)∧x.length=prodN (ntl d)
theorem cell_low {w w':World} {v:Value} {b o:Nat} (h:w.cell? ⟨b,o,none⟩=some v) (hB:Below w.heap.size w w'):w'.cell? ⟨b,o,none⟩=some v:=still_cell hB h
theorem beq_dec (a b:Int):(a==b)=decide (a=b):=by
 by_cases h:a=b <;> simp [h]
theorem tgood_any (s t:Value) (d x:List Int) (hd:RI d) (w:World) (hs:Nums .i64 w s d) (ht:Nums .i64 w t x):
  Calls Tryz.prog 74 #[.agg #[s,t]] w fun e w'=>e = .returned (.bool (decide (isP d x)))∧Below w.heap.size w w':=by
 have HS:Hid (Nums .i64 w s d∧RI d):=⟨hs,hd⟩
 obtain ⟨p,n,c,rfl,HA⟩:=hs.lst
 obtain ⟨p2,n2,c2,rfl,HB⟩:=ht.lst
 have HL:Hid (x.length=n2):=HB.out.1
 clear hs ht hd
 by_cases hg:goodN (ntl d)
 ·have HG:Hid (goodN (ntl d)):=hg
  obtain ⟨N,eN⟩:∃ N,prodN (ntl d)=N:=⟨_,rfl⟩
  have er:decide (isP d x)=((n2:Int)==(N:Int)):=by
   rw [beq_dec]
   exact decide_eq_decide.2 ⟨fun h=>by have:=h.2;rw [HL.out,eN] at this;omega,fun h=>⟨hg,by rw [HL.out,eN];omega⟩⟩
  rw [er]
  have HN:Hid (sizeN (ntl d)=N):=by show _=_;rw [sizeN_good hg];exact eN
  clear er eN hg
  go_enter Tryz.func74,Tryz.ntmps74
  go_wp2_with fail
  refine name_world (fun W0 hW0=>?_)
  have B0:Below w.heap.size w W0:=by rw [hW0];go_grown
  have X0:W0.cell? ⟨w.heap.size,0,none⟩=some (.slice p n c)∧W0.cell? ⟨w.heap.size,1,none⟩=some (.slice p2 n2 c2):=by rw [hW0];simp [go_sem]
  have x0:=X0.1
  have x1:=X0.2
  clear hW0 X0
  have cg:∀ m,Calls Tryz.prog 85 #[.slice p n c] (W0.drewN m) fun e w'=>e = .returned (.bool true)∧w'=W0.drewN m:=fun m=>by
   have:=good_any _ d HS.out.2 (W0.drewN m) (HS.out.1.up (below_drew B0 m))
   rw [decide_eq_true HG.out] at this
   exact this
  have cz:∀ m,Calls Tryz.prog 86 #[.slice p n c] (W0.drewN m) fun e w'=>e = .returned (.int .i64 (N:Int))∧w'=W0.drewN m:=fun m=>by
   have:=size_any _ d HS.out.2 (W0.drewN m) (HS.out.1.up (below_drew B0 m))
   rw [HN.out] at this
   exact this
  go_quiet (first|exact Calls.quiet_of_same (cg _)|exact Calls.quiet_of_same (cz _))
  go_wp2
  go_ret
  exact ⟨rfl,below_drew B0 nq⟩
 ·rw [decide_eq_false (fun h:isP d x=>hg h.1)]
  have HG:Hid (¬ goodN (ntl d)):=hg
  clear hg
  go_enter Tryz.func74,Tryz.ntmps74
  go_wp2_with fail
  refine name_world (fun W0 hW0=>?_)
  have B0:Below w.heap.size w W0:=by rw [hW0];go_grown
  have X0:W0.cell? ⟨w.heap.size,0,none⟩=some (.slice p n c)∧W0.cell? ⟨w.heap.size,1,none⟩=some (.slice p2 n2 c2):=by rw [hW0];simp [go_sem]
  have x0:=X0.1
  have x1:=X0.2
  clear hW0 X0
  have cg:∀ m,Calls Tryz.prog 85 #[.slice p n c] (W0.drewN m) fun e w'=>e = .returned (.bool false)∧w'=W0.drewN m:=fun m=>by
   have:=good_any _ d HS.out.2 (W0.drewN m) (HS.out.1.up (below_drew B0 m))
   rw [decide_eq_false HG.out] at this
   exact this
  go_quiet (exact Calls.quiet_of_same (cg _))
  go_wp2
  go_ret
  exact ⟨rfl,below_drew B0 nq⟩
theorem cloneI_any (v:Value) (l:List Int) (hl:l.length≤1073741824) (w:World) (hv:Nums .i64 w v l):
  Calls Tryz.prog 52 #[v] w fun e w'=>∃ v',e = .returned v'∧OwnK .i64 3 w' w.heap.size v' l∧Below w.heap.size w w':=by
 have hnil:=fun (w:World) a n c=>Lib.run_eql_slice_nil (P:=Tryz.prog) w 23 3 a n c 0 0 Tryz.underlying23
 have HV:Hid (Nums .i64 w v l∧l.length≤1073741824):=⟨hv,hl⟩
 rcases hv with ⟨rfl,rfl⟩|⟨ad,c,rfl,h⟩
 ·go_enter Tryz.func52,Tryz.ntmps52
  go_wp2
  go_ret
  exact ⟨_,rfl,OwnK.nil _ _ _ _,Below.refl _ _⟩
 ·obtain ⟨n,en⟩:∃ n,l.length=n:=⟨_,rfl⟩
  have HE:Hid (l.length=n):=en
  rw [en] at HV ⊢
  clear h hl en
  have H5:Hid (OwnK .i64 3 (w.alloc (.cells #[] 3)) w.heap.size (.slice (some ⟨w.heap.size,0,none⟩) 0 0) []):=own_lit w [] 0 rfl (by decide)
  have H6:Hid (Nums .i64 (w.alloc (.cells #[] 3)) (.slice (some ad) n c) l):=HV.out.1.up (up_alloc w _)
  have H7:Hid (([]:List Int).length+l.length≤1073741824):=by show _≤_;rw [HE.out];simpa using HV.out.2
  have H8:Hid (Below w.heap.size w (w.alloc (.cells #[] 3))):=up_alloc w _
  go_enter Tryz.func52,Tryz.ntmps52
  go_wp2_with (at_builtin;refine wpList_appendK numT (by decide) rfl (.tmp 5) (.tmp 6) rfl w.heap.size _ [] rfl H5.out _ l rfl H6.out H7.out (by simp) w H8.out ?_;intro v0 w0 H0 B0)
  refine bodyPost_ret (v:=v0) (by simp [results,Tryz.results52,go_sem]) rfl ⟨_,rfl,H0.out,B0⟩
theorem cloneF_any (v:Value) (l:List Int) (hl:l.length≤1073741824) (w:World) (hv:Nums .i64 w v l):
  Calls Tryz.prog 66 #[v] w fun e w'=>∃ v',e = .returned v'∧OwnK .i64 46 w' w.heap.size v' l∧Below w.heap.size w w':=by
 have hnil:=fun (w:World) a n c=>Lib.run_eql_slice_nil (P:=Tryz.prog) w 47 46 a n c 0 0 Tryz.underlying47
 have HV:Hid (Nums .i64 w v l∧l.length≤1073741824):=⟨hv,hl⟩
 rcases hv with ⟨rfl,rfl⟩|⟨ad,c,rfl,h⟩
 ·go_enter Tryz.func66,Tryz.ntmps66
  go_wp2
  go_ret
  exact ⟨_,rfl,OwnK.nil _ _ _ _,Below.refl _ _⟩
 ·obtain ⟨n,en⟩:∃ n,l.length=n:=⟨_,rfl⟩
  have HE:Hid (l.length=n):=en
  rw [en] at HV ⊢
  clear h hl en
  have H5:Hid (OwnK .i64 46 (w.alloc (.cells #[] 46)) w.heap.size (.slice (some ⟨w.heap.size,0,none⟩) 0 0) []):=own_lit w [] 0 rfl (by decide)
  have H6:Hid (Nums .i64 (w.alloc (.cells #[] 46)) (.slice (some ad) n c) l):=HV.out.1.up (up_alloc w _)
  have H7:Hid (([]:List Int).length+l.length≤1073741824):=by show _≤_;rw [HE.out];simpa using HV.out.2
  have H8:Hid (Below w.heap.size w (w.alloc (.cells #[] 46))):=up_alloc w _
  go_enter Tryz.func66,Tryz.ntmps66
  go_wp2_with (at_builtin;refine wpList_appendK fixT (by decide) rfl (.tmp 5) (.tmp 6) rfl w.heap.size _ [] rfl H5.out _ l rfl H6.out H7.out (by simp) w H8.out ?_;intro v0 w0 H0 B0)
  refine bodyPost_ret (v:=v0) (by simp [results,Tryz.results66,go_sem]) rfl ⟨_,rfl,H0.out,B0⟩
end Go.Proofs.YtihjnbbhpojnpaaGreatDoor.Wd
namespace Go.Proofs.YtihjnbbhpojnpaaGreatDoor.Fx
open Go.RowKit
/-- What is beyond the ends is held there. -/
def hold (x:Int):Int:=if 9223372036854775807 < x then 9223372036854775807 else if x < -9223372036854775808 then -9223372036854775808 else x
/-- A quotient of sizes, rounded: to the nearest, of two that are as near to the even one. -/
def rq (n d:Nat):Nat:=if d < 2*(n % d)∨(2*(n % d)=d∧n / d % 2=1) then n / d+1 else n / d
def sg (b:Bool) (n:Nat):Int:=if b then -(n:Int) else n
def differ (a b:Int):Bool:=decide (a < 0) != decide (b < 0)
def mulI (a b:Int):Int:=hold (sg (differ a b) (rq (a.natAbs*b.natAbs) 4294967296))
def lim (b:Bool):Int:=if b then -9223372036854775808 else 9223372036854775807
/-- A quotient and its rest, rounded. -/
def nr (q r d:Nat):Nat:=if d < 2*r∨(2*r=d∧q % 2=1) then q+1 else q
def InR (a:Int):Prop:=-9223372036854775808≤a∧a≤9223372036854775807
theorem hold_in {x:Int} (h1:-9223372036854775808≤x) (h2:x≤9223372036854775807):hold x=x:=by unfold hold;split <;> (try split) <;> omega
theorem hold_hi {x:Int} (h:9223372036854775807≤x):hold x=9223372036854775807:=by unfold hold;split <;> (try split) <;> omega
theorem hold_lo {x:Int} (h:x≤-9223372036854775808):hold x = -9223372036854775808:=by unfold hold;split <;> (try split) <;> omega
theorem hold_rng (x:Int):-9223372036854775808≤hold x∧hold x≤9223372036854775807:=by unfold hold;split <;> (try split) <;> omega
/-- The sign of a bitwise operation's value is its highest bit. -/
theorem wrap_toNat_neg (v:BitVec 64):IntKind.i64.wrap (v.toNat:Int) < 0↔v.msb=true:=by
 rw [IntKind.wrap_i64,BitVec.msb_eq_decide]
 have:=v.isLt
 simp only [decide_eq_true_eq]
 omega
theorem ofInt_msb (a:Int) (h1:-9223372036854775808≤a) (h2:a≤9223372036854775807):(BitVec.ofInt 64 a).msb=decide (a < 0):=by
 rw [BitVec.msb_eq_decide,BitVec.toNat_ofInt]
 rw [Bool.eq_iff_iff]
 simp only [decide_eq_true_eq]
 omega
theorem ofInt_wrap (v:BitVec 64):BitVec.ofInt 64 (IntKind.i64.wrap (v.toNat:Int))=v:=by
 apply BitVec.eq_of_toNat_eq
 rw [BitVec.toNat_ofInt,IntKind.wrap_i64]
 have:=v.isLt
 omega
theorem differ_iff (a b:Int):differ a b=true↔(a < 0∧0≤b)∨(0≤a∧b < 0):=by
 unfold differ
 by_cases h1:a < 0 <;> by_cases h2:b < 0 <;> simp [h1,h2] <;> omega
theorem and_xor_neg (a b c d:Int) (ha:InR a) (hb:InR b) (hc:InR c) (hd:InR d):
  bits .and .i64 (bits .xor .i64 a b) (bits .xor .i64 c d) < 0↔((a < 0∧0≤b)∨(0≤a∧b < 0))∧((c < 0∧0≤d)∨(0≤c∧d < 0)):=by
 rw [← differ_iff,← differ_iff]
 show IntKind.i64.wrap ((BitVec.ofInt 64 (IntKind.i64.wrap ((BitVec.ofInt 64 a ^^^ BitVec.ofInt 64 b).toNat:Int)) &&& BitVec.ofInt 64 (IntKind.i64.wrap ((BitVec.ofInt 64 c ^^^ BitVec.ofInt 64 d).toNat:Int))).toNat:Int) < 0↔_
 rw [wrap_toNat_neg,ofInt_wrap,ofInt_wrap,BitVec.msb_and,BitVec.msb_xor,BitVec.msb_xor,ofInt_msb a ha.1 ha.2,ofInt_msb b hb.1 hb.2,ofInt_msb c hc.1 hc.2,ofInt_msb d hd.1 hd.2]
 unfold differ
 cases decide (a < 0) <;> cases decide (b < 0) <;> cases decide (c < 0) <;> cases decide (d < 0) <;> simp
theorem wrap64_rng (n:Int):InR (wrap64 n):=by unfold InR wrap64;omega
theorem add_over (a b:Int) (ha:InR a) (hb:InR b) (h:bits .and .i64 (bits .xor .i64 a (wrap64 (a+b))) (bits .xor .i64 b (wrap64 (a+b))) < 0):
  hold (a+b)=if a < 0 then -9223372036854775808 else 9223372036854775807:=by
 rw [and_xor_neg a _ b _ ha (wrap64_rng _) hb (wrap64_rng _)] at h
 unfold InR at ha hb
 unfold wrap64 at h
 by_cases h1:a < 0
 ·rw [if_pos h1,hold_lo];omega
 ·rw [if_neg h1,hold_hi];omega
theorem add_fits (a b:Int) (ha:InR a) (hb:InR b) (h:0≤bits .and .i64 (bits .xor .i64 a (wrap64 (a+b))) (bits .xor .i64 b (wrap64 (a+b)))):
  wrap64 (a+b)=hold (a+b):=by
 have h':=mt (and_xor_neg a _ b _ ha (wrap64_rng (a+b)) hb (wrap64_rng (a+b))).2 (by omega)
 unfold InR at ha hb
 unfold wrap64 at h'
 unfold wrap64 hold
 split <;> (try split) <;> omega
theorem rq_nr (n d:Nat):nr (n / d) (n % d) d=rq n d:=rfl
theorem held_far (b:Bool) (n:Nat) (h:9223372036854775807 < n):lim b=hold (sg b n):=by
 cases b
 ·rw [hold_hi (by unfold sg;simp;omega)];rfl
 ·rw [hold_lo (by unfold sg;simp;omega)];rfl
theorem held_up (n:Nat) (h:n≤9223372036854775807):(n:Int)=hold (sg false n):=by
 rw [hold_in (by simp [sg];try omega) (by simp [sg];try omega)];rfl
theorem held_down (n:Nat) (h:n≤9223372036854775807):-(n:Int)=hold (sg true n):=by
 rw [hold_in (by simp [sg];try omega) (by simp [sg];try omega)];rfl
theorem joinN (hi lo:Nat) (h1:hi < 4294967296) (h2:lo < 18446744073709551616):
  bits .or .u64 ((hi:Int)*4294967296) ((lo:Int) / 4294967296)=((hi*4294967296+lo / 4294967296:Nat):Int):=by
 have hw:∀ n:Int,0≤n→n < 2 ^ 64→IntKind.u64.wrap n=n:=fun n h0 h1=>by rw [IntKind.wrap_u64];omega
 rw [bits_join .u64 64 (by decide) hw 32 _ _ (by omega) (by omega) (by omega) (by omega) (by omega) (by omega)]
 omega
theorem maskN (a:Nat) (ha:a < 18446744073709551616):bits .and .u64 (a:Int) 4294967295=((a % 4294967296:Nat):Int):=by
 have h:=bits_and_u64_nat a 4294967295 ha (by omega)
 have e:a &&& 4294967295=a % 4294967296:=Nat.and_two_pow_sub_one_eq_mod a 32
 rw [e] at h
 exact h
theorem parts_q (hi lo:Nat):(hi*18446744073709551616+lo) / 4294967296=hi*4294967296+lo / 4294967296:=by omega
theorem parts_r (hi lo:Nat):(hi*18446744073709551616+lo) % 4294967296=lo % 4294967296:=by omega
theorem nr_le (q r d:Nat):nr q r d≤q+1:=by unfold nr;split <;> omega
theorem nr_ge (q r d:Nat):q≤nr q r d:=by unfold nr;split <;> omega
theorem le_rq (n d:Nat):n / d≤rq n d:=by rw [← rq_nr];exact nr_ge _ _ _
theorem rq_le (n d:Nat):rq n d≤n / d+1:=by rw [← rq_nr];exact nr_le _ _ _
theorem parts_lt (hi lo:Nat) (h1:hi < 2147483648) (h2:lo < 18446744073709551616):rq (hi*18446744073709551616+lo) 4294967296 < 18446744073709551616:=by
 have:=rq_le (hi*18446744073709551616+lo) 4294967296
 omega
/-- A product of 2^95 or more is beyond the ends. -/
theorem mul_far (a b:Int) (x y:Nat) (ea:a.natAbs=x) (eb:b.natAbs=y) (h:2147483648≤x*y / 18446744073709551616):lim (differ a b)=mulI a b:=by
 unfold mulI
 rw [ea,eb]
 have:=le_rq (x*y) 4294967296
 exact held_far _ _ (by omega)
theorem mul_near (a b:Int) (x y:Nat) (ea:a.natAbs=x) (eb:b.natAbs=y) (hi lo:Nat) (e1:hi=x*y / 18446744073709551616) (e2:lo=x*y % 18446744073709551616):
  hold (sg (differ a b) (rq (hi*18446744073709551616+lo) 4294967296))=mulI a b:=by
 unfold mulI
 rw [ea,eb,show hi*18446744073709551616+lo=x*y by omega]
theorem add_over' (a b:Int) (ha:InR a) (hb:InR b) (h:bits .and .i64 (bits .xor .i64 a (wrap64 (a+b))) (bits .xor .i64 b (wrap64 (a+b))) < 0):
  lim (decide (a < 0))=hold (a+b):=by
 rw [add_over a b ha hb h];unfold lim;by_cases h:a < 0 <;> simp [h]
theorem mulI_rng (a b:Int):InR (mulI a b):=by unfold mulI;exact hold_rng _
end Go.Proofs.YtihjnbbhpojnpaaGreatDoor.Fx
namespace Go.Proofs.YtihjnbbhpojnpaaGreatDoor.Wd
open Go.RowKit
/-- make of no number, with room. -/
theorem wpList_make0K {P:Program} {t e:TypeId} {k:IntKind} {b:Nat} (T:NumT P t e k b) (hb8:b≤8) (w:World) {ops:Array Oper} {rest:List Oper} {o:Oper} {a:Act} {Q:Exit→Act→World→Prop}
  (hg:o.guard=none) (l c:Operand) (hop:o.op=Op.makeSlice t l c) (kl kc:IntKind) (C:Int) (n:Nat) (hl:a.eval l = .int kl 0) (hc:a.eval c = .int kc C) (hC:C=(n:Int)) (hn:n≤1073741824)
  (hK:∀ w',Hid (OwnK k e w' w.heap.size (.slice (some ⟨w.heap.size,0,none⟩) 0 n) [])→Below w.heap.size w w'→wpList P ops Q rest (a.put o.dst (.slice (some ⟨w.heap.size,0,none⟩) 0 n)) w'):
  wpList P ops Q (o :: rest) a w:=by
 obtain ⟨i0,hi,hz0,hz1,hz2⟩:=info_of T
 have hm:b*n≤8*1073741824:=Nat.mul_le_mul hb8 hn
 refine wpList_make_own w hg l c t hop w.heap.size e i0 (.int k 0) 1 T.ht hi hz0 hz1 kl kc C n hl hc hC (by rw [hz2];omega) (by unfold maxLen;omega) (Nat.le_refl _) ?_
 intro w' h1 h2
 exact hK w' h1 (Below.grown (Below.refl _ _) h2 (Nat.le_refl _) (fun j hj=>by cases hj))
theorem rowW_le {d s:List Nat} (hd:∀ x,x∈d→x≤4096) (hs:∀ x,x∈s→x≤4096):∀ k a,a∈rowW d s k→a≤k*16777216
 | 0,a,h=>by simp [rowW] at h;omega
 | k+1,a,h=>by
  rw [rowW] at h
  obtain ⟨b,hb,h⟩:=List.mem_flatMap.1 h
  obtain ⟨n,hn,rfl⟩:=List.mem_map.1 h
  have h1:=rowW_le hd hs k b hb
  have h2:=List.mem_range.1 hn
  have h3:d.getD k 0≤4096:=by
   rcases Nat.lt_or_ge k d.length with hk|hk
   ·rw [getD_lt d k 0 hk];exact hd _ (List.getElem_mem _)
   ·rw [getD_ge d k 0 hk];omega
  have h4:s.getD k 0≤4096:=by
   rcases Nat.lt_or_ge k s.length with hk|hk
   ·rw [getD_lt s k 0 hk];exact hs _ (List.getElem_mem _)
   ·rw [getD_ge s k 0 hk];omega
  have:=Nat.mul_le_mul (show n≤4096 by omega) h4
  omega
theorem itl_app (a b:List Nat):itl (a++b)=itl a++itl b:=by simp [itl]
theorem range_map_succ (g:Nat→Nat) (i:Nat):(List.range (i+1)).map g=(List.range i).map g++[g i]:=by rw [List.range_succ,List.map_append];rfl
theorem flat_succ (l:List Nat) (f:Nat→List Nat) (j:Nat) (h:j < l.length):(l.take (j+1)).flatMap f=(l.take j).flatMap f++f (l.getD j 0):=by
 rw [List.take_succ_eq_append_getElem h,List.flatMap_append,getD_lt l j 0 h]
 simp
theorem walk_any (u v:Value) (d s:List Nat) (hd:goodN d) (hs:s.length=d.length) (hb:∀ x,x∈s→x≤4096) (w:World) (hu:Nums .i64 w u (itl d)) (hv:Nums .i64 w v (itl s)):
  Calls Tryz.prog 140 #[u,v] w fun e w'=>∃ v',e = .returned v'∧OwnK .i64 3 w' w.heap.size v' (itl (walkN d s))∧Below w.heap.size w w':=by
 obtain ⟨p,n,c,rfl,HA⟩:=hu.lst
 obtain ⟨p2,n2,c2,rfl,HB⟩:=hv.lst
 have hdn:d.length=n:=by rw [← itl_len d];exact HA.out.1
 obtain rfl:n2=n:=by rw [← hdn,← hs,← itl_len s];exact HB.out.1.symm
 have hn:n2≤4:=by rw [← hdn];exact hd.1
 have hn':(n2:Int)≤4:=by omega
 have HD:Hid (goodN d∧s.length=d.length∧(∀ x,x∈s→x≤4096)∧d.length=n2):=⟨hd,hs,hb,hdn⟩
 obtain ⟨L,eL⟩:∃ L,itl (walkN d s)=L:=⟨_,rfl⟩
 have HL:Hid (itl (walkN d s)=L):=eL
 have H5:Hid (OwnK .i64 3 (w.alloc (.cells #[.int .i64 0] 3)) w.heap.size (.slice (some ⟨w.heap.size,0,none⟩) 1 1) (itl (rowW d s 0))):=own_lit w [0] 1 rfl (by decide)
 have H8:Hid (Below w.heap.size w (w.alloc (.cells #[.int .i64 0] 3))):=up_alloc w _
 rw [eL]
 clear eL hd hs hb hdn hu hv
 go_enter Tryz.func140,Tryz.ntmps140
 go_wp2_with fail
 go_loopg [5,15] n2 (fun gg r i wr=>∃ (k:Nat),k≤n2∧gg=n2 - k∧i = .int .i64 (k:Int)∧Hid (OwnK .i64 3 wr w.heap.size r (itl (rowW d s k)))∧Hid (Below w.heap.size w wr))
 case atStart=>exact ⟨0,by omega,by omega,by first|rfl|simp,H5,H8⟩
 case round=>
  obtain ⟨k,hk,hg,rfl,HO,hB⟩:=hrel
  obtain ⟨R0,hR0⟩:∃ R0:World,R0=wr:=⟨_,rfl⟩
  subst hR0
  by_cases hkn:k < n2
  ·have hk':(k:Int) < (n2:Int):=by omega
   obtain ⟨q,o,rfl,hc1⟩:=HA.out.2 k hkn
   have hcell:=cell_low hc1 hB.out
   obtain ⟨q2,o2,rfl,hc2⟩:=HB.out.2 k hkn
   have hcell2:=cell_low hc2 hB.out
   clear hc1 hc2
   obtain ⟨rp,N,rc,erow,HR⟩:=HO.out.nums.lst
   subst erow
   rw [itl_getD] at hcell hcell2
   obtain ⟨D,eD⟩:∃ D,d.getD k 0=D:=⟨_,rfl⟩
   obtain ⟨st,es⟩:∃ st,s.getD k 0=st:=⟨_,rfl⟩
   rw [eD] at hcell
   rw [es] at hcell2
   obtain ⟨l,el⟩:∃ l,rowW d s k=l:=⟨_,rfl⟩
   have hdk:=HD.out.1.at k (by rw [HD.out.2.2.2];exact hkn)
   rw [eD] at hdk
   have hst:st≤4096:=by
    rw [← es,getD_lt s k 0 (by rw [HD.out.2.1,HD.out.2.2.2];exact hkn)]
    exact HD.out.2.2.1 _ (List.getElem_mem _)
   have hN:l.length=N:=by rw [← el,← itl_len];exact HR.out.1
   have hND:N*D≤4096:=by
    rw [← hN,← el,rowW_len d s k (by rw [HD.out.2.2.2];omega),← eD,getD_lt d k 0 (by rw [HD.out.2.2.2];exact hkn),← prodN_take_succ d k (by rw [HD.out.2.2.2];exact hkn)]
    exact Nat.le_trans (prodN_take_le HD.out.1.2.1 _) HD.out.1.2.2
   have hND':(N:Int)*(D:Int)≤4096:=by rw [← Int.natCast_mul];omega
   have hND0:0≤(N:Int)*(D:Int):=by rw [← Int.natCast_mul];omega
   have hN4:N≤4096:=by
    have:=Nat.mul_le_mul (Nat.le_refl N) hdk.1
    omega
   have hN4':(N:Int)≤4096:=by omega
   have hD':1≤(D:Int)∧(D:Int)≤4096:=by omega
   have hst':0≤(st:Int)∧(st:Int)≤4096:=by omega
   obtain ⟨f,ef⟩:∃ f:Nat→List Nat,(fun a=>(List.range D).map fun n=>a+n*st)=f:=⟨_,rfl⟩
   have HF:Hid ((fun a=>(List.range D).map fun n=>a+n*st)=f∧rowW d s (k+1)=l.flatMap f∧rowW d s k=l∧l.length=N):=⟨ef,by rw [rowW,el,eD,es,ef],el,hN⟩
   have HLl:Hid (∀ j,j < N→l.getD j 0≤67108864):=fun j hj=>by
    have hjl:j < l.length:=by rw [HF.out.2.2.2];exact hj
    have hmem:l.getD j 0∈rowW d s k:=by
     rw [HF.out.2.2.1,getD_lt l j 0 hjl]
     exact List.getElem_mem _
    have:=rowW_le HD.out.1.le HD.out.2.2.1 k _ hmem
    omega
   obtain ⟨M,eM⟩:∃ M:Nat,N*D=M:=⟨_,rfl⟩
   have eM':(N:Int)*(D:Int)=(M:Int):=by rw [← Int.natCast_mul,eM]
   have hM:M≤4096:=by omega
   have HM:Hid (N*D=M):=eM
   clear eD es el hN ef hND hND' hND0 eM hdk hst
   go_wp2_with (at_make;refine wpList_make0K numT (by decide) _ rfl (.const (.int .i64 0)) (.tmp 23) rfl .i64 .i64 _ M rfl rfl rfl (by omega) ?_;intro w1 HO1 B1)
   rw [show ([]:List Int)=itl ((l.take 0).flatMap f) by simp [itl]] at HO1
   have HC2:Hid (R0.cell? ⟨q2,o2+k,none⟩=some (.int .i64 (st:Int))):=hcell2
   clear hcell hcell2 HO eM'
   go_wp2_with fail
   go_loopg [8,27] N (fun gg r i wz=>∃ (j:Nat),j≤N∧gg=N - j∧i = .int .i64 (j:Int)∧Hid (OwnK .i64 3 wz R0.heap.size r (itl ((l.take j).flatMap f)))∧Hid (Below R0.heap.size R0 wz))
   case atStart=>exact ⟨0,by omega,by omega,by first|rfl|simp,HO1,B1⟩
   case round=>
    obtain ⟨j,hj,hg2,rfl,HO2,hB2⟩:=hrel
    obtain ⟨R1,hR1⟩:∃ R1:World,R1=wr:=⟨_,rfl⟩
    subst hR1
    by_cases hjn:j < N
    ·have hj':(j:Int) < (N:Int):=by omega
     obtain ⟨q3,o3,rfl,hc3⟩:=HR.out.2 j hjn
     have hcell:=cell_low hc3 hB2.out
     rw [itl_getD,HF.out.2.2.1] at hcell
     have ha:=HLl.out j hjn
     obtain ⟨at_,ea⟩:∃ a,l.getD j 0=a:=⟨_,rfl⟩
     rw [ea] at hcell ha
     have HAt:Hid (l.getD j 0=at_):=ea
     have ha':(at_:Int)≤67108864:=by omega
     obtain ⟨A,eA⟩:∃ A,(l.take j).flatMap f=A:=⟨_,rfl⟩
     have hA:A.length=j*D:=by
      rw [← eA,← HF.out.1,flat_len,List.length_take,HF.out.2.2.2,Nat.min_eq_left hj]
     have hAD:A.length+D≤4096:=by
      have h1:=Nat.mul_le_mul (show j+1≤N by omega) (Nat.le_refl D)
      rw [HM.out,Nat.add_mul] at h1
      omega
     have HAA:Hid ((l.take j).flatMap f=A∧A.length+D≤4096):=⟨eA,hAD⟩
     rw [eA,show A=A++(List.range 0).map (fun n=>at_+n*st) by simp] at HO2
     clear ea hc3 eA hA hAD
     go_wp2_with fail
     go_loopg [8,32] D (fun gg r i wy=>∃ (m:Nat),m≤D∧gg=D - m∧i = .int .i64 (m:Int)∧Hid (OwnK .i64 3 wy R0.heap.size r (itl (A++(List.range m).map fun n=>at_+n*st)))∧Hid (Below R0.heap.size R0 wy))
     case atStart=>exact ⟨0,by omega,by omega,by first|rfl|simp,HO2,hB2⟩
     case round=>
      obtain ⟨m,hm,hg3,rfl,HO3,hB3⟩:=hrel
      obtain ⟨R2,hR2⟩:∃ R2:World,R2=wr:=⟨_,rfl⟩
      subst hR2
      by_cases hmn:m < D
      ·have hm':(m:Int) < (D:Int):=by omega
       have hcl:=cell_low HC2.out hB3.out
       obtain ⟨X,eX⟩:∃ X,at_+m*st=X:=⟨_,rfl⟩
       have hms:m*st≤16777216:=Nat.mul_le_mul (show m≤4096 by omega) (show st≤4096 by omega)
       obtain ⟨Y,eY⟩:∃ Y,m*st=Y:=⟨_,rfl⟩
       have eY':(m:Int)*(st:Int)=(Y:Int):=by rw [← Int.natCast_mul,eY]
       rw [eY] at eX hms
       have hY':(Y:Int)≤16777216:=by omega
       have eX':(at_:Int)+(Y:Int)=(X:Int):=by omega
       have HX:Hid (at_+m*st=X):=by show _=_;rw [eY];exact eX
       have H6:Hid (OwnK .i64 3 (R2.alloc (.cells #[.int .i64 (X:Int)] 3)) R0.heap.size u8 (itl (A++(List.range m).map fun n=>at_+n*st))):=HO3.out.up (up_alloc R2 _)
       have H6n:Hid (Nums .i64 (R2.alloc (.cells #[.int .i64 (X:Int)] 3)) (.slice (some ⟨R2.heap.size,0,none⟩) 1 1) [(X:Int)]):=nums_lit (k:=.i64) R2 [(X:Int)] 1 (0,0) rfl
       have H6b:Hid (Below R0.heap.size R0 (R2.alloc (.cells #[.int .i64 (X:Int)] 3))):=blit hB3.out _
       have H6l:Hid ((itl (A++(List.range m).map fun n=>at_+n*st)).length+[(X:Int)].length≤1073741824):=by
        show _≤_
        rw [itl_len,List.length_append,List.length_map,List.length_range,List.length_singleton]
        have:=HAA.out.2
        omega
       clear eX eY
       go_wp2_with (at_builtin;refine wpList_appendK numT (by decide) rfl (.tmp 35) (.tmp 44) rfl R0.heap.size _ _ rfl H6.out _ [(X:Int)] rfl H6n.out H6l.out H6b.out.size R0 H6b.out ?_;intro v0 w0 H0 B0)
       have H7:Hid (OwnK .i64 3 w0 R0.heap.size v0 (itl (A++(List.range (m+1)).map fun n=>at_+n*st))):=by
        show OwnK _ _ _ _ _ _
        rw [range_map_succ,← List.append_assoc,itl_app,HX.out]
        exact H0.out
       go_roundg (D - (m+1))
       case measure=>omega
       case rel=>exact ⟨m+1,by omega,rfl,by first|rfl|simp,H7,B0⟩
      ·obtain rfl:m=D:=by omega
       have H7:Hid (OwnK .i64 3 R2 R0.heap.size u8 (itl ((l.take (j+1)).flatMap f))):=by
        show OwnK _ _ _ _ _ _
        rw [flat_succ l f j (by rw [HF.out.2.2.2];exact hjn),HAA.out.1,HAt.out,← HF.out.1]
        exact HO3.out
       go_wp2
       go_roundg (N - (j+1))
       case measure=>omega
       case rel=>exact ⟨j+1,by omega,rfl,by first|rfl|simp,H7,hB3⟩
    ·obtain rfl:j=N:=by omega
     have H7:Hid (OwnK .i64 3 R1 w.heap.size u8 (itl (rowW d s (k+1)))):=by
      show OwnK _ _ _ _ _ _
      rw [HF.out.2.1]
      have:=HO2.out
      rw [List.take_of_length_le (by rw [HF.out.2.2.2];exact Nat.le_refl _)] at this
      exact this.low hB.out.size
     have H9:Hid (Below w.heap.size w R1):=bstep hB.out hB2.out
     go_wp2
     go_roundg (n2 - (k+1))
     case measure=>omega
     case rel=>exact ⟨k+1,by omega,rfl,by first|rfl|simp,H7,H9⟩
  ·obtain rfl:k=n2:=by omega
   have hfin:=HO.out
   have hw:=HL.out
   unfold walkN at hw
   rw [HD.out.2.2.2] at hw
   rw [hw] at hfin
   have HF:Hid (OwnK .i64 3 R0 w.heap.size _ L∧Below w.heap.size w R0):=⟨hfin,hB.out⟩
   clear hfin hw
   go_wp2
   go_ret
   exact ⟨_,rfl,HF.out⟩
theorem itl_set (l:List Nat) (j x:Nat):itl (l.set j x)=(itl l).set j (x:Int):=by unfold itl;rw [List.map_set]
theorem spread_any (u v:Value) (d big:List Nat) (hd:goodN d) (hb:goodN big) (hl:d.length≤big.length) (w:World) (hu:Nums .i64 w u (itl d)) (hv:Nums .i64 w v (itl big)):
  Calls Tryz.prog 130 #[u,v] w fun e w'=>∃ v',e = .returned v'∧OwnK .i64 3 w' w.heap.size v' (itl (spreadN d big))∧Below w.heap.size w w':=by
 have cs:∀ W,Below w.heap.size w W→Calls Tryz.prog 139 #[u] W fun e w'=>∃ v',e = .returned v'∧OwnK .i64 3 w' W.heap.size v' (itl (stridesN d))∧Below W.heap.size W w':=fun W hW=>by
  have:=strides_any u (itl d) (RI_itl hd.le) W (hu.up hW)
  rw [show stridesI (itl d)=itl (stridesN d) by unfold stridesI;rw [ntl_itl,if_pos hd]] at this
  exact this
 have HUV:Hid (Nums .i64 w u (itl d)∧Nums .i64 w v (itl big)):=⟨hu,hv⟩
 obtain ⟨p,n,c,rfl,HA⟩:=hu.lst
 obtain ⟨p2,n2,c2,rfl,HB⟩:=hv.lst
 have hdn:d.length=n:=by rw [← itl_len d];exact HA.out.1
 have hbn:big.length=n2:=by rw [← itl_len big];exact HB.out.1
 have hn:n≤n2:=by omega
 have hn4:n2≤4:=by rw [← hbn];exact hb.1
 have hn':(n:Int)≤(n2:Int):=by omega
 have hn4':(n2:Int)≤4:=by omega
 have HD:Hid (goodN d∧goodN big∧d.length=n∧big.length=n2):=⟨hd,hb,hdn,hbn⟩
 obtain ⟨L,eL⟩:∃ L,itl (spreadN d big)=L:=⟨_,rfl⟩
 have HL:Hid (itl (walkN big (stepK d n2 n))=L):=by show _=_;rw [← eL,← hbn,← hdn];rfl
 obtain ⟨ah,eah⟩:∃ ah,n2 - n=ah:=⟨_,rfl⟩
 have eah':(n2:Int) - (n:Int)=(ah:Int):=by omega
 have hah:ah≤4:=by omega
 rw [eL]
 clear eL hd hb hl hdn hbn hu hv
 go_enter Tryz.func130,Tryz.ntmps130
 go_wp2_with (at_make;refine wpList_makeK numT (by decide) _ rfl (.tmp 10) (.tmp 10) rfl .i64 .i64 n2 n2 n2 rfl rfl rfl rfl (by omega) w.heap.size w (Nat.le_refl _) (Below.refl _ _) ?_;intro w1 HO B0 B1;clear B0)
 rw [show List.replicate n2 (0:Int)=itl (stepK d n2 0) by unfold itl stepK;rw [List.map_replicate];rfl] at HO
 refine (cs w1 B1).mono ?_
 rintro e w2 ⟨vs,rfl,hs2,hB2⟩
 obtain ⟨p3,n3,c3,rfl,HS0⟩:=hs2.nums.lst
 obtain rfl:n3=n:=by rw [← HS0.out.1,itl_len,stridesN_len,HD.out.2.2.1]
 have HS:Hid (OwnK .i64 3 w2 w1.heap.size (.slice p3 n3 c3) (itl (stridesN d))):=hs2
 have HO2:Hid (OwnK .i64 3 w2 w.heap.size (.slice (some ⟨w.heap.size,0,none⟩) n2 n2) (itl (stepK d n2 0))):=HO.out.up hB2
 have HB2:Hid (Below w.heap.size w w2):=bstep B1 hB2
 have Hg:Hid (w.heap.size < w1.heap.size):=HO.out.size
 clear hs2 hB2 HO B1 cs HS0
 go_wp2_with fail
 go_loopg [20] n3 (fun gg i wr=>∃ (k:Nat),k≤n3∧gg=n3 - k∧i = .int .i64 (k:Int)∧Hid (OwnK .i64 3 wr w.heap.size (.slice (some ⟨w.heap.size,0,none⟩) n2 n2) (itl (stepK d n2 k)))∧Hid (Below w.heap.size w wr)∧Hid (Stay w.heap.size w2 wr))
 case atStart=>exact ⟨0,by omega,by omega,by first|rfl|simp,HO2,HB2,Stay.refl _ _⟩
 case round=>
  obtain ⟨k,hk,hg,rfl,HR,hB,hS⟩:=hrel
  by_cases hkn:k < n3
  ·have hk':(k:Int) < (n3:Int):=by omega
   have hs3:=(HS.out.nums.stay hS.out (HS.out.off Hg.out)).lst
   obtain ⟨p4,n4,c4,e4,HS4⟩:=hs3
   cases e4
   obtain ⟨q,o,rfl,hc1⟩:=HS4.out.2 k hkn
   obtain ⟨q2,o2,rfl,hc0⟩:=HA.out.2 k hkn
   have hc2:=cell_low hc0 hB.out
   rw [itl_getD] at hc1 hc2
   obtain ⟨st,es⟩:∃ st,(stridesN d).getD k 0=st:=⟨_,rfl⟩
   obtain ⟨D,eD⟩:∃ D,d.getD k 0=D:=⟨_,rfl⟩
   rw [es] at hc1
   rw [eD] at hc2
   have HE:Hid ((stridesN d).getD k 0=st∧d.getD k 0=D):=⟨es,eD⟩
   have hst:=strides_le HD.out.1 k
   rw [es] at hst
   have hst':(st:Int)≤4096:=by omega
   have hD:=HD.out.1.at k (by rw [HD.out.2.2.1];exact hkn)
   rw [eD] at hD
   have hD':1≤(D:Int)∧(D:Int)≤4096:=by omega
   clear es eD hc0 HS4 hst
   by_cases h1:1 < D
   ·have h1':(1:Int) < (D:Int):=by omega
    obtain ⟨j,ej⟩:∃ j,ah+k=j:=⟨_,rfl⟩
    have ej':(ah:Int)+(k:Int)=(j:Int):=by omega
    have hj:j < n2:=by omega
    have hj':(j:Int) < (n2:Int):=by omega
    have Hj:Hid (n2 - d.length+k=j):=by show _=_;rw [HD.out.2.2.1];omega
    obtain ⟨hown,hfz⟩:=HR.out.cell (by rw [itl_len,stepK_len]) j hj
    have H2:Hid (OwnK .i64 3 (wr.setCell ⟨w.heap.size,j,none⟩ (.int .i64 (st:Int))) w.heap.size (.slice (some ⟨w.heap.size,0,none⟩) n2 n2) (itl (stepK d n2 (k+1)))):=by
     have:=HR.out.store (by rw [itl_len,stepK_len]) j (st:Int)
     rw [← itl_set,← HE.out.1,← Hj.out] at this
     show OwnK _ _ _ _ _ _
     rw [stepK,if_pos (by rw [HE.out.2];exact h1),← HE.out.1,← Hj.out]
     exact this
    have HB3:Hid (Below w.heap.size w (wr.setCell ⟨w.heap.size,j,none⟩ (.int .i64 (st:Int)))):=hB.out.setCell (p:=⟨w.heap.size,j,none⟩) (Nat.le_refl _) _
    have HS3:Hid (Stay w.heap.size w2 (wr.setCell ⟨w.heap.size,j,none⟩ (.int .i64 (st:Int)))):=hS.out.set _ _
    clear ej
    go_wp2
    go_roundg (n3 - (k+1))
    case measure=>omega
    case rel=>exact ⟨k+1,by omega,rfl,by first|rfl|simp,H2,HB3,HS3⟩
   ·have h1':(D:Int)≤1:=by omega
    have H2:Hid (OwnK .i64 3 wr w.heap.size (.slice (some ⟨w.heap.size,0,none⟩) n2 n2) (itl (stepK d n2 (k+1)))):=by
     show OwnK _ _ _ _ _ _
     rw [stepK,if_neg (by rw [HE.out.2];exact h1)]
     exact HR.out
    go_wp2
    go_roundg (n3 - (k+1))
    case measure=>omega
    case rel=>exact ⟨k+1,by omega,rfl,by first|rfl|simp,H2,hB,hS⟩
  ·obtain rfl:k=n3:=by omega
   have cw:=walk_any _ _ big (stepK d n2 k) HD.out.2.1 (by rw [stepK_len,HD.out.2.2.2]) (stepK_le HD.out.1 n2 k) wr (HUV.out.2.up hB.out) HR.out.nums
   rw [HL.out] at cw
   go_wp2_with fail
   refine cw.mono ?_
   rintro e w5 ⟨v5,rfl,h5,hB5⟩
   have HF:Hid (OwnK .i64 3 w5 w.heap.size v5 L∧Below w.heap.size w w5):=⟨h5.low hB.out.size,bstep hB.out hB5⟩
   clear h5 hB5 cw
   go_wp2
   go_ret
   exact ⟨_,rfl,HF.out⟩
theorem cell_lt {W:World} {b o:Nat} {v:Value} (h:W.cell? ⟨b,o,none⟩=some v):b < W.heap.size:=cell_block (a:=⟨b,o,none⟩) h
/-- A struct of two values in a block, that may be stored into. -/
def Cel (W:World) (b:Nat) (s t:Value):Prop:=W.cell? ⟨b,0,none⟩=some s∧W.cell? ⟨b,1,none⟩=some t∧W.frozen? ⟨b,0,none⟩=false∧W.frozen? ⟨b,1,none⟩=false
theorem Cel.up {W W':World} {b:Nat} {s t:Value} (h:Cel W b s t) (hB:Below W.heap.size W W'):Cel W' b s t:=by
 have hb:=cell_lt h.1
 refine ⟨cell_low h.1 hB,cell_low h.2.1 hB,?_,?_⟩
 ·rw [hB.frozen (p:=⟨b,0,none⟩) hb];exact h.2.2.1
 ·rw [hB.frozen (p:=⟨b,1,none⟩) hb];exact h.2.2.2
theorem Cel.stay {g:Nat} {W W':World} {b:Nat} {s t:Value} (h:Cel W b s t) (hs:Stay g W W') (hg:b≠g):Cel W' b s t:=by
 have hb:=cell_lt h.1
 refine ⟨hs.cell h.1 hg,hs.cell h.2.1 hg,?_,?_⟩
 ·rw [hs.frozen hb hg];exact h.2.2.1
 ·rw [hs.frozen hb hg];exact h.2.2.2
theorem celW {V W0:World} {b:Nat} {s t:Value} (h:V=W0) (h2:V.cell? ⟨b,0,none⟩=some s∧V.cell? ⟨b,1,none⟩=some t∧V.frozen? ⟨b,0,none⟩=false∧V.frozen? ⟨b,1,none⟩=false):Hid (Cel W0 b s t):=h ▸ h2
theorem hidB {w V W0:World} (h:V=W0) (h2:Below w.heap.size w V):Hid (Below w.heap.size w W0):=h ▸ h2
theorem set_same {W:World} {p:Addr} {x v:Value} (h:W.cell? p=some v):(W.setCell p x).cell? p=some x:=World.cell?_setCell_same _ _ _ h
theorem set_off {W:World} {b i j:Nat} {x:Value} (hij:j≠i):(W.setCell ⟨b,i,none⟩ x).cell? ⟨b,j,none⟩=W.cell? ⟨b,j,none⟩:=World.cell?_setCell_other _ _ _ _ (by simp;try omega)
/-- The struct, stored. -/
abbrev set2 (W:World) (b:Nat) (s t:Value):World:=(W.setCell ⟨b,0,none⟩ s).setCell ⟨b,1,none⟩ t
theorem Cel.set {W:World} {b:Nat} {s t:Value} (h:Cel W b s t) (s' t':Value):Cel (set2 W b s' t') b s' t':=by
 refine ⟨?_,?_,?_,?_⟩
 ·show ((W.setCell ⟨b,0,none⟩ s').setCell ⟨b,1,none⟩ t').cell? ⟨b,0,none⟩=_
  rw [set_off (by omega)]
  exact set_same h.1
 ·exact set_same (by rw [set_off (by omega)];exact h.2.1)
 ·simp [h.2.2.1]
 ·simp [h.2.2.2]
theorem Stay.set2 {g:Nat} (W:World) (s t:Value):Stay g W (set2 W g s t):=((Stay.refl g W).set 0 s).set 1 t
theorem OwnK.off_new {k:IntKind} {e:TypeId} {W:World} {B g:Nat} {v:Value} {l:List Int} (h:OwnK k e W B v l) (hg:W.heap.size≤g):Off g v:=by
 intro ad n c ev
 rcases h.2 with ⟨h1,_⟩|⟨q,cap,cur,h1,h2,h3,_⟩
 ·rw [h1] at ev;cases ev
 ·rw [h1] at ev
  cases ev
  have:q < W.heap.size:=by
   rcases Nat.lt_or_ge q W.heap.size with h|h
   ·exact h
   ·rw [Array.getElem?_eq_none h] at h3;cases h3
  show q≠g
  omega
/-- What a call answers: a tensor in memory of its own. -/
def TRes (W:World) (B:Nat) (v:Value) (D X:List Int):Prop:=∃ s t,v = .agg #[s,t]∧OwnK .i64 3 W B s D∧OwnK .i64 46 W B t X
theorem TRes.none (W:World) (B:Nat):TRes W B (.agg #[.slice none 0 0,.slice none 0 0]) [] []:=⟨_,_,rfl,OwnK.nil _ _ _ _,OwnK.nil _ _ _ _⟩
theorem TRes.up {W W':World} {B:Nat} {v:Value} {D X:List Int} (h:TRes W B v D X) (hB:Below W.heap.size W W'):TRes W' B v D X:=by
 obtain ⟨s,t,e,h1,h2⟩:=h
 exact ⟨s,t,e,h1.up hB,h2.up hB⟩
theorem TRes.low {W:World} {B B':Nat} {v:Value} {D X:List Int} (h:TRes W B v D X) (hB:B'≤B):TRes W B' v D X:=by
 obtain ⟨s,t,e,h1,h2⟩:=h
 exact ⟨s,t,e,h1.low hB,h2.low hB⟩
theorem TRes.set {W:World} {B b:Nat} {s t:Value} {D X:List Int} (h1:OwnK .i64 3 W B s D) (h2:OwnK .i64 46 W B t X) (hb:b < B):TRes (set2 W b s t) B (.agg #[s,t]) D X:=
 ⟨s,t,rfl,h1.stay (Stay.set2 W s t) (h1.off hb),h2.stay (Stay.set2 W s t) (h2.off hb)⟩
theorem below_cell {w W:World} (h:Below w.heap.size w W) (b:Nat) (hb:w.heap.size≤b) (x y:Value):Below w.heap.size w (set2 W b x y):=below_set2 h b hb x y
theorem fin2 {w W0 W:World} {b:Nat} {s t s0 t0:Value} {D X:List Int} (XR:Hid (Cel W0 b s0 t0)) (HB0:Hid (Below w.heap.size w W0)) (hB:Below W0.heap.size W0 W) (hs:OwnK .i64 3 W W0.heap.size s D) (ht:OwnK .i64 46 W W0.heap.size t X) (hb:w.heap.size≤b):Hid (TRes (set2 W b s t) w.heap.size (.agg #[s,t]) D X∧Below w.heap.size w (set2 W b s t))∧W.cell? ⟨b,0,none⟩=some s0∧W.cell? ⟨b,1,none⟩=some t0∧W.frozen? ⟨b,0,none⟩=false∧W.frozen? ⟨b,1,none⟩=false∧(set2 W b s t).cell? ⟨b,0,none⟩=some s∧(set2 W b s t).cell? ⟨b,1,none⟩=some t:=by
 have xr:=XR.out.up hB
 have cf:=xr.set s t
 exact ⟨⟨(TRes.set hs ht (cell_lt XR.out.1)).low HB0.out.size,below_cell (bstep HB0.out hB) _ hb _ _⟩,xr.1,xr.2.1,xr.2.2.1,xr.2.2.2,cf.1,cf.2.1⟩
/-- Both spread and reckoned, number by number. -/
def eachE (d x d' y:List Int):Int:=if isP d x∧isP d' y then joinE d d' else 1
def eachD (d x d' y:List Int):List Int:=if isP d x∧isP d' y then joinL d d' else []
def eachV (op:Int→Int→Int) (d x d' y:List Int):List Int:=
 if (isP d x∧isP d' y)∧joinE d d'=0 then (List.range (prodN (ntl (joinL d d')))).map fun i=>op (x.getD (fromN (ntl d) (ntl (joinL d d')) i) 0) (y.getD (fromN (ntl d') (ntl (joinL d d')) i) 0) else []
theorem each_none {op:Int→Int→Int} {d x d' y:List Int} (h:¬ (isP d x∧isP d' y)):eachE d x d' y=1∧eachD d x d' y = []∧eachV op d x d' y = []:=⟨if_neg h,if_neg h,if_neg fun h'=>h h'.1⟩
theorem joinL_bad {a b:List Int} (h:joinE a b≠0):joinL a b = []:=by
 unfold joinL
 rw [if_neg]
 rintro ⟨h1,h2,h3,h4⟩
 apply h
 unfold joinE
 rw [if_pos ⟨h1,h2⟩,if_pos h3,if_pos h4]
theorem each_bad {op:Int→Int→Int} {d x d' y:List Int} (h:isP d x∧isP d' y) (hE:joinE d d'≠0):eachE d x d' y=joinE d d'∧eachD d x d' y = []∧eachV op d x d' y = []:=
 ⟨if_pos h,by unfold eachD;rw [if_pos h];exact joinL_bad hE,if_neg fun h'=>hE h'.2⟩
/-- Both fit: what stands where. -/
structure Joint (d x d' y:List Int) (a b J:List Nat):Prop where
 da:d=itl a
 db:d'=itl b
 ga:goodN a
 gb:goodN b
 gJ:goodN J
 jn:joinL d d'=itl J
 je:joinE d d'=0
 lx:x.length=prodN a
 ly:y.length=prodN b
 fa:fitsN a J
 ja:joinN a J=J
 fb:fitsN b J
 jb:joinN b J=J
theorem joint {d x d' y:List Int} (h:isP d x∧isP d' y) (hE:joinE d d'=0):∃ a b J,Joint d x d' y a b J:=by
 obtain ⟨h1,h2,h3,h4⟩:=joinE_zero hE
 obtain ⟨a,ga,rfl⟩:=good_itl h1
 obtain ⟨b,gb,rfl⟩:=good_itl h2
 rw [ntl_itl,ntl_itl] at h3 h4
 have hj:=(join_fine ga gb h3 h4).1
 have e1:=h.1.2
 have e2:=h.2.2
 rw [ntl_itl] at e1 e2
 refine ⟨a,b,joinN a b,rfl,rfl,ga,gb,h4,hj,hE,e1,e2,?_,?_,?_,?_⟩
 ·rw [fitsN_comm];exact fitsN_again ga.2.1 gb.2.1 h3
 ·rw [joinN_comm,joinN_again]
 ·rw [fitsN_comm,joinN_comm a b];exact fitsN_again gb.2.1 ga.2.1 ((fitsN_comm _ _).1 h3)
 ·rw [joinN_comm b,joinN_comm a b,joinN_again]
theorem Joint.E {op:Int→Int→Int} {d x d' y:List Int} {a b J:List Nat} (h:Joint d x d' y a b J):eachE d x d' y=0∧eachD d x d' y=itl J∧eachV op d x d' y=(List.range (prodN J)).map fun i=>op (x.getD (fromN a J i) 0) (y.getD (fromN b J i) 0):=by
 have hp:isP d x∧isP d' y:=by
  rw [h.da,h.db]
  unfold isP
  rw [ntl_itl,ntl_itl]
  exact ⟨⟨h.ga,h.lx⟩,h.gb,h.ly⟩
 refine ⟨?_,?_,?_⟩
 ·unfold eachE;rw [if_pos hp];exact h.je
 ·unfold eachD;rw [if_pos hp];exact h.jn
 ·unfold eachV
  rw [if_pos ⟨hp,h.je⟩,h.jn,ntl_itl]
  rw [h.da,h.db,ntl_itl,ntl_itl]
/-- A cell for a tensor, newly made. -/
def NewC (B:Nat) (v:Value) (W:World):Prop:=∃ b,v = .pointer (some ⟨b,0,none⟩)∧W.heap[b]?=some (.cells #[.slice none 0 0,.slice none 0 0] 49 (0,0))∧B≤b
theorem heap_lt {W:World} {b:Nat} {o:Obj} (h:W.heap[b]?=some o):b < W.heap.size:=by
 rcases Nat.lt_or_ge b W.heap.size with h'|h'
 ·exact h'
 ·rw [Array.getElem?_eq_none h'] at h;cases h
theorem NewC.up {B:Nat} {v:Value} {W W':World} (h:NewC B v W) (hB:Below W.heap.size W W'):NewC B v W':=by
 obtain ⟨b,e,h1,h2⟩:=h
 exact ⟨b,e,by rw [hB.block b (heap_lt h1)];exact h1,h2⟩
theorem new_cel {W:World} {b:Nat} {s t:Value} {e:TypeId} (h:W.heap[b]?=some (.cells #[s,t] e (0,0))):Cel W b s t:=by
 refine ⟨?_,?_,?_,?_⟩
 ·unfold World.cell?;simp [h]
 ·unfold World.cell?;simp [h]
 ·unfold World.frozen?;simp [h]
 ·unfold World.frozen?;simp [h]
theorem OwnK.off_type {k:IntKind} {e e':TypeId} {W:World} {B b:Nat} {v:Value} {l:List Int} {cs:Array Value} {fz:Nat×Nat} (h:OwnK k e W B v l) (hb:W.heap[b]?=some (.cells cs e' fz)) (hne:e≠e'):Off b v:=by
 intro ad n c ev
 rcases h.2 with ⟨h1,_⟩|⟨q,cap,cur,h1,h2,h3,_⟩
 ·rw [h1] at ev;cases ev
 ·rw [h1] at ev
  cases ev
  intro hq
  have hq:q=b:=hq
  subst hq
  rw [h3] at hb
  injection hb with hb
  injection hb with _ h5 _
  exact hne h5
/-- A tensor's copy. -/
def OwnT (B:Nat) (D X:List Int) (v:Value) (W:World):Prop:=∃ p n c p2 n2 c2,v = .agg #[.slice p n c,.slice p2 n2 c2]∧OwnK .i64 3 W B (.slice p n c) D∧OwnK .i64 46 W B (.slice p2 n2 c2) X
theorem OwnT.up {B:Nat} {D X:List Int} {v:Value} {W W':World} (h:OwnT B D X v W) (hB:Below W.heap.size W W'):OwnT B D X v W':=by
 obtain ⟨p,n,c,p2,n2,c2,e,h1,h2⟩:=h
 exact ⟨p,n,c,p2,n2,c2,e,h1.up hB,h2.up hB⟩
/-- A tensor's two literals. -/
def TupP (B:Nat) (D X:List Int) (E:Int) (v:Value) (W:World):Prop:=∃ u,v = .tuple #[u,.int .i64 E]∧OwnT B D X u W
theorem TupP.up {B:Nat} {D X:List Int} {E:Int} {v:Value} {W W':World} (h:TupP B D X E v W) (hB:Below W.heap.size W W'):TupP B D X E v W':=by
 obtain ⟨u,e,h1⟩:=h
 exact ⟨u,e,h1.up hB⟩
theorem TRes.own {W:World} {B:Nat} {v:Value} {D X:List Int} (h:TRes W B v D X):OwnT B D X v W:=by
 obtain ⟨s,t,rfl,h1,h2⟩:=h
 obtain ⟨p,n,c,rfl,_⟩:=h1.nums.lst
 obtain ⟨p2,n2,c2,rfl,_⟩:=h2.nums.lst
 exact ⟨p,n,c,p2,n2,c2,rfl,h1,h2⟩
/-- A slice has room for what it holds. -/
theorem OwnK.cap {k:IntKind} {e:TypeId} {W:World} {B n c:Nat} {p:Option Addr} {l:List Int} (h:OwnK k e W B (.slice p n c) l):n≤c:=by
 rcases h.2 with ⟨h1,_⟩|⟨q,cap,cur,h1,h2,h3,h4,_⟩
 ·cases h1
  exact Nat.le_refl _
 ·cases h1
  exact h4
theorem good_two {D0 D1:Nat}:goodN (ntl [(D0:Int),(D1:Int)])↔1≤D0∧1≤D1∧D0*D1≤4096:=by
 have en:ntl [(D0:Int),(D1:Int)] = [D0,D1]:=ntl_itl [D0,D1]
 rw [en]
 constructor
 ·intro h
  exact ⟨h.2.1 _ (by simp),h.2.1 _ (by simp),by have:=h.2.2;simpa [prodN] using this⟩
 ·rintro ⟨a,b,c⟩
  exact ⟨by simp,fun y hy=>by simp at hy;omega,by simpa [prodN] using c⟩
theorem RI_kern {l:List Int} (h:(l.all fun y=>decide (-9223372036854775808≤y∧y≤9223372036854775807))=true):RI l:=fun y hy=>by
 have:=List.all_eq_true.1 h y hy
 simpa using this
theorem two_sides {d x:List Int} (h:isP d x) (h2:d.length=2):∃ D0 D1:Nat,d = [(D0:Int),(D1:Int)]∧x.length=D0*D1∧1≤D0∧1≤D1∧D0*D1≤4096:=by
 obtain ⟨a,ga,rfl⟩:=good_itl h.1
 have hx:=h.2
 rw [ntl_itl] at hx
 rw [itl_len] at h2
 match a,h2 with
 | [D0,D1],_=>
  have e:prodN [D0,D1]=D0*D1:=by simp [prodN]
  rw [e] at hx
  refine ⟨D0,D1,rfl,hx,ga.2.1 _ (by simp),ga.2.1 _ (by simp),?_⟩
  have:=ga.2.2
  rw [e] at this
  exact this
theorem three_sides {d x:List Int} (h:isP d x) (h2:d.length=3):∃ D0 D1 D2:Nat,d = [(D0:Int),(D1:Int),(D2:Int)]∧x.length=D0*D1*D2∧1≤D0∧1≤D1∧1≤D2∧D0*D1*D2≤4096:=by
 obtain ⟨a,ga,rfl⟩:=good_itl h.1
 have hx:=h.2
 rw [ntl_itl] at hx
 rw [itl_len] at h2
 match a,h2 with
 | [D0,D1,D2],_=>
  have e:prodN [D0,D1,D2]=D0*D1*D2:=by simp [prodN,Nat.mul_assoc]
  rw [e] at hx
  refine ⟨D0,D1,D2,rfl,hx,ga.2.1 _ (by simp),ga.2.1 _ (by simp),ga.2.1 _ (by simp),?_⟩
  have:=ga.2.2
  rw [e] at this
  exact this
theorem prod_two (a b:Nat):prodN (ntl [(a:Int),(b:Int)])=a*b:=by rw [show ntl [(a:Int),(b:Int)] = [a,b] from ntl_itl [a,b]];simp [prodN]
end Go.Proofs.YtihjnbbhpojnpaaGreatDoor.Wd
namespace Go.Proofs.YtihjnbbhpojnpaaGreatDoor.Wd
open Go.RowKit Fx
/-- Blocks of other types than these stand. -/
def Only (S:List TypeId) (W W':World):Prop:=W.heap.size≤W'.heap.size∧∀ k,k < W.heap.size→(∀ cs e fz,W.heap[k]?=some (.cells cs e fz)→e∉S)→W'.heap[k]?=W.heap[k]?
theorem Only.refl (S:List TypeId) (W:World):Only S W W:=⟨Nat.le_refl _,fun _ _ _=>rfl⟩
theorem Only.trans {S:List TypeId} {a b c:World} (h:Only S a b) (h2:Only S b c):Only S a c:=⟨Nat.le_trans h.1 h2.1,fun k hk hp=>by
 have e:=h.2 k hk hp
 rw [h2.2 k (Nat.lt_of_lt_of_le hk h.1) (by rw [e];exact hp),e]⟩
theorem Only.of {S:List TypeId} {a b:World} (h:Below a.heap.size a b):Only S a b:=⟨h.size,fun k hk _=>h.block k hk⟩
theorem Only.more {S S':List TypeId} {a b:World} (h:Only S a b) (hs:∀ e,e∈S→e∈S'):Only S' a b:=⟨h.1,fun k hk hp=>h.2 k hk fun cs e fz he hm=>hp cs e fz he (hs e hm)⟩
theorem Only.keep {S:List TypeId} {a b:World} (h:Only S a b) {k:Nat} {cs:Array Value} {e:TypeId} {fz:Nat×Nat} (hk:a.heap[k]?=some (.cells cs e fz)) (he:e∉S):b.heap[k]?=some (.cells cs e fz):=by
 rw [h.2 k (heap_lt hk) (fun cs' e' fz' h'=>by rw [hk] at h';cases h';exact he)]
 exact hk
theorem Only.grown {S:List TypeId} {a b:World} {row:Option Nat} (h:a.grownBy b row) (hr:∀ k,row=some k→∃ cs e fz,a.heap[k]?=some (.cells cs e fz)∧e∈S):Only S a b:=⟨h.size,fun k hk hp=>h.block k hk fun e=>by
 obtain ⟨cs,e',fz,h1,h2⟩:=hr k e.symm
 exact hp cs e' fz h1 h2⟩
theorem heap_set (W:World) (b o:Nat) (x:Value) (k:Nat) (h:k≠b):(W.setCell ⟨b,o,none⟩ x).heap[k]?=W.heap[k]?:=by
 unfold World.setCell
 simp [Array.getElem?_modify,Ne.symm h]
theorem heap_setat {W:World} {b o:Nat} {x:Value} {cs:Array Value} {e:TypeId} {fz:Nat×Nat} (h:W.heap[b]?=some (.cells cs e fz)):(W.setCell ⟨b,o,none⟩ x).heap[b]?=some (.cells (cs.setIfInBounds o x) e fz):=by
 unfold World.setCell
 simp [Array.getElem?_modify,h]
theorem Only.set {S:List TypeId} {W:World} {b o:Nat} {x:Value} {cs:Array Value} {e:TypeId} {fz:Nat×Nat} (h:W.heap[b]?=some (.cells cs e fz)) (he:e∈S):Only S W (W.setCell ⟨b,o,none⟩ x):=⟨by simp,fun k hk hp=>heap_set W b o x k fun hkb=>by
 subst hkb
 exact hp cs e fz h he⟩
theorem OwnK.only {k:IntKind} {e:TypeId} {S:List TypeId} {W W':World} {B:Nat} {v:Value} {l:List Int} (h:OwnK k e W B v l) (ho:Only S W W') (he:e∉S):OwnK k e W' B v l:=by
 refine ⟨h.1,?_⟩
 rcases h.2 with hn|⟨g,cap,cur,hv,hb,hg,rest⟩
 ·exact .inl hn
 ·exact .inr ⟨g,cap,cur,hv,hb,ho.keep hg he,rest⟩
/-- A node, as the document has it. -/
structure Nd where
 op:Int
 a:Int
 b:Int
 k:Int
 D:List Int
 X:List Int
/-- A node's six cells. -/
def NdC (W:World) (B:Nat) (nd:Nd) (u:List Value):Prop:=∃ s t,u = [.int .i64 nd.op,.int .i64 nd.a,.int .i64 nd.b,.int .i64 nd.k,s,t]∧OwnK .i64 3 W B s nd.D∧OwnK .i64 46 W B t nd.X
def NdsC (W:World) (B:Nat) (ns:List Nd) (xs:List Value):Prop:=xs.length=ns.length*6∧∀ i nd,ns[i]?=some nd→NdC W B nd ((xs.drop (i*6)).take 6)
theorem NdC.only {S:List TypeId} {W W':World} {B:Nat} {nd:Nd} {u:List Value} (h:NdC W B nd u) (ho:Only S W W') (h1:3∉S) (h2:46∉S):NdC W' B nd u:=by
 obtain ⟨s,t,e,hs,ht⟩:=h
 exact ⟨s,t,e,hs.only ho h1,ht.only ho h2⟩
theorem NdsC.only {S:List TypeId} {W W':World} {B:Nat} {ns:List Nd} {xs:List Value} (h:NdsC W B ns xs) (ho:Only S W W') (h1:3∉S) (h2:46∉S):NdsC W' B ns xs:=⟨h.1,fun i nd hn=>(h.2 i nd hn).only ho h1 h2⟩
theorem NdC.len {W:World} {B:Nat} {nd:Nd} {u:List Value} (h:NdC W B nd u):u.length=6:=by
 obtain ⟨s,t,rfl,_⟩:=h
 rfl
theorem NdC.one {W:World} {B:Nat} {nd:Nd} {u:List Value} (h:NdC W B nd u):∀ x∈u,x.oneCell'=true:=by
 obtain ⟨s,t,rfl,hs,ht⟩:=h
 obtain ⟨_,_,_,rfl,_⟩:=hs.nums.lst
 obtain ⟨_,_,_,rfl,_⟩:=ht.nums.lst
 intro x hx
 simp only [List.mem_cons,List.not_mem_nil,or_false] at hx
 rcases hx with rfl|rfl|rfl|rfl|rfl|rfl <;> rfl
theorem NdsC.push {W:World} {B:Nat} {ns:List Nd} {xs:List Value} {nd:Nd} {u:List Value} (h:NdsC W B ns xs) (hu:NdC W B nd u):NdsC W B (ns++[nd]) (xs++u):=by
 have hl:=hu.len
 refine ⟨by rw [List.length_append,List.length_append,h.1,hl];simp;omega,fun i x hi=>?_⟩
 by_cases hlt:i < ns.length
 ·rw [List.getElem?_append_left hlt] at hi
  have:=h.2 i x hi
  rw [List.drop_append_of_le_length (by rw [h.1];omega),List.take_append_of_le_length (by rw [List.length_drop,h.1];omega)]
  exact this
 ·rw [List.getElem?_append_right (by omega)] at hi
  obtain hi0:i=ns.length:=by
   rcases Nat.eq_or_lt_of_le (Nat.le_of_not_lt hlt) with e|e
   ·exact e.symm
   ·rw [List.getElem?_eq_none (by simp;omega)] at hi
    cases hi
  subst hi0
  rw [Nat.sub_self] at hi
  cases hi
  rw [← h.1,List.drop_left,List.take_of_length_le (by omega)]
  exact hu
theorem NdsC.nil (W:World) (B:Nat):NdsC W B [] []:=⟨rfl,fun i nd h=>by simp at h⟩
/-- A tape: a block with one cell, the row of its nodes. -/
def Tap (TT NT:TypeId) (W:World) (B b:Nat) (ns:List Nd):Prop:=B≤b∧∃ v xs,W.heap[b]?=some (.cells #[v] TT (0,0))∧W.ownsRow B NT 6 v ns.length xs∧NdsC W B ns xs
theorem owns_only {S:List TypeId} {W W':World} {B n s:Nat} {e:TypeId} {v:Value} {xs:List Value} (h:W.ownsRow B e s v n xs) (ho:Only S W W') (he:e∉S):W'.ownsRow B e s v n xs:=by
 refine ⟨h.1,?_⟩
 rcases h.2 with hn|⟨g,cap,cur,hv,hb,hg,rest⟩
 ·exact .inl hn
 ·exact .inr ⟨g,cap,cur,hv,hb,ho.keep hg he,rest⟩
theorem Tap.only {TT NT:TypeId} {S:List TypeId} {W W':World} {B b:Nat} {ns:List Nd} (h:Tap TT NT W B b ns) (ho:Only S W W') (h1:TT∉S) (h2:NT∉S) (h3:3∉S) (h4:46∉S):Tap TT NT W' B b ns:=by
 obtain ⟨hb,v,xs,hv,ho2,hn⟩:=h
 exact ⟨hb,v,xs,ho.keep hv h1,owns_only ho2 ho h2,hn.only ho h3 h4⟩
theorem Tap.up {TT NT:TypeId} {W W':World} {B b:Nat} {ns:List Nd} (h:Tap TT NT W B b ns) (hB:Below W.heap.size W W'):Tap TT NT W' B b ns:=h.only (S:=[]) (Only.of hB) (by simp) (by simp) (by simp) (by simp)
theorem Tap.new {TT NT:TypeId} {W:World} {B:Nat} (hB:B≤W.heap.size):Tap TT NT (W.alloc (.cells #[.slice none 0 0] TT)) B W.heap.size []:=
 ⟨hB,_,[],heap_alloc_new W _,World.ownsRow_nil _ _ _ _,NdsC.nil _ _⟩
theorem owned_off {TT NT:TypeId} (hne:NT≠TT) {W:World} {B b n s:Nat} {v v':Value} {xs:List Value} (hb:W.heap[b]?=some (.cells #[v'] TT (0,0))) (h:W.ownsRow B NT s v n xs):v.ownBlock≠some b:=by
 rcases h.2 with ⟨rfl,_⟩|⟨g,cap,cur,rfl,_,hg,_⟩
 ·simp [Value.ownBlock]
 ·intro e
  simp [Value.ownBlock] at e
  subst e
  rw [hb] at hg
  cases hg
  exact hne rfl
/-- A node more: the row was made longer, then the tape's cell was written. -/
theorem Tap.push {TT NT:TypeId} (hne:NT≠TT) (n1:3∉[TT,NT]) (n2:46∉[TT,NT]) {W W':World} {B b:Nat} {ns:List Nd} {v v':Value} {xs u:List Value} {nd:Nd} (hB:B≤b)
  (hv:W.heap[b]?=some (.cells #[v] TT (0,0))) (ho:W.ownsRow B NT 6 v ns.length xs) (hn:NdsC W B ns xs) (hu:NdC W B nd u) (hg:W.grownBy W' v.ownBlock) (ho':W'.ownsRow B NT 6 v' (ns.length+1) (xs++u)):
  Tap TT NT (W'.setCell ⟨b,0,none⟩ v') B b (ns++[nd])∧Only [TT,NT] W (W'.setCell ⟨b,0,none⟩ v'):=by
 have hrow:∀ k,v.ownBlock=some k→∃ cs e fz,W.heap[k]?=some (.cells cs e fz)∧e∈[TT,NT]:=fun k hk=>by
  rcases ho.2 with ⟨rfl,_⟩|⟨g,cap,cur,rfl,_,hg2,_⟩
  ·simp [Value.ownBlock] at hk
  ·simp [Value.ownBlock] at hk
   subst hk
   exact ⟨_,_,_,hg2,by simp⟩
 have o1:Only [TT,NT] W W':=Only.grown hg hrow
 have hv1:W'.heap[b]?=some (.cells #[v] TT (0,0)):=by
  rw [hg.block b (heap_lt hv) (Ne.symm (owned_off hne hv ho))]
  exact hv
 have o2:Only [TT,NT] W' (W'.setCell ⟨b,0,none⟩ v'):=Only.set hv1 (by simp)
 have o3:Only [TT] W' (W'.setCell ⟨b,0,none⟩ v'):=Only.set hv1 (by simp)
 refine ⟨⟨hB,v',xs++u,?_,?_,?_⟩,o1.trans o2⟩
 ·rw [heap_setat hv1]
  rfl
 ·rw [List.length_append]
  exact owns_only ho' o3 (by simp;exact hne)
 ·exact ((hn.push hu).only o1 n1 n2).only o2 n1 n2
/-- What a walk reads of a tape. -/
theorem Tap.head {TT NT:TypeId} {W:World} {B b:Nat} {ns:List Nd} (h:Tap TT NT W B b ns):∃ p c xs,W.heap[b]?=some (.cells #[.slice p ns.length c] TT (0,0))∧W.ownsRow B NT 6 (.slice p ns.length c) ns.length xs∧NdsC W B ns xs∧ns.length≤c:=by
 obtain ⟨hb,v,xs,hv,ho,hn⟩:=h
 rcases ho.2 with ⟨rfl,h0⟩|⟨g,cap,cur,rfl,hbg,hg,hc,rest⟩
 ·rw [h0] at ho
  have hns:ns = []:=List.eq_nil_of_length_eq_zero h0
  subst hns
  exact ⟨none,0,xs,hv,ho,hn,Nat.le_refl _⟩
 ·exact ⟨_,_,xs,hv,ho,hn,hc⟩
theorem head_cell {W:World} {b:Nat} {v:Value} {e:TypeId} (h:W.heap[b]?=some (.cells #[v] e (0,0))):W.cell? ⟨b,0,none⟩=some v∧W.frozen? ⟨b,0,none⟩=false:=by
 unfold World.cell? World.frozen?
 simp [h]
/-- A node's cells, one by one. -/
theorem node_cells {NT:TypeId} {W:World} {B:Nat} {ns:List Nd} {p:Option Addr} {c n:Nat} {xs:List Value} (ho:W.ownsRow B NT 6 (.slice p n c) n xs) (hn:NdsC W B ns xs) (hl:ns.length=n) (i:Nat) (hi:i < n):
  ∃ q nd s t,p=some ⟨q,0,none⟩∧ns[i]?=some nd∧W.cell? ⟨q,i*6,none⟩=some (.int .i64 nd.op)∧W.cell? ⟨q,i*6+1,none⟩=some (.int .i64 nd.a)∧W.cell? ⟨q,i*6+2,none⟩=some (.int .i64 nd.b)∧W.cell? ⟨q,i*6+3,none⟩=some (.int .i64 nd.k)∧W.cell? ⟨q,i*6+4,none⟩=some s∧W.cell? ⟨q,i*6+5,none⟩=some t
   ∧ OwnK .i64 3 W B s nd.D∧OwnK .i64 46 W B t nd.X:=by
 have hnd:ns[i]?=some (ns[i]'(by omega)):=List.getElem?_eq_getElem _
 obtain ⟨s,t,e,hs,ht⟩:=hn.2 i _ hnd
 have hx:∀ j u,((xs.drop (i*6)).take 6)[j]?=some u→xs[i*6+j]?=some u:=fun j u h=>by
  rw [List.getElem?_take] at h
  split at h
  ·rw [List.getElem?_drop] at h
   exact h
  ·cases h
 rw [e] at hx
 rcases ho.2 with ⟨h0,h1⟩|⟨g,cap,cur,hv,hb,hg,rest⟩
 ·omega
 ·cases hv
  have hc:∀ j u,xs[j]?=some u→W.cell? ⟨g,j,none⟩=some u:=fun j u h=>by
   have:=ho.cells (g:=g) rfl j u h
   rw [addr_plus,Nat.zero_add] at this
   exact this
  exact ⟨g,_,s,t,rfl,hnd,hc _ _ (hx 0 _ rfl),hc _ _ (hx 1 _ rfl),hc _ _ (hx 2 _ rfl),hc _ _ (hx 3 _ rfl),hc _ _ (hx 4 _ rfl),hc _ _ (hx 5 _ rfl),hs,ht⟩
/-- A slice's type whose elements are nodes. -/
structure StT (P:Program) (t e:TypeId) (b:Nat):Prop where
 ht:P.underlying t=some (.slice e)
 hi:(P.info? e).map (fun i=>(i.zero.map fun z=>z.cells.size,i.size,i.bytes))=some (some 6,6,b)
/-- A literal's block of one node. -/
def LitS (e:TypeId) (B:Nat) (u:List Value) (v:Value) (W:World):Prop:=∃ g,v = .slice (some ⟨g,0,none⟩) 1 1∧W.heap[g]?=some (.cells u.toArray e (0,0))∧B≤g
theorem LitS.up {e:TypeId} {B:Nat} {u:List Value} {v:Value} {W W':World} (h:LitS e B u v W) (hB:Below W.heap.size W W'):LitS e B u v W':=by
 obtain ⟨g,e1,h1,h2⟩:=h
 exact ⟨g,e1,by rw [hB.block g (heap_lt h1)];exact h1,h2⟩
theorem LitS.grown {e:TypeId} {B:Nat} {u:List Value} {v:Value} {W W':World} {r:Option Nat} (h:LitS e B u v W) (hg:W.grownBy W' r) (hr:∀ k,r=some k→k < B):LitS e B u v W':=by
 obtain ⟨g,e1,h1,h2⟩:=h
 refine ⟨g,e1,?_,h2⟩
 rw [hg.block g (heap_lt h1) (fun e=>by have:=hr g e.symm;omega)]
 exact h1
/-- A row of nodes of one's own. -/
def OwnN (e:TypeId) (B n:Nat) (xs:List Value) (v:Value) (W:World):Prop:=W.ownsRow B e 6 v n xs
theorem OwnN.up {e:TypeId} {B n:Nat} {xs:List Value} {v:Value} {W W':World} (h:OwnN e B n xs v W) (hB:Below W.heap.size W W'):OwnN e B n xs v W':=owns_only (S:=[]) h (Only.of hB) (by simp)
theorem grown_up {a b c:World} {r:Option Nat} (h:a.grownBy b r) (h2:Below b.heap.size b c):a.grownBy c r:=⟨h2.os.trans h.os,h2.tape.trans h.tape,h2.output.trans h.output,Nat.le_trans h.size h2.size,fun k hk hr=>(h2.block k (Nat.lt_of_lt_of_le hk h.size)).trans (h.block k hk hr)⟩
theorem below_grown {a b:World} (r:Option Nat) (h:Below a.heap.size a b):a.grownBy b r:=⟨h.os,h.tape,h.output,h.size,fun k hk _=>h.block k hk⟩
theorem grown_trans {a b c:World} {r:Option Nat} (h:a.grownBy b r) (h2:b.grownBy c r):a.grownBy c r:=⟨h2.os.trans h.os,h2.tape.trans h.tape,h2.output.trans h.output,Nat.le_trans h.size h2.size,fun k hk hr=>(h2.block k (Nat.lt_of_lt_of_le hk h.size) hr).trans (h.block k hk hr)⟩
end Go.Proofs.YtihjnbbhpojnpaaGreatDoor.Wd
namespace Go.Proofs.YtihjnbbhpojnpaaGreatDoor.Wd
open Go.RowKit
/-- A slice of layers. -/
def LyR (L:TypeId) (W:World) (p:Option Addr) (n:Nat) (ls:List Ly):Prop:=ls.length=n∧∀ i,i < n→∃ q o,p=some ⟨q,o,none⟩∧W.cell? ⟨q,o+i*3,none⟩=some (.string (lyA ls i).1)∧W.cell? ⟨q,o+i*3+1,none⟩=some (.int .i64 (lyA ls i).2.1)∧W.cell? ⟨q,o+i*3+2,none⟩=some (.int .i64 (lyA ls i).2.2)
theorem LyR.up {L:TypeId} {W W':World} {p:Option Addr} {n:Nat} {ls:List Ly} (h:LyR L W p n ls) (hB:Below W.heap.size W W'):LyR L W' p n ls:=⟨h.1,fun i hi=>by
 obtain ⟨q,o,e,h1,h2,h3⟩:=h.2 i hi
 exact ⟨q,o,e,still_cell hB h1,still_cell hB h2,still_cell hB h3⟩⟩
def Kz (w:World):Prop:=∀ i,i < 5→w.cell? ⟨0,i*4,none⟩=some (.string (kName i))∧w.cell? ⟨0,i*4+1,none⟩=some (.int .i64 (kCnt i))∧w.cell? ⟨0,i*4+2,none⟩=some (.int .i64 (kTopA i))∧w.cell? ⟨0,i*4+3,none⟩=some (.int .i64 (kTopB i))
theorem Hid.up_kz {w w1:World} (h:Hid (Kz w)) (hb:Below w.heap.size w w1):Hid (Kz w1):=fun i hi=>by
 obtain ⟨h1,h2,h3,h4⟩:=h.out i hi
 exact ⟨still_cell hb h1,still_cell hb h2,still_cell hb h3,still_cell hb h4⟩
theorem isBlank_any (r:Int) (w:World):Calls Tryz.prog 34 #[.int .i32 r] w fun e w'=>e = .returned (.bool (r==32 || r==9 || r==10))∧w'=w:=by
 obtain ⟨z,ez⟩:∃ z,(r==32 || r==9 || r==10)=z:=⟨_,rfl⟩
 have HZ:Hid ((r==32 || r==9 || r==10)=z):=ez
 rw [ez]
 clear ez
 go_enter Tryz.func34,Tryz.ntmps34
 by_cases h1:r=32
 ·subst h1
  go_wp2
  go_ret
  exact ⟨by rw [← HZ.out];rfl,rfl⟩
 have g1:(r==32)=false:=by simpa using h1
 by_cases h2:r=9
 ·subst h2
  go_wp2
  go_ret
  exact ⟨by rw [← HZ.out];rfl,rfl⟩
 have g2:(r==9)=false:=by simpa using h2
 have HG:Hid ((r==32)=false∧(r==9)=false):=⟨g1,g2⟩
 go_wp2
 go_ret
 exact ⟨by rw [← HZ.out,HG.out.1,HG.out.2];rfl,rfl⟩
theorem within_any (v t:Int) (w:World):Calls Tryz.prog 67 #[.int .i64 v,.int .i64 t] w fun e w'=>e = .returned (.bool (decide (1≤v∧v≤t)))∧w'=w:=by
 obtain ⟨z,ez⟩:∃ z,decide (1≤v∧v≤t)=z:=⟨_,rfl⟩
 have HZ:Hid (decide (1≤v∧v≤t)=z):=ez
 rw [ez]
 clear ez
 go_enter Tryz.func67,Tryz.ntmps67
 by_cases h1:1≤v
 ·by_cases h2:v≤t
  ·go_wp2
   go_ret
   exact ⟨by rw [← HZ.out,decide_eq_true ⟨h1,h2⟩];rfl,rfl⟩
  ·have h2':t < v:=by omega
   go_wp2
   go_ret
   exact ⟨by rw [← HZ.out,decide_eq_false fun h=>by omega];rfl,rfl⟩
 ·have h1':v < 1:=by omega
  go_wp2
  go_ret
  exact ⟨by rw [← HZ.out,decide_eq_false fun h=>by omega];rfl,rfl⟩
theorem prodI_snoc (l:List Int) (x:Int):prodI (l++[x])=prodI l*x:=by simp [prodI]
/-- Sides so small that their product can't run over. -/
def Smal (l:List Int):Prop:=l.length≤4∧∀ k,k≤l.length→-9223372036854775808≤prodI (l.take k)∧prodI (l.take k)≤9223372036854775807
theorem csize_any (v:Value) (l:List Int) (hl:Smal l) (w:World) (hv:Nums .i64 w v l):
  Calls Tryz.prog 25 #[v] w fun e w'=>e = .returned (.int .i64 (prodI l))∧w'=w:=by
 obtain ⟨p,n,c,rfl,HC⟩:=hv.lst
 have HL:Hid (Smal l):=hl
 have hn4:(n:Int)≤4:=by have:=hl.1;rw [HC.out.1] at this;omega
 obtain ⟨r,er⟩:∃ r:Int,prodI l=r:=⟨_,rfl⟩
 have HR:Hid (prodI l=r):=er
 rw [er]
 clear er hv hl
 go_enter Tryz.func25,Tryz.ntmps25
 go_wp2_with fail
 go_loopg [3,8] n (fun gg u v wr=>∃ (k:Nat) (x:Int),k≤n∧gg=n - k∧u = .int .i64 x∧v = .int .i64 (k:Int)∧Hid (x=prodI (l.take k))∧wr=w)
 case atStart=>exact ⟨0,1,by omega,by omega,rfl,rfl,rfl,rfl⟩
 case round=>
  obtain ⟨k,x,hk,hg,rfl,rfl,Hx,rfl⟩:=hrel
  by_cases hkn:k < n
  ·have hk':(k:Int) < (n:Int):=by omega
   obtain ⟨q,o,rfl,hcell⟩:=HC.out.2 k hkn
   have hkl:k < l.length:=by rw [HC.out.1];exact hkn
   obtain ⟨y,ey⟩:∃ y,l.getD k 0=y:=⟨_,rfl⟩
   rw [ey] at hcell
   have e1:x*y=prodI (l.take (k+1)):=by
    rw [List.take_add_one,List.getElem?_eq_getElem hkl,Option.toList_some,prodI_snoc,Hx.out,← ey,List.getD_eq_getElem?_getD,List.getElem?_eq_getElem hkl]
    rfl
   have hm:=HL.out.2 (k+1) (by omega)
   rw [← e1] at hm
   obtain ⟨m,em⟩:∃ m,x*y=m:=⟨_,rfl⟩
   rw [em] at hm e1
   have Hn:Hid (m=prodI (l.take (k+1))):=e1
   clear ey hkl e1
   go_wp2
   go_roundg (n - (k+1))
   case measure=>omega
   case rel=>exact ⟨k+1,m,by omega,rfl,by first|rfl|simp [em],by first|rfl|simp,Hn,rfl⟩
  ·obtain rfl:k=n:=by omega
   go_wp2
   go_ret
   rw [← HR.out,Hx.out,List.take_of_length_le (by rw [HC.out.1];exact Nat.le_refl _)]
   exact ⟨rfl,rfl⟩
theorem ctoo_any (v:Value) (l:List Int) (hl:Smal l) (w:World) (hv:Nums .i64 w v l):
  Calls Tryz.prog 56 #[v] w fun e w'=>e = .returned (.bool (decide (4096 < prodI l)))∧w'=w:=by
 have cs:=csize_any v l hl w hv
 obtain ⟨r,er⟩:∃ r:Int,prodI l=r:=⟨_,rfl⟩
 rw [er] at cs ⊢
 clear er hv
 go_enter Tryz.func56,Tryz.ntmps56
 go_wp2_with fail
 refine cs.mono ?_
 rintro e w1 ⟨rfl,rfl⟩
 go_wp2
 go_ret
 exact ⟨rfl,rfl⟩
theorem InOk.smal {d:List Int} (h:InOk d):Smal d:=by
 refine ⟨by rcases h with ⟨x,rfl,h⟩|⟨x,y,rfl,hx,hy⟩ <;> simp,fun k hk=>?_⟩
 rcases h with ⟨x,rfl,h⟩|⟨x,y,rfl,hx,hy⟩
 ·rcases (show k=0∨k=1 by simp at hk;omega) with rfl|rfl <;> simp [prodI] <;> omega
 ·have:=mprod_rng hx hy
  rcases (show k=0∨k=1∨k=2 by simp at hk;omega) with rfl|rfl|rfl <;> simp [prodI] <;> omega
theorem kind_at (s:ByteArray) (k:Nat) (hk:k < 5) (h:kName k=s):kindI s=k:=by
 subst h
 rcases (show k=0∨k=1∨k=2∨k=3∨k=4 by omega) with rfl|rfl|rfl|rfl|rfl <;> decide +kernel
theorem kind_no (s:ByteArray) (h:∀ k,k < 5→kName k≠s):kindI s=5:=by
 rcases kind_cases s with ⟨e,_⟩|⟨e,_⟩|⟨e,_⟩|⟨e,_⟩|⟨e,_⟩|⟨_,e⟩
 ·exact absurd e.symm (h 0 (by omega))
 ·exact absurd e.symm (h 1 (by omega))
 ·exact absurd e.symm (h 2 (by omega))
 ·exact absurd e.symm (h 3 (by omega))
 ·exact absurd e.symm (h 4 (by omega))
 ·exact e
def kArr:Array Value:=#[.string (kName 0),.int .i64 (kCnt 0:Nat),.int .i64 (kTopA 0),.int .i64 (kTopB 0),.string (kName 1),.int .i64 (kCnt 1:Nat),.int .i64 (kTopA 1),.int .i64 (kTopB 1),.string (kName 2),.int .i64 (kCnt 2:Nat),.int .i64 (kTopA 2),.int .i64 (kTopB 2),.string (kName 3),.int .i64 (kCnt 3:Nat),.int .i64 (kTopA 3),.int .i64 (kTopB 3),.string (kName 4),.int .i64 (kCnt 4:Nat),.int .i64 (kTopA 4),.int .i64 (kTopB 4)]
theorem kz_range {w:World} (h:Kz w):w.rangeAt 0 0 kArr.toList:=by
 intro j v hj
 have hl:j < 20:=(List.getElem?_eq_some_iff.1 hj).1
 rw [Nat.zero_add]
 have hq:∃ i,i < 5∧(j=i*4∨j=i*4+1∨j=i*4+2∨j=i*4+3):=⟨j / 4,by omega,by omega⟩
 obtain ⟨i,hi,hji⟩:=hq
 obtain ⟨h0,h1,h2,h3⟩:=h i hi
 rcases (show i=0∨i=1∨i=2∨i=3∨i=4 by omega) with rfl|rfl|rfl|rfl|rfl <;> rcases hji with rfl|rfl|rfl|rfl <;> first|exact h0.trans hj|exact h1.trans hj|exact h2.trans hj|exact h3.trans hj
theorem str_ne {x y:ByteArray} (h:x≠y):(x.toList==y.toList)=false:=(Lib.bytes_beq_false_iff x y).2 h
theorem kArr_at (k:Nat) (hk:k < 5):∀ W,(Instr.index 111 (.agg kArr) (.int .i64 (k:Int))).run Tryz.prog W = .ok (.agg #[.string (kName k),.int .i64 (kCnt k:Nat),.int .i64 (kTopA k),.int .i64 (kTopB k)]) W:=by
 intro W
 rcases (show k=0∨k=1∨k=2∨k=3∨k=4 by omega) with rfl|rfl|rfl|rfl|rfl <;> kernel_rfl
theorem four_set {W U:World} {b:Nat} {t:TypeId} {a0 a1 a2 a3 x0 x1 x2 x3:Value} (h:W.heap[b]?=some (.cells #[a0,a1,a2,a3] t (0,0))) (e:(((W.setCell ⟨b,0,none⟩ x0).setCell ⟨b,1,none⟩ x1).setCell ⟨b,2,none⟩ x2).setCell ⟨b,3,none⟩ x3=U):
  U.cell? ⟨b,0,none⟩=some x0∧U.cell? ⟨b,1,none⟩=some x1∧U.cell? ⟨b,2,none⟩=some x2∧U.cell? ⟨b,3,none⟩=some x3∧∀ w,Below b w W→Below b w U:=by
 have h4:U.heap[b]?=some (.cells #[x0,x1,x2,x3] t (0,0)):=by
  rw [← e,heap_setat (heap_setat (heap_setat (heap_setat h)))]
  rfl
 refine ⟨by simp [World.cell?,h4],by simp [World.cell?,h4],by simp [World.cell?,h4],by simp [World.cell?,h4],fun w hB=>?_⟩
 rw [← e]
 exact (((hB.setCell (Nat.le_refl _) _).setCell (Nat.le_refl _) _).setCell (Nat.le_refl _) _).setCell (Nat.le_refl _) _
theorem kindOf_any (s:ByteArray) (w:World) (hK:Hid (Kz w)):
  Calls Tryz.prog 31 #[.string s] w fun e w'=>e = .returned (.tuple #[.agg #[.string (kName (kindI s)),.int .i64 (kCnt (kindI s)),.int .i64 (kTopA (kindI s)),.int .i64 (kTopB (kindI s))],.bool (decide (kindI s < 5))])∧Below w.heap.size w w':=by
 obtain ⟨z,ez⟩:∃ z,kindI s=z:=⟨_,rfl⟩
 have HZ:Hid (kindI s=z):=ez
 obtain ⟨zb,eb⟩:∃ zb,decide (z < 5)=zb:=⟨_,rfl⟩
 have HZB:Hid (decide (z < 5)=zb):=eb
 rw [ez,eb]
 clear ez eb
 go_enter Tryz.func31,Tryz.ntmps31
 have hz:=cell_size (hK.out 0 (by omega)).1
 have hrg:(w.alloc (.cells #[.string ⟨#[]⟩,.int .i64 0,.int .i64 0,.int .i64 0] 84)).rangeAt 0 0 kArr.toList:=kz_range (Hid.up_kz hK (up_alloc w _)).out
 have HRG:Hid ((w.alloc (.cells #[.string ⟨#[]⟩,.int .i64 0,.int .i64 0,.int .i64 0] 84)).rangeAt 0 0 kArr.toList):=hrg
 clear hrg
 obtain ⟨KA,eKA⟩:∃ KA:Array Value,kArr.toList.toArray=KA:=⟨_,rfl⟩
 have HQ:Hid (kArr=KA):=eKA
 go_wp2_with (refine wpList_load_mid rfl 111 (.global 0) rfl _ 0 rfl _ _ HRG.out Tryz.underlying111 rfl (by kernel_rfl) ?_;rw [eKA];clear eKA)
 generalize hW0:World.alloc _ _=W0
 have HB0:Hid (Below w.heap.size w W0):=by rw [← hW0];exact up_alloc w _
 have HC0:Hid (W0.heap[w.heap.size]?=some (.cells #[.string ⟨#[]⟩,.int .i64 0,.int .i64 0,.int .i64 0] 84 (0,0))∧w.heap.size < W0.heap.size):=by
  show _∧_
  rw [← hW0]
  exact ⟨Array.getElem?_push_size,by simp⟩
 clear hW0 HRG
 go_loopg [7] 5 (fun gg v wr=>∃ (k:Nat),k≤5∧gg=5 - k∧v = .int .i64 (k:Int)∧Hid (∀ i,i < k→kName i≠s)∧Hid (Below W0.heap.size W0 wr))
 case atStart=>exact ⟨0,by omega,by omega,rfl,fun i hi=>by omega,Below.refl _ _⟩
 case round=>
  obtain ⟨k,hk,hg,rfl,Hx,HB⟩:=hrel
  have H2:=HC0.out.1
  rw [← HB.out.block _ HC0.out.2] at H2
  obtain ⟨⟨c0,f0⟩,⟨c1,f1⟩,⟨c2,f2⟩,⟨c3,f3⟩⟩:(wr.cell? ⟨w.heap.size,0,none⟩=some (.string ⟨#[]⟩)∧wr.frozen? ⟨w.heap.size,0,none⟩=false)∧(wr.cell? ⟨w.heap.size,1,none⟩=some (.int .i64 0)∧wr.frozen? ⟨w.heap.size,1,none⟩=false)∧(wr.cell? ⟨w.heap.size,2,none⟩=some (.int .i64 0)∧wr.frozen? ⟨w.heap.size,2,none⟩=false)∧(wr.cell? ⟨w.heap.size,3,none⟩=some (.int .i64 0)∧wr.frozen? ⟨w.heap.size,3,none⟩=false):=by
   simp [World.cell?,World.frozen?,H2]
  have hlt:=cell_size c0
  have HBW:Hid (Below w.heap.size w wr):=bstep HB0.out HB.out
  have H3:Hid (wr.heap[w.heap.size]?=some (.cells #[.string ⟨#[]⟩,.int .i64 0,.int .i64 0,.int .i64 0] 84 (0,0))):=H2
  clear H2
  by_cases h5:k=5
  ·subst h5
   have ez:=kind_no s fun k hk=>Hx.out k hk
   rw [HZ.out] at ez
   subst ez
   have ebz:=HZB.out
   subst ebz
   go_wp2
   generalize hU:World.setCell _ _ _=U
   obtain ⟨u0,u1,u2,u3,hBU⟩:=four_set H3.out hU
   exact bodyPost_ret (v:=.tuple #[.agg #[.string ⟨#[]⟩,.int .i64 0,.int .i64 0,.int .i64 0],.bool false]) (by simp [results,Tryz.results31,go_sem,u0,u1,u2,u3]) rfl ⟨rfl,hBU w HBW.out⟩
  have hix:=kArr_at k (by omega)
  rw [HQ.out] at hix
  have hk5:(k:Int) < 5:=by omega
  by_cases hs:kName k=s
  ·subst hs
   have ez:=kind_at _ k (by omega) rfl
   have hz5:k < 5:=by omega
   rw [HZ.out] at ez
   subst ez
   have ebz:true=zb:=(decide_eq_true hz5).symm.trans HZB.out
   subst ebz
   clear HZ HZB
   go_wp2
   generalize hV:World.setCell _ _ _=V
   obtain ⟨u0,u1,u2,u3,hBV⟩:=four_set H3.out hV
   have hlV:=cell_size u0
   exact bodyPost_ret (v:=.tuple #[.agg #[.string (kName z),.int .i64 (kCnt z:Nat),.int .i64 (kTopA z),.int .i64 (kTopB z)],.bool true]) (by simp [results,Tryz.results31,go_sem,u0,u1,u2,u3,hlV]) rfl ⟨rfl,(hBV w HBW.out).alloc (Nat.le_of_lt hlV) _⟩
  ·have hs':=str_ne hs
   have Hn:Hid (∀ i,i < k+1→kName i≠s):=fun i hi=>by
    rcases Nat.lt_succ_iff_lt_or_eq.1 hi with h|rfl
    ·exact Hx.out i h
    ·exact hs
   go_wp2
   go_roundg (5 - (k+1))
   case measure=>omega
   case rel=>exact ⟨k+1,by omega,rfl,by first|rfl|simp,Hn,blit HB.out _⟩
theorem inOkB_not {d:List Int} (h1:d.length≠1) (h2:d.length≠2):inOkB d=false:=by
 match d with
 | []=>rfl
 | [x]=>simp at h1
 | [x,y]=>simp at h2
 | x :: y :: z :: r=>rfl
theorem within_q (v t:Int) (q:Bool) (hq:decide (1≤v∧v≤t)=q) (w:World):Calls Tryz.prog 67 #[.int .i64 v,.int .i64 t] w fun e w'=>e = .returned (.bool q)∧w'=w:=by
 rw [← hq]
 exact within_any v t w
theorem inFits_any (v:Value) (d:List Int) (w:World) (hv:Nums .i64 w v d):
  Calls Tryz.prog 50 #[v] w fun e w'=>e = .returned (.bool (inOkB d))∧w'=w:=by
 obtain ⟨p,n,c,rfl,HC⟩:=hv.lst
 obtain ⟨r,er⟩:∃ r:Bool,inOkB d=r:=⟨_,rfl⟩
 have HR:Hid (inOkB d=r):=er
 rw [er]
 clear er hv
 go_enter Tryz.func50,Tryz.ntmps50
 by_cases h1:n=1
 ·subst h1
  obtain ⟨q,o,rfl,c0⟩:=HC.out.2 0 (by omega)
  obtain ⟨x,rfl⟩:∃ x,d = [x]:=by
   have:=HC.out.1
   match d with
   | [x]=>exact ⟨x,rfl⟩
  simp only [List.getD_cons_zero,Nat.add_zero] at c0
  go_wp2_with fail
  refine (within_q _ _ r HR.out _).mono ?_
  rintro e w1 ⟨rfl,rfl⟩
  go_wp2
  go_ret
  exact ⟨rfl,rfl⟩
 have g1:((n:Int)==1)=false:=by simpa using (show (n:Int)≠1 by omega)
 by_cases h2:n=2
 ·subst h2
  obtain ⟨q,o,rfl,c0⟩:=HC.out.2 0 (by omega)
  obtain ⟨q',o',e,c1⟩:=HC.out.2 1 (by omega)
  cases e
  obtain ⟨x,y,rfl⟩:∃ x y,d = [x,y]:=by
   have:=HC.out.1
   match d with
   | [x,y]=>exact ⟨x,y,rfl⟩
  simp only [List.getD_cons_zero,List.getD_cons_succ,Nat.add_zero] at c0 c1
  go_wp2_with fail
  refine (within_any _ _ _).mono ?_
  rintro e w1 ⟨rfl,rfl⟩
  by_cases hx:1≤x∧x≤64
  ·rw [decide_eq_true hx]
   go_wp2_with fail
   refine (within_any _ _ _).mono ?_
   rintro e w1 ⟨rfl,rfl⟩
   obtain ⟨qb,eqb⟩:∃ qb,decide (1≤y∧y≤64)=qb:=⟨_,rfl⟩
   have HQ:Hid (decide (1≤y∧y≤64)=qb):=eqb
   rw [eqb]
   clear eqb
   go_wp2
   go_ret
   refine ⟨?_,rfl⟩
   rw [← HR.out]
   show _=Ending.returned (Value.bool (decide ((1≤x∧x≤64)∧1≤y∧y≤64)))
   rw [show decide ((1≤x∧x≤64)∧1≤y∧y≤64)=qb by rw [← HQ.out];exact decide_eq_decide.2 ⟨fun h=>h.2,fun h=>⟨hx,h⟩⟩]
   rfl
  ·rw [decide_eq_false hx]
   have HX:Hid (¬ (1≤x∧x≤64)):=hx
   clear hx
   go_wp2
   go_ret
   refine ⟨?_,rfl⟩
   rw [← HR.out]
   show _=Ending.returned (Value.bool (decide ((1≤x∧x≤64)∧1≤y∧y≤64)))
   rw [decide_eq_false fun h=>HX.out h.1]
   rfl
 have g2:((n:Int)==2)=false:=by simpa using (show (n:Int)≠2 by omega)
 go_wp2
 go_ret
 refine ⟨?_,rfl⟩
 rw [← HR.out,inOkB_not (by rw [HC.out.1];exact h1) (by rw [HC.out.1];exact h2)]
 rfl
/-- Is one of a layer's two numbers as its kind asks? -/
def chk (kd:Nat) (a b:Int) (k:Nat):Bool:=if k < kCnt kd then decide (1≤(if k=0 then a else b)∧(if k=0 then a else b)≤(if k=0 then kTopA kd else kTopB kd)) else decide ((if k=0 then a else b)=0)
theorem chk_lay (l:Ly):decide (LayOk l)=(decide (kindI l.1 < 5) && chk (kindI l.1) l.2.1 l.2.2 0 && chk (kindI l.1) l.2.1 l.2.2 1):=by
 unfold chk
 rw [Bool.eq_iff_iff]
 simp only [decide_eq_true_eq,Bool.and_eq_true,if_true,if_neg (show ¬ (1:Nat)=0 by omega)]
 unfold LayOk
 split <;> split <;> simp [and_assoc]
theorem layerFits_any (s:ByteArray) (a b:Int) (w:World) (hK:Hid (Kz w)):
  Calls Tryz.prog 51 #[.agg #[.string s,.int .i64 a,.int .i64 b]] w fun e w'=>e = .returned (.bool (decide (LayOk (s,a,b))))∧Below w.heap.size w w':=by
 obtain ⟨r,er⟩:∃ r:Bool,decide (LayOk (s,a,b))=r:=⟨_,rfl⟩
 have HR:Hid ((decide (kindI s < 5) && chk (kindI s) a b 0 && chk (kindI s) a b 1)=r):=(chk_lay (s,a,b)).symm.trans er
 rw [er]
 clear er
 go_enter Tryz.func51,Tryz.ntmps51
 go_wp2_with fail
 generalize hW0:World.alloc _ _=W0
 have HB0:Hid (Below w.heap.size w W0):=by rw [← hW0];exact up_alloc w _
 have HC0:Hid (W0.cell? ⟨w.heap.size,1,none⟩=some (.int .i64 a)∧W0.cell? ⟨w.heap.size,2,none⟩=some (.int .i64 b)):=by show _∧_;rw [← hW0];simp [go_sem]
 clear hW0
 refine (kindOf_any s W0 (Hid.up_kz hK HB0.out)).mono ?_
 rintro e w1 ⟨rfl,hB1⟩
 obtain ⟨z,ez⟩:∃ z,kindI s=z:=⟨_,rfl⟩
 rw [ez] at HR ⊢
 have HB1:Hid (Below w.heap.size w w1):=bstep HB0.out hB1
 have C1:=still_cell hB1 HC0.out.1
 have C2:=still_cell hB1 HC0.out.2
 have hlt:=cell_size C1
 by_cases h5:z < 5
 case neg=>
  rw [decide_eq_false h5]
  rw [decide_eq_false h5] at HR
  go_wp2
  go_ret
  rw [← HR.out]
  exact ⟨rfl,blit HB1.out _⟩
 rw [decide_eq_true h5]
 rw [decide_eq_true h5] at HR
 obtain ⟨cn,ecn⟩:∃ cn,kCnt z=cn:=⟨_,rfl⟩
 obtain ⟨tA,eA⟩:∃ x,kTopA z=x:=⟨_,rfl⟩
 obtain ⟨tB,eB⟩:∃ x,kTopB z=x:=⟨_,rfl⟩
 have HZ:Hid (kCnt z=cn∧kTopA z=tA∧kTopB z=tB):=⟨ecn,eA,eB⟩
 rw [ecn,eA,eB]
 clear ecn eA eB ez hB1
 go_wp2_with fail
 generalize hW2:World.alloc _ _=W2
 have HB2:Hid (Below w.heap.size w W2):=by rw [← hW2];exact blit HB1.out _
 obtain ⟨d1,d2,d3,d4⟩:W2.cell? ⟨w1.heap.size,0,none⟩=some (.string (kName z))∧W2.cell? ⟨w1.heap.size,1,none⟩=some (.int .i64 (cn:Int))∧W2.cell? ⟨w1.heap.size,2,none⟩=some (.int .i64 tA)∧W2.cell? ⟨w1.heap.size,3,none⟩=some (.int .i64 tB):=by rw [← hW2];simp [go_sem]
 clear hW2 C1 C2 HC0 HB0 d1
 go_loopg [20] 2 (fun gg v wr=>∃ (k:Nat),k≤2∧gg=2 - k∧v = .int .i64 (k:Int)∧Hid (∀ i,i < k→chk z a b i=true)∧wr=W2)
 case atStart=>exact ⟨0,by omega,by omega,rfl,fun i hi=>by omega,rfl⟩
 case round=>
  obtain ⟨k,hk,hg,rfl,Hx,rfl⟩:=hrel
  rcases (show k=2∨k=0∨k=1 by omega) with rfl|hk01
  ·go_wp2
   go_ret
   rw [← HR.out,Hx.out 0 (by omega),Hx.out 1 (by omega)]
   exact ⟨rfl,HB2.out⟩
  obtain ⟨x,ex⟩:∃ x,(if k=0 then a else b)=x:=⟨_,rfl⟩
  obtain ⟨t,et⟩:∃ x,(if k=0 then tA else tB)=x:=⟨_,rfl⟩
  have HCk:Hid (chk z a b k=if k < cn then decide (1≤x∧x≤t) else decide (x=0)):=by
   show _=_
   unfold chk
   rw [HZ.out.1,HZ.out.2.1,HZ.out.2.2,ex,et]
  have hix:∀ W,(Instr.index 82 (.agg #[.int .i64 a,.int .i64 b]) (.int .i64 (k:Int))).run Tryz.prog W = .ok (.int .i64 x) W:=by
   intro W
   rcases hk01 with rfl|rfl
   ·rw [if_pos rfl] at ex;subst ex;kernel_rfl
   ·rw [if_neg (by omega)] at ex;subst ex;kernel_rfl
  have dk:wr.cell? ⟨w1.heap.size,2+k,none⟩=some (.int .i64 t):=by
   rcases hk01 with rfl|rfl
   ·rw [if_pos rfl] at et;subst et;exact d3
   ·rw [if_neg (by omega)] at et;subst et;exact d4
  have hk2:(k:Int) < 2:=by omega
  have Hdone:Hid (chk z a b k=true→∀ i,i < k+1→chk z a b i=true):=fun h i hi=>by
   rcases Nat.lt_succ_iff_lt_or_eq.1 hi with h2|rfl
   ·exact Hx.out i h2
   ·exact h
  have Hbad:Hid (chk z a b k=false→r=false):=fun h=>by
   rw [← HR.out]
   rcases hk01 with rfl|rfl <;> simp [h]
  have HK01:Hid (k=0∨k=1):=hk01
  clear ex et d3 d4 hk01 HZ
  by_cases hc:k < cn
  ·have hc':(k:Int) < (cn:Int):=by omega
   rw [if_pos hc] at HCk
   go_wp2_with fail
   obtain ⟨qb,eqb⟩:∃ qb,decide (1≤x∧x≤t)=qb:=⟨_,rfl⟩
   refine (within_q _ _ qb eqb _).mono ?_
   rintro e w2 ⟨rfl,rfl⟩
   rw [eqb] at HCk
   clear eqb
   cases qb with
   | false=>
    have er:=Hbad.out HCk.out
    subst er
    go_wp2
    go_ret
    exact ⟨rfl,HB2.out⟩
   | true=>
    have Hn:=Hdone.out HCk.out
    have HN:Hid (∀ i,i < k+1→chk z a b i=true):=Hn
    clear Hn Hdone
    go_wp2
    go_roundg (2 - (k+1))
    case measure=>omega
    case rel=>exact ⟨k+1,by omega,rfl,by first|rfl|simp,HN,rfl⟩
  ·have hc':(cn:Int)≤(k:Int):=by omega
   rw [if_neg hc] at HCk
   by_cases hx0:x=0
   ·rw [decide_eq_true hx0] at HCk
    have HN:Hid (∀ i,i < k+1→chk z a b i=true):=Hdone.out HCk.out
    clear Hdone
    subst hx0
    go_wp2
    go_roundg (2 - (k+1))
    case measure=>omega
    case rel=>exact ⟨k+1,by omega,rfl,by first|rfl|simp,HN,rfl⟩
   ·rw [decide_eq_false hx0] at HCk
    have er:=Hbad.out HCk.out
    subst er
    have hx0':(x != 0)=true:=by simpa using hx0
    go_wp2
    go_ret
    exact ⟨rfl,HB2.out⟩
theorem all_upto {ls:List Ly} {f:Ly→Bool} {n:Nat} (hn:ls.length=n) (h:∀ i,i < n→f (lyA ls i)=true):ls.all f=true:=by
 rw [List.all_eq_true]
 intro l hl
 obtain ⟨i,hi,rfl⟩:=List.getElem_of_mem hl
 have:=h i (by omega)
 unfold lyA at this
 rw [List.getD_eq_getElem?_getD,List.getElem?_eq_getElem hi] at this
 exact this
theorem all_not {ls:List Ly} {f:Ly→Bool} {i:Nat} (hi:i < ls.length) (h:f (lyA ls i)=false):ls.all f=false:=by
 rw [List.all_eq_false]
 exact ⟨_,lyA_mem hi,by rw [h];simp⟩
theorem numbersFit_any (p p2:Option Addr) (n c n2 c2:Nat) (d:List Int) (ls:List Ly) (hbig:n2≤1073741824) (w:World) (hK:Hid (Kz w)) (h1:Nums .i64 w (.slice p n c) d) (h2:LyR 0 w p2 n2 ls):
  Calls Tryz.prog 35 #[.agg #[.slice p n c,.slice p2 n2 c2]] w fun e w'=>e = .returned (.bool (formB d ls))∧Below w.heap.size w w':=by
 obtain ⟨r,er⟩:∃ r:Bool,formB d ls=r:=⟨_,rfl⟩
 have HR:Hid (formB d ls=r):=er
 rw [er]
 clear er
 have HL:Hid (LyR 0 w p2 n2 ls):=h2
 clear h2
 go_enter Tryz.func35,Tryz.ntmps35
 go_wp2_with fail
 generalize hW0:World.alloc _ _=W0
 have HB0:Hid (Below w.heap.size w W0):=by rw [← hW0];exact up_alloc w _
 have C1:W0.cell? ⟨w.heap.size,1,none⟩=some (.slice p2 n2 c2):=by rw [← hW0];simp [go_sem]
 clear hW0
 obtain ⟨qi,eqi⟩:∃ q,inOkB d=q:=⟨_,rfl⟩
 have ci:=inFits_any _ d W0 (h1.up HB0.out)
 rw [eqi] at ci
 refine ci.mono ?_
 rintro e w1 ⟨rfl,rfl⟩
 cases qi with
 | false=>
  have er:r=false:=by rw [← HR.out];unfold formB;rw [eqi];rfl
  subst er
  clear eqi ci h1
  go_wp2
  go_ret
  exact ⟨rfl,HB0.out⟩
 | true=>
  have HF:Hid (formB d ls=ls.all fun l=>decide (LayOk l)):=by show _=_;unfold formB;rw [eqi];rfl
  clear eqi ci h1
  go_wp2_with fail
  go_loopg [12] n2 (fun gg v wr=>∃ (k:Nat),k≤n2∧gg=n2 - k∧v = .int .i64 (k:Int)∧Hid (∀ i,i < k→decide (LayOk (lyA ls i))=true)∧Hid (Below w.heap.size w wr))
  case atStart=>exact ⟨0,by omega,by omega,rfl,fun i hi=>by omega,HB0⟩
  case round=>
   obtain ⟨k,hk,hg,rfl,Hx,HB⟩:=hrel
   by_cases hkn:k < n2
   ·have hk':(k:Int) < (n2:Int):=by omega
    obtain ⟨q,o,rfl,c0,c1,c2⟩:=(HL.out.up HB.out).2 k hkn
    obtain ⟨l,el⟩:∃ l,lyA ls k=l:=⟨_,rfl⟩
    obtain ⟨s,a,b⟩:=l
    rw [el] at c0 c1 c2
    have hlt:=cell_size c0
    go_wp2_with fail
    generalize hW2:World.alloc _ _=W2
    have HB2:Hid (Below w.heap.size w W2):=by rw [← hW2];exact blit HB.out _
    clear hW2
    obtain ⟨ql,eql⟩:∃ q,decide (LayOk (s,a,b))=q:=⟨_,rfl⟩
    have cl:=layerFits_any s a b W2 (Hid.up_kz hK HB2.out)
    rw [eql] at cl
    refine cl.mono ?_
    rintro e w3 ⟨rfl,hB3⟩
    have HB3:Hid (Below w.heap.size w w3):=bstep HB2.out hB3
    clear cl hB3 c0 c1 c2 hlt
    cases ql with
    | false=>
     have er:r=false:=by rw [← HR.out,HF.out];exact all_not (i:=k) (by rw [HL.out.1];exact hkn) (by rw [el];exact eql)
     subst er
     clear el eql
     go_wp2
     go_ret
     exact ⟨rfl,HB3.out⟩
    | true=>
     have HN:Hid (∀ i,i < k+1→decide (LayOk (lyA ls i))=true):=fun i hi=>by
      rcases Nat.lt_succ_iff_lt_or_eq.1 hi with h2|rfl
      ·exact Hx.out i h2
      ·rw [el];exact eql
     clear el eql
     go_wp2
     go_roundg (n2 - (k+1))
     case measure=>omega
     case rel=>exact ⟨k+1,by omega,rfl,by first|rfl|simp,HN,HB3⟩
   ·obtain rfl:k=n2:=by omega
    have er:r=true:=by rw [← HR.out,HF.out];exact all_upto HL.out.1 Hx.out
    subst er
    go_wp2
    go_ret
    exact ⟨rfl,HB.out⟩
/-- A slice of slices of numbers. -/
def RdS (W:World) (p:Option Addr) (n:Nat) (S:List (List Int)):Prop:=S.length=n∧∀ i,i < n→∃ q o a b c,p=some ⟨q,o,none⟩∧W.cell? ⟨q,o+i,none⟩=some (.slice a b c)∧Nums .i64 W (.slice a b c) (shA S i)
theorem RdS.up {W W':World} {p:Option Addr} {n:Nat} {S:List (List Int)} (h:RdS W p n S) (hB:Below W.heap.size W W'):RdS W' p n S:=⟨h.1,fun i hi=>by
 obtain ⟨q,o,a,b,c,e,h1,h2⟩:=h.2 i hi
 exact ⟨q,o,a,b,c,e,still_cell hB h1,h2.up hB⟩⟩
/-- A slice of slices of the call's own. -/
def OwnS (W:World) (B:Nat) (v:Value) (S:List (List Int)):Prop:=∃ vs,W.ownsRow B 23 1 v S.length vs∧∀ i,i < S.length→∃ a b c,vs[i]?=some (.slice a b c)∧OwnK .i64 3 W B (.slice a b c) (shA S i)
theorem OwnS.only {Q:List TypeId} {W W':World} {B:Nat} {v:Value} {S:List (List Int)} (h:OwnS W B v S) (ho:Only Q W W') (h1:23∉Q) (h2:3∉Q):OwnS W' B v S:=by
 obtain ⟨vs,h3,h4⟩:=h
 exact ⟨vs,owns_only h3 ho h1,fun i hi=>by
  obtain ⟨a,b,c,e,h5⟩:=h4 i hi
  exact ⟨a,b,c,e,h5.only ho h2⟩⟩
theorem OwnS.up {W W':World} {B:Nat} {v:Value} {S:List (List Int)} (h:OwnS W B v S) (hB:Below W.heap.size W W'):OwnS W' B v S:=h.only (Q:=[]) (Only.of hB) (by simp) (by simp)
theorem OwnS.low {W:World} {B B':Nat} {v:Value} {S:List (List Int)} (h:OwnS W B v S) (hB:B'≤B):OwnS W B' v S:=by
 obtain ⟨vs,h3,h4⟩:=h
 refine ⟨vs,⟨h3.1,?_⟩,fun i hi=>by
  obtain ⟨a,b,c,e,h5⟩:=h4 i hi
  exact ⟨a,b,c,e,h5.low hB⟩⟩
 rcases h3.2 with h|⟨g,cap,cur,e1,e2,e3⟩
 ·exact .inl h
 ·exact .inr ⟨g,cap,cur,e1,Nat.le_trans hB e2,e3⟩
theorem OwnS.nil (W:World) (B:Nat):OwnS W B (.slice none 0 0) []:=⟨[],⟨rfl,.inl ⟨rfl,rfl⟩⟩,fun i hi=>by simp at hi⟩
theorem OwnS.rd {W:World} {B:Nat} {v:Value} {S:List (List Int)} (h:OwnS W B v S):∃ p c,v = .slice p S.length c∧RdS W p S.length S:=by
 obtain ⟨vs,h3,h4⟩:=h
 have h3':=h3
 rcases h3.2 with ⟨rfl,h0⟩|⟨g,cap,cur,rfl,hB,h5,h6⟩
 ·exact ⟨none,0,by rw [h0],rfl,fun i hi=>by omega⟩
 ·refine ⟨_,cap,rfl,rfl,fun i hi=>?_⟩
  obtain ⟨a,b,c,e,h7⟩:=h4 i hi
  refine ⟨g,0,a,b,c,rfl,?_,h7.nums⟩
  have:=World.ownsRow.cells h3' rfl i _ e
  rw [addr_plus] at this
  exact this
def ParR (S:List (List Int)) (v:Value) (W:World):Prop:=∃ p c,v = .slice p S.length c∧RdS W p S.length S∧OwnS W 0 v S
theorem ParR.up {S:List (List Int)} {v:Value} {W W':World} (h:ParR S v W) (hB:Below W.heap.size W W'):ParR S v W':=by
 obtain ⟨p,c,e,h,h2⟩:=h
 exact ⟨p,c,e,h.up hB,h2.up hB⟩
theorem ParR.of {S:List (List Int)} {v:Value} {W:World} (h:OwnS W 0 v S):ParR S v W:=by
 obtain ⟨p,c,e,h2⟩:=h.rd
 exact ⟨p,c,e,h2,h⟩
theorem ParR.nil (W:World):ParR [] (.slice none 0 0) W:=ParR.of (OwnS.nil W 0)
/-- A literal of numbers, of the call's own. -/
def LitO (l:List Int) (v:Value) (W:World):Prop:=∃ g,v = .slice (some ⟨g,0,none⟩) l.length l.length∧OwnK .i64 3 W 0 v l
theorem LitO.up {l:List Int} {v:Value} {W W':World} (h:LitO l v W) (hB:Below W.heap.size W W'):LitO l v W':=by
 obtain ⟨g,e,h⟩:=h
 exact ⟨g,e,h.up hB⟩
theorem LitO.new (W:World) (l:List Int) (n:Nat) (h:l.length=n) (hn:n≤1073741824):LitO l (.slice (some ⟨W.heap.size,0,none⟩) n n) (W.alloc (.cells (vals .i64 l).toArray 3)):=⟨_,by rw [h],(own_lit W l n h hn).low (Nat.zero_le _)⟩
theorem ParR.one {W:World} {a:List Int} {g:Nat} (h:OwnK .i64 3 W 0 (.slice (some ⟨g,0,none⟩) a.length a.length) a):ParR [a] (.slice (some ⟨W.heap.size,0,none⟩) 1 1) (W.alloc (.cells #[.slice (some ⟨g,0,none⟩) a.length a.length] 23)):=by
 refine ParR.of ⟨[.slice (some ⟨g,0,none⟩) a.length a.length],⟨rfl,.inr ⟨W.heap.size,1,#[.slice (some ⟨g,0,none⟩) a.length a.length],rfl,Nat.zero_le _,Array.getElem?_push_size,Nat.le_refl _,by unfold maxLen;omega,rfl,rfl⟩⟩,fun i hi=>?_⟩
 obtain rfl:i=0:=by simp at hi;omega
 exact ⟨_,_,_,rfl,h.up (up_alloc W _)⟩
theorem ParR.two {W:World} {a b:List Int} {g g':Nat} (h:OwnK .i64 3 W 0 (.slice (some ⟨g,0,none⟩) a.length a.length) a) (h':OwnK .i64 3 W 0 (.slice (some ⟨g',0,none⟩) b.length b.length) b):ParR [a,b] (.slice (some ⟨W.heap.size,0,none⟩) 2 2) (W.alloc (.cells #[.slice (some ⟨g,0,none⟩) a.length a.length,.slice (some ⟨g',0,none⟩) b.length b.length] 23)):=by
 refine ParR.of ⟨[.slice (some ⟨g,0,none⟩) a.length a.length,.slice (some ⟨g',0,none⟩) b.length b.length],⟨rfl,.inr ⟨W.heap.size,2,#[.slice (some ⟨g,0,none⟩) a.length a.length,.slice (some ⟨g',0,none⟩) b.length b.length],rfl,Nat.zero_le _,Array.getElem?_push_size,Nat.le_refl _,by unfold maxLen;omega,rfl,rfl⟩⟩,fun i hi=>?_⟩
 rcases (show i=0∨i=1 by simp at hi;omega) with rfl|rfl
 ·exact ⟨_,_,_,rfl,h.up (up_alloc W _)⟩
 ·exact ⟨_,_,_,rfl,h'.up (up_alloc W _)⟩
theorem kts (s:ByteArray):(s.toList == [100,101,110,115,101])=decide (kindI s=0)∧(s.toList == [99,111,110,118])=decide (kindI s=1)∧(s.toList == [112,111,111,108])=decide (kindI s=2)∧(s.toList == [98,101,110,100])=decide (kindI s=3)∧(s.toList == [115,107,105,112])=decide (kindI s=4):=by
 have k:∀ j,j < 5→(s.toList==(kName j).toList)=decide (kindI s=j):=fun j hj=>by
  by_cases h:s=kName j
  ·rw [(Lib.bytes_beq_iff _ _).2 h,decide_eq_true (kind_at s j hj h.symm)]
  ·rw [str_ne h,decide_eq_false fun e=>h (by rw [← e];exact (kind_name s (by omega)).symm)]
 have e0:(kName 0).toList = [100,101,110,115,101]:=by first|decide +kernel|simp [kName,kDense]
 have e1:(kName 1).toList = [99,111,110,118]:=by first|decide +kernel|simp [kName,kConv]
 have e2:(kName 2).toList = [112,111,111,108]:=by first|decide +kernel|simp [kName,kPool]
 have e3:(kName 3).toList = [98,101,110,100]:=by first|decide +kernel|simp [kName,kBend]
 have e4:(kName 4).toList = [115,107,105,112]:=by first|decide +kernel|simp [kName,kSkip]
 rw [← e0,← e1,← e2,← e3,← e4]
 exact ⟨k 0 (by omega),k 1 (by omega),k 2 (by omega),k 3 (by omega),k 4 (by omega)⟩
theorem kskip (s:ByteArray):s=kSkip↔kindI s=4:=⟨fun h=>by rw [h];decide +kernel,fun h=>by rw [← kind_name s (by omega),h];rfl⟩
theorem own_litB {k:IntKind} {e:TypeId} (W:World) (l:List Int) (n g B:Nat) (h:l.length=n) (hn:n≤1073741824) (hg:W.heap.size=g) (hB:B≤g):OwnK k e (W.alloc (.cells (vals k l).toArray e)) B (.slice (some ⟨g,0,none⟩) n n) l:=by
 subst hg
 exact (own_lit W l n h hn).low hB
/-- What outOf hands back. -/
def OutR (x:Option (List Int)) (B:Nat) (v:Value) (W:World):Prop:=match x with
 | none=>v = .tuple #[.slice none 0 0,.bool false]
 | some o=>∃ p n c,v = .tuple #[.slice p n c,.bool true]∧OwnK .i64 3 W B (.slice p n c) o
theorem OutR.up {x:Option (List Int)} {B:Nat} {v:Value} {W W':World} (h:OutR x B v W) (hB:Below W.heap.size W W'):OutR x B v W':=by
 cases x with
 | none=>exact h
 | some o=>
  obtain ⟨p,n,c,e,h⟩:=h
  exact ⟨p,n,c,e,h.up hB⟩
theorem outOf_any (s:ByteArray) (a b:Int) (d:List Int) (hl:LayOk (s,a,b)) (hd:InOk d) (p:Option Addr) (n c:Nat) (w:World) (hv:Nums .i64 w (.slice p n c) d):
  Calls Tryz.prog 54 #[.agg #[.string s,.int .i64 a,.int .i64 b],.slice p n c] w fun e w'=>∃ v',e = .returned v'∧OutR (outD (s,a,b) d) w.heap.size v' w'∧Below w.heap.size w w':=by
 obtain ⟨x,ex⟩:∃ x,outD (s,a,b) d=x:=⟨_,rfl⟩
 rw [ex]
 have HV:Hid (Nums .i64 w (.slice p n c) d):=hv
 obtain ⟨_,_,_,e,HC⟩:=hv.lst
 cases e
 clear hv
 unfold outD at ex
 obtain ⟨t0,t1,t2,t3,t4⟩:=kts s
 have ci:Hid (∀ W,Below w.heap.size w W→Calls Tryz.prog 52 #[.slice p n c] W fun e w'=>∃ v',e = .returned v'∧OwnK .i64 3 w' W.heap.size v' d∧Below W.heap.size W w'):=fun W hW=>cloneI_any _ d (by have:=hd.smal.1;omega) W (HV.out.up hW)
 rcases layOk_cases hl with ⟨-,k,h1,h2⟩|⟨-,k,h1,h2⟩|⟨-,k,h1,h2⟩|⟨-,k,h1,h2⟩|⟨-,k,h1,h2⟩ <;> simp only [] at k h1 h2 <;> rw [k] at ex t0 t1 t2 t3 t4
 ·replace t0:=t0.trans (show decide ((0:Nat)=0)=true from rfl)
  rw [if_pos rfl] at ex
  subst ex
  clear t1 t2 t3 t4 k hl HC
  go_enter Tryz.func54,Tryz.ntmps54
  go_wp2
  go_ret2
  exact ⟨_,rfl,⟨_,_,_,rfl,own_litB (k:=.i64) (e:=3) _ [a] 1 _ _ rfl (by decide) (by simp) (by omega)⟩,by go_grown⟩
 ·replace t0:=t0.trans (show decide ((1:Nat)=0)=false from rfl)
  replace t1:=t1.trans (show decide ((1:Nat)=1)=true from rfl)
  rw [if_neg (by decide),if_pos rfl] at ex
  clear t2 t3 t4 k hl ci
  rcases hd with ⟨y,rfl,hy⟩|⟨y,z,rfl,hy,hz⟩
  ·have hn:n=1:=HC.out.1.symm
   subst hn
   rw [if_neg (by simp)] at ex
   subst ex
   go_enter Tryz.func54,Tryz.ntmps54
   go_wp2
   generalize hW0:World.alloc _ _=W0
   have hB0:Below w.heap.size w W0:=by rw [← hW0];exact up_alloc w _
   obtain ⟨b1,b2⟩:W0.cell? ⟨w.heap.size,1,none⟩=some (.int .i64 a)∧W0.cell? ⟨w.heap.size,2,none⟩=some (.int .i64 b):=by rw [← hW0];simp [go_sem]
   have HB0:Hid (Below w.heap.size w W0):=hB0
   clear hW0 hB0
   go_quiet (fail)
   go_wp2
   go_ret2
   exact ⟨_,rfl,rfl,below_drew HB0.out _⟩
  ·have hn:n=2:=HC.out.1.symm
   subst hn
   obtain ⟨q,o,rfl,c0⟩:=HC.out.2 0 (by omega)
   obtain ⟨q',o',e,c1⟩:=HC.out.2 1 (by omega)
   cases e
   simp only [List.getD_cons_zero,List.getD_cons_succ,Nat.add_zero] at c0 c1
   have hq:=cell_size c1
   simp only [List.length_cons,List.length_nil,List.getD_cons_zero,List.getD_cons_succ] at ex
   by_cases hbz:b≤z
   ·rw [if_pos ⟨trivial,hbz⟩] at ex
    subst ex
    clear HC HV c0
    go_enter Tryz.func54,Tryz.ntmps54
    go_wp2
    generalize hW0:World.alloc _ _=W0
    have HB0:Hid (Below w.heap.size w W0):=by rw [← hW0];exact up_alloc w _
    obtain ⟨b1,b2⟩:W0.cell? ⟨w.heap.size,1,none⟩=some (.int .i64 a)∧W0.cell? ⟨w.heap.size,2,none⟩=some (.int .i64 b):=by rw [← hW0];simp [go_sem]
    replace c1:=still_cell HB0.out c1
    clear hW0
    go_quiet (fail)
    go_wp2
    generalize hW1:World.drewN _ _=W1
    have HB1:Hid (Below w.heap.size w W1):=by rw [← hW1];exact below_drew HB0.out _
    obtain ⟨d1,d2,d3⟩:W1.cell? ⟨w.heap.size,1,none⟩=some (.int .i64 a)∧W1.cell? ⟨w.heap.size,2,none⟩=some (.int .i64 b)∧W1.cell? ⟨q,o+1,none⟩=some (.int .i64 z):=by rw [← hW1];exact ⟨b1,b2,c1⟩
    clear hW1 b1 b2 c1
    go_region
    all_goals
     go_wp2
     go_ret2
     exact ⟨_,rfl,⟨_,_,_,rfl,own_litB (k:=.i64) (e:=3) _ [a,z - b+1] 2 _ _ rfl (by decide) (by simp) HB1.out.size⟩,by have:=HB1.out;exact (blit this _).trans ⟨rfl,rfl,rfl,Nat.le_refl _,fun _ _=>rfl⟩⟩
   ·rw [if_neg fun h=>hbz h.2] at ex
    subst ex
    clear HC HV c0
    have hbz':z < b:=by omega
    go_enter Tryz.func54,Tryz.ntmps54
    go_wp2
    generalize hW0:World.alloc _ _=W0
    have HB0:Hid (Below w.heap.size w W0):=by rw [← hW0];exact up_alloc w _
    obtain ⟨b1,b2⟩:W0.cell? ⟨w.heap.size,1,none⟩=some (.int .i64 a)∧W0.cell? ⟨w.heap.size,2,none⟩=some (.int .i64 b):=by rw [← hW0];simp [go_sem]
    replace c1:=still_cell HB0.out c1
    clear hW0
    go_quiet (fail)
    go_wp2
    go_ret2
    exact ⟨_,rfl,rfl,below_drew HB0.out _⟩
 ·replace t0:=t0.trans (show decide ((2:Nat)=0)=false from rfl)
  replace t1:=t1.trans (show decide ((2:Nat)=1)=false from rfl)
  replace t2:=t2.trans (show decide ((2:Nat)=2)=true from rfl)
  rw [if_neg (by decide),if_neg (by decide),if_pos rfl] at ex
  clear t3 t4 k hl ci h2
  rcases hd with ⟨y,rfl,hy⟩|⟨y,z,rfl,hy,hz⟩
  ·have hn:n=1:=HC.out.1.symm
   subst hn
   rw [if_neg (by simp)] at ex
   subst ex
   go_enter Tryz.func54,Tryz.ntmps54
   go_wp2
   generalize hW0:World.alloc _ _=W0
   have hB0:Below w.heap.size w W0:=by rw [← hW0];exact up_alloc w _
   obtain ⟨b1,b2⟩:W0.cell? ⟨w.heap.size,1,none⟩=some (.int .i64 a)∧W0.cell? ⟨w.heap.size,2,none⟩=some (.int .i64 b):=by rw [← hW0];simp [go_sem]
   have HB0:Hid (Below w.heap.size w W0):=hB0
   clear hW0 hB0
   go_quiet (fail)
   go_wp2
   go_ret2
   exact ⟨_,rfl,rfl,below_drew HB0.out _⟩
  ·have hn:n=2:=HC.out.1.symm
   subst hn
   obtain ⟨q,o,rfl,c0⟩:=HC.out.2 0 (by omega)
   obtain ⟨q',o',e,c1⟩:=HC.out.2 1 (by omega)
   cases e
   simp only [List.getD_cons_zero,List.getD_cons_succ,Nat.add_zero] at c0 c1
   have hq:=cell_size c1
   simp only [List.length_cons,List.length_nil,List.getD_cons_zero,List.getD_cons_succ] at ex
   by_cases hbz:a≤z
   ·rw [if_pos ⟨trivial,hbz⟩] at ex
    subst ex
    clear HC HV
    obtain ⟨qq,eqq⟩:∃ qq,Int.tdiv z a=qq:=⟨_,rfl⟩
    have ha0:a≠0:=by omega
    have hqq:0≤qq∧qq≤64:=by
     rw [← eqq,Int.tdiv_eq_ediv_of_nonneg (by omega)]
     exact ⟨Int.ediv_nonneg (by omega) (by omega),by have:=Int.ediv_le_self a (a:=z) (by omega);omega⟩
    rw [eqq]
    go_enter Tryz.func54,Tryz.ntmps54
    go_wp2
    generalize hW0:World.alloc _ _=W0
    have HB0:Hid (Below w.heap.size w W0):=by rw [← hW0];exact up_alloc w _
    replace c0:=still_cell HB0.out c0
    obtain ⟨b1,b2⟩:W0.cell? ⟨w.heap.size,1,none⟩=some (.int .i64 a)∧W0.cell? ⟨w.heap.size,2,none⟩=some (.int .i64 b):=by rw [← hW0];simp [go_sem]
    replace c1:=still_cell HB0.out c1
    clear hW0
    go_quiet (fail)
    go_wp2
    generalize hW1:World.drewN _ _=W1
    have HB1:Hid (Below w.heap.size w W1):=by rw [← hW1];exact below_drew HB0.out _
    obtain ⟨d1,d2,d3,d4⟩:W1.cell? ⟨w.heap.size,1,none⟩=some (.int .i64 a)∧W1.cell? ⟨w.heap.size,2,none⟩=some (.int .i64 b)∧W1.cell? ⟨q,o+1,none⟩=some (.int .i64 z)∧W1.cell? ⟨q,o,none⟩=some (.int .i64 y):=by rw [← hW1];exact ⟨b1,b2,c1,c0⟩
    clear hW1 b1 b2 c1 c0
    go_region
    all_goals
     go_wp2
     go_ret2
     exact ⟨_,rfl,⟨_,_,_,rfl,own_litB (k:=.i64) (e:=3) _ [y,qq] 2 _ _ rfl (by decide) (by simp) HB1.out.size⟩,by have:=HB1.out;exact (blit this _).trans ⟨rfl,rfl,rfl,Nat.le_refl _,fun _ _=>rfl⟩⟩
   ·rw [if_neg fun h=>hbz h.2] at ex
    subst ex
    clear HC HV c0
    have hbz':z < a:=by omega
    go_enter Tryz.func54,Tryz.ntmps54
    go_wp2
    generalize hW0:World.alloc _ _=W0
    have HB0:Hid (Below w.heap.size w W0):=by rw [← hW0];exact up_alloc w _
    obtain ⟨b1,b2⟩:W0.cell? ⟨w.heap.size,1,none⟩=some (.int .i64 a)∧W0.cell? ⟨w.heap.size,2,none⟩=some (.int .i64 b):=by rw [← hW0];simp [go_sem]
    replace c1:=still_cell HB0.out c1
    clear hW0
    go_quiet (fail)
    go_wp2
    go_ret2
    exact ⟨_,rfl,rfl,below_drew HB0.out _⟩
 ·replace t0:=t0.trans (show decide ((3:Nat)=0)=false from rfl)
  replace t1:=t1.trans (show decide ((3:Nat)=1)=false from rfl)
  replace t2:=t2.trans (show decide ((3:Nat)=2)=false from rfl)
  rw [if_neg (by decide),if_neg (by decide),if_neg (by decide)] at ex
  subst ex
  clear t3 t4 k hl HC
  go_enter Tryz.func54,Tryz.ntmps54
  go_wp2_with fail
  generalize hW0:World.alloc _ _=W0
  have HB0:Hid (Below w.heap.size w W0):=by rw [← hW0];exact up_alloc w _
  clear hW0
  refine (ci.out W0 HB0.out).mono ?_
  rintro e w1 ⟨v1,rfl,ho1,hB1⟩
  obtain ⟨pa,na,ca,rfl,_⟩:=ho1.nums.lst
  have HO:Hid (OwnK .i64 3 w1 W0.heap.size (.slice pa na ca) d∧Below W0.heap.size W0 w1):=⟨ho1,hB1⟩
  clear ho1 hB1 ci
  go_wp2
  go_ret2
  exact ⟨_,rfl,⟨_,_,_,rfl,HO.out.1.low HB0.out.size⟩,bstep HB0.out HO.out.2⟩
 ·replace t0:=t0.trans (show decide ((4:Nat)=0)=false from rfl)
  replace t1:=t1.trans (show decide ((4:Nat)=1)=false from rfl)
  replace t2:=t2.trans (show decide ((4:Nat)=2)=false from rfl)
  rw [if_neg (by decide),if_neg (by decide),if_neg (by decide)] at ex
  subst ex
  clear t3 t4 k hl HC
  go_enter Tryz.func54,Tryz.ntmps54
  go_wp2_with fail
  generalize hW0:World.alloc _ _=W0
  have HB0:Hid (Below w.heap.size w W0):=by rw [← hW0];exact up_alloc w _
  clear hW0
  refine (ci.out W0 HB0.out).mono ?_
  rintro e w1 ⟨v1,rfl,ho1,hB1⟩
  obtain ⟨pa,na,ca,rfl,_⟩:=ho1.nums.lst
  have HO:Hid (OwnK .i64 3 w1 W0.heap.size (.slice pa na ca) d∧Below W0.heap.size W0 w1):=⟨ho1,hB1⟩
  clear ho1 hB1 ci
  go_wp2
  go_ret2
  exact ⟨_,rfl,⟨_,_,_,rfl,HO.out.1.low HB0.out.size⟩,bstep HB0.out HO.out.2⟩
theorem paramsOf_any (s:ByteArray) (a b:Int) (d:List Int) (hl:LayOk (s,a,b)) (hd:InOk d) (hfit:kindI s=1→d.length=2) (p:Option Addr) (n c:Nat) (w:World) (hv:Nums .i64 w (.slice p n c) d):
  Calls Tryz.prog 43 #[.agg #[.string s,.int .i64 a,.int .i64 b],.slice p n c] w fun e w'=>∃ v',e = .returned v'∧ParR (parD (s,a,b) d) v' w'∧Below w.heap.size w w':=by
 haveI:Nonempty World:=⟨w⟩
 obtain ⟨x,ex⟩:∃ x,parD (s,a,b) d=x:=⟨_,rfl⟩
 rw [ex]
 have HV:Hid (Nums .i64 w (.slice p n c) d):=hv
 obtain ⟨_,_,_,e,HC⟩:=hv.lst
 cases e
 clear hv
 unfold parD at ex
 obtain ⟨t0,t1,-,-,-⟩:=kts s
 rcases (show kindI s=0∨kindI s=1∨(kindI s≠0∧kindI s≠1) by omega) with k|k|⟨k,k'⟩
 ·rw [k] at ex t0 t1
  replace t0:=t0.trans (show decide ((0:Nat)=0)=true from rfl)
  rw [if_pos rfl] at ex
  simp only [] at ex
  obtain ⟨r,er⟩:∃ r,prodI d=r:=⟨_,rfl⟩
  have cs:Hid (∀ W,Below w.heap.size w W→Calls Tryz.prog 25 #[.slice p n c] W fun e w'=>e = .returned (.int .i64 r)∧w'=W):=fun W hW=>by
   rw [← er]
   exact csize_any _ d hd.smal W (HV.out.up hW)
  rw [er] at ex
  subst ex
  clear t1 k hl HC hfit hd er
  go_enter Tryz.func43,Tryz.ntmps43
  go_wp2
  generalize hW0:World.alloc _ _=W0
  have HB0:Hid (Below w.heap.size w W0):=by rw [← hW0];exact up_alloc w _
  have b1:W0.cell? ⟨w.heap.size,1,none⟩=some (.int .i64 a):=by rw [← hW0];simp [go_sem]
  have hz:=cell_size b1
  clear hW0
  refine rel [⟨4,13,LitO [a,r]⟩,⟨7,16,LitO [a]⟩,⟨8,17,ParR [[a,r],[a]]⟩] 9 29 (by kernel_rfl) rfl rfl (by kernel_rfl) (by rfl) ?_ ?_
  ·intro e he v W W' h hb
   simp only [List.mem_cons,List.not_mem_nil,or_false] at he
   rcases he with rfl|rfl|rfl
   ·exact LitO.up h hb
   ·exact LitO.up h hb
   ·exact ParR.up h hb
  apply Exists.intro
  refine ⟨fun x=>?_,?_,?_⟩
  ·simp only [List.take_succ_cons,List.take_zero]
   iterate 3
    refine relQuiet rfl rfl ?_
    apply Exists.intro
    refine ⟨fun F hF hf K hK=>?_,?_⟩
    ·have hFc:=hF.cell
     have hFf:=hF.frozen
     go_big_quiet_op
     first|exact hK|(apply Exists.intro;refine ⟨fun _=>?_,?_⟩;(· fail);exact hK)
    (try simp only [Act.put,List.setIfInBounds_toArray,List.set_cons_zero,List.set_cons_succ])
   refine relQuiet rfl rfl ?_
   apply Exists.intro
   refine ⟨fun F hF hf K hK=>?_,?_⟩
   ·have hFc:=hF.cell
    have hFf:=hF.frozen
    go_big_quiet_op
    first|exact hK|(apply Exists.intro;refine ⟨fun _=>?_,?_⟩;(· exact hF.same (cs.out _ (bstep HB0.out (hF.below _))));exact hK)
   (try simp only [Act.put,List.setIfInBounds_toArray,List.set_cons_zero,List.set_cons_succ])
   refine relTold rfl rfl ?_ ?_
   ·intro F hF hf d
    have hFc:=hF.cell
    have hFf:=hF.frozen
    simp [yieldsR,yieldsUpon,go_sem]
    exact ⟨LitO.new (F d) [a,r] 2 rfl (by decide),up_alloc _ _⟩
   iterate 2
    (try simp only [Act.put,List.setIfInBounds_toArray,List.set_cons_zero,List.set_cons_succ])
    refine relQuiet rfl rfl ?_
    apply Exists.intro
    refine ⟨fun F hF hf K hK=>?_,?_⟩
    ·have hFc:=hF.cell
     have hFf:=hF.frozen
     go_big_quiet_op
     first|exact hK|(apply Exists.intro;refine ⟨fun _=>?_,?_⟩;(· fail);exact hK)
   (try simp only [Act.put,List.setIfInBounds_toArray,List.set_cons_zero,List.set_cons_succ])
   refine relTold rfl rfl ?_ ?_
   ·intro F hF hf d
    have hFc:=hF.cell
    have hFf:=hF.frozen
    simp [yieldsR,yieldsUpon,go_sem]
    exact ⟨LitO.new (F d) [a] 1 rfl (by decide),up_alloc _ _⟩
   (try simp only [Act.put,List.setIfInBounds_toArray,List.set_cons_zero,List.set_cons_succ])
   refine relTold rfl rfl ?_ ?_
   ·intro F hF hf d
    have hFc:=hF.cell
    have hFf:=hF.frozen
    have h9:=hf _ List.mem_cons_self (by rfl) d
    have h8:=hf _ (List.mem_cons_of_mem _ List.mem_cons_self) (by rfl) d
    obtain ⟨g9,e9,n9⟩:=h9
    obtain ⟨g8,e8,n8⟩:=h8
    simp only [] at e9 n9 e8 n8
    rw [e9] at n9
    rw [e8] at n8
    simp [yieldsR,yieldsUpon,go_sem,e9,e8]
    exact ⟨ParR.two n9 n8,up_alloc _ _⟩
   (try simp only [Act.put,List.setIfInBounds_toArray,List.set_cons_zero,List.set_cons_succ])
   refine relEnd ?_
   exact rfl
  ·exact fun x=>rfl
  ·intro w9 xs hB9 hf
   simp only [List.drop_succ_cons,List.drop_zero]
   have h7:=hf _ (List.mem_cons_of_mem _ (List.mem_cons_of_mem _ List.mem_cons_self))
   simp only [] at h7
   have H7:Hid (ParR [[a,r],[a]] (xs 8) w9∧Below w.heap.size w w9):=⟨h7,bstep HB0.out hB9⟩
   obtain ⟨p7,c7,e7,_⟩:=h7
   generalize xs 8=v8 at H7 e7 ⊢
   subst e7
   clear hf hB9 cs b1
   go_wp2
   go_ret
   exact ⟨_,rfl,H7.out⟩
 ·rw [k] at ex t0 t1
  replace t0:=t0.trans (show decide ((1:Nat)=0)=false from rfl)
  replace t1:=t1.trans (show decide ((1:Nat)=1)=true from rfl)
  rw [if_neg (by decide),if_pos rfl] at ex
  simp only [] at ex
  obtain ⟨y,z,rfl⟩:∃ y z,d = [y,z]:=by
   have:=hfit k
   match d with
   | [y,z]=>exact ⟨y,z,rfl⟩
  have hn:n=2:=HC.out.1.symm
  subst hn
  obtain ⟨q,o,rfl,c0⟩:=HC.out.2 0 (by omega)
  simp only [List.getD_cons_zero,Nat.add_zero] at c0 ex
  subst ex
  clear HC HV hfit k hd hl
  go_enter Tryz.func43,Tryz.ntmps43
  go_wp2
  generalize hW0:World.alloc _ _=W0
  have HB0:Hid (Below w.heap.size w W0):=by rw [← hW0];exact up_alloc w _
  have b1:W0.cell? ⟨w.heap.size,1,none⟩=some (.int .i64 a):=by rw [← hW0];simp [go_sem]
  have b2:W0.cell? ⟨w.heap.size,2,none⟩=some (.int .i64 b):=by rw [← hW0];simp [go_sem]
  replace c0:=still_cell HB0.out c0
  have hz:=cell_size b1
  have hzq:=cell_size c0
  clear hW0
  refine rel [⟨7,27,LitO [a,y,b]⟩,⟨8,28,ParR [[a,y,b]]⟩] 9 29 (by kernel_rfl) rfl rfl (by kernel_rfl) (by rfl) ?_ ?_
  ·intro e he v W W' h hb
   simp only [List.mem_cons,List.not_mem_nil,or_false] at he
   rcases he with rfl|rfl
   ·exact LitO.up h hb
   ·exact ParR.up h hb
  apply Exists.intro
  refine ⟨fun x=>?_,?_,?_⟩
  ·simp only [List.take_succ_cons,List.take_zero]
   iterate 7
    refine relQuiet rfl rfl ?_
    apply Exists.intro
    refine ⟨fun F hF hf K hK=>?_,?_⟩
    ·have hFc:=hF.cell
     have hFf:=hF.frozen
     go_big_quiet_op
     first|exact hK|(apply Exists.intro;refine ⟨fun _=>?_,?_⟩;(· fail);exact hK)
    (try simp only [Act.put,List.setIfInBounds_toArray,List.set_cons_zero,List.set_cons_succ])
   refine relTold rfl rfl ?_ ?_
   ·intro F hF hf d
    have hFc:=hF.cell
    have hFf:=hF.frozen
    simp [yieldsR,yieldsUpon,go_sem]
    exact ⟨LitO.new (F d) [a,y,b] 3 rfl (by decide),up_alloc _ _⟩
   (try simp only [Act.put,List.setIfInBounds_toArray,List.set_cons_zero,List.set_cons_succ])
   refine relTold rfl rfl ?_ ?_
   ·intro F hF hf d
    have hFc:=hF.cell
    have hFf:=hF.frozen
    have h9:=hf _ List.mem_cons_self (by rfl) d
    obtain ⟨g9,e9,n9⟩:=h9
    simp only [] at e9 n9
    rw [e9] at n9
    simp [yieldsR,yieldsUpon,go_sem,e9]
    exact ⟨ParR.one n9,up_alloc _ _⟩
   (try simp only [Act.put,List.setIfInBounds_toArray,List.set_cons_zero,List.set_cons_succ])
   refine relEnd ?_
   exact rfl
  ·exact fun x=>rfl
  ·intro w9 xs hB9 hf
   simp only [List.drop_succ_cons,List.drop_zero]
   have h7:=hf _ (List.mem_cons_of_mem _ List.mem_cons_self)
   simp only [] at h7
   have H7:Hid (ParR [[a,y,b]] (xs 8) w9∧Below w.heap.size w w9):=⟨h7,bstep HB0.out hB9⟩
   obtain ⟨p7,c7,e7,_⟩:=h7
   generalize xs 8=v8 at H7 e7 ⊢
   subst e7
   clear hf hB9 b1 b2 c0
   go_wp2
   go_ret
   exact ⟨_,rfl,H7.out⟩
 ·replace t0:=t0.trans (decide_eq_false k)
  replace t1:=t1.trans (decide_eq_false k')
  rw [if_neg k,if_neg k'] at ex
  subst ex
  clear k k' hl hd hfit HC HV
  go_enter Tryz.func43,Tryz.ntmps43
  go_wp2
  go_ret
  exact ⟨_,rfl,ParR.nil _,up_alloc w _⟩
end Go.Proofs.YtihjnbbhpojnpaaGreatDoor.Wd
