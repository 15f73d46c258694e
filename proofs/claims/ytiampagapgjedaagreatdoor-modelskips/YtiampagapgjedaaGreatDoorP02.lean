/- Tensors: what tens.Good, tens.Same, slices.Clone, slices.Equal of numbers hand back; the reference's Is, Alike. Tensors: what tens.Same and the reference's Alike hand back; the law's great and row. · Plain arithmetic of fixed-point numbers, as integers: held sums, rounded quotients of sizes. Nothing of the program is named here. · Facts of rounded and held numbers: plain arithmetic. Nothing of the program is named here. · Tensors: what tens.walk hands back. Tensors: what tens.spread hands back. Tensors that are answered: two slices of the call's own, told in a cell of the callee. Nothing of th -/
import Derived.Test.YtiampagapgjedaaGreatDoorP00
import Derived.Test.YtiampagapgjedaaGreatDoorP01
import Derived.RowKit
import Derived.Laws.Bits64b
import Derived.Laws.BitsLemmas
import Derived.Deep.AppendLies
set_option linter.unusedVariables false
set_option linter.unusedSimpArgs false
set_option maxHeartbeats 16000000
set_option maxRecDepth 16000
namespace Go.Proofs.YtiampagapgjedaaGreatDoor.Wd
open Go.RowKit
theorem fixT:NumT Tryz.prog 49 61 .i64 8:=⟨Tryz.underlying49,by kernel_rfl⟩
/-- A tensor: a shape, and as many numbers as that has. -/
abbrev isP (d x:List Int):Prop:=goodN (ntl d)∧x.length=prodN (ntl d)
theorem cell_low {w w':World} {v:Value} {b o:Nat} (h:w.cell? ⟨b,o,none⟩=some v) (hB:Below w.heap.size w w'):w'.cell? ⟨b,o,none⟩=some v:=still_cell hB h
theorem beq_dec (a b:Int):(a==b)=decide (a=b):=by
 by_cases h:a=b <;> simp [h]
/-- A struct of two values in a block. -/
def Box (w:World) (b:Nat) (s t:Value):Prop:=w.cell? ⟨b,0,none⟩=some s∧w.cell? ⟨b,1,none⟩=some t
theorem Box.up {w w':World} {b:Nat} {s t:Value} (h:Box w b s t) (hB:Below w.heap.size w w'):Box w' b s t:=⟨cell_low h.1 hB,cell_low h.2 hB⟩
theorem tgood_any (s t:Value) (d x:List Int) (hd:RI d) (w:World) (hs:Nums .i64 w s d) (ht:Nums .i64 w t x):
  Calls Tryz.prog 129 #[.agg #[s,t]] w fun e w'=>e = .returned (.bool (decide (isP d x)))∧Below w.heap.size w w':=by
 have HS:Hid (Nums .i64 w s d∧RI d):=⟨hs,hd⟩
 obtain ⟨p,n,c,rfl,HA⟩:=hs.lst
 obtain ⟨p2,n2,c2,rfl,HB⟩:=ht.lst
 have HL:Hid (x.length=n2):=HB.out.1
 clear hs ht hd
 by_cases hg:goodN (ntl d)
 ·have HG:Hid (goodN (ntl d)):=hg
  obtain ⟨N,eN⟩:∃ N,prodN (ntl d)=N:=⟨_,rfl⟩
  have er:decide (isP d x)=((n2:Int)==(N:Int)):=by
   rw [beq_dec]
   exact decide_eq_decide.2 ⟨fun h=>by have:=h.2;rw [HL.out,eN] at this;omega,fun h=>⟨hg,by rw [HL.out,eN];omega⟩⟩
  rw [er]
  have HN:Hid (sizeN (ntl d)=N):=by show _=_;rw [sizeN_good hg];exact eN
  clear er eN hg
  go_enter Tryz.func129,Tryz.ntmps129
  go_wp2_with fail
  refine name_world (fun W0 hW0=>?_)
  have B0:Below w.heap.size w W0:=by rw [hW0];go_grown
  have X0:W0.cell? ⟨w.heap.size,0,none⟩=some (.slice p n c)∧W0.cell? ⟨w.heap.size,1,none⟩=some (.slice p2 n2 c2):=by rw [hW0];simp [go_sem]
  have x0:=X0.1
  have x1:=X0.2
  clear hW0 X0
  have cg:∀ m,Calls Tryz.prog 143 #[.slice p n c] (W0.drewN m) fun e w'=>e = .returned (.bool true)∧w'=W0.drewN m:=fun m=>by
   have:=good_any _ d HS.out.2 (W0.drewN m) (HS.out.1.up (below_drew B0 m))
   rw [decide_eq_true HG.out] at this
   exact this
  have cz:∀ m,Calls Tryz.prog 144 #[.slice p n c] (W0.drewN m) fun e w'=>e = .returned (.int .i64 (N:Int))∧w'=W0.drewN m:=fun m=>by
   have:=size_any _ d HS.out.2 (W0.drewN m) (HS.out.1.up (below_drew B0 m))
   rw [HN.out] at this
   exact this
  go_quiet (first|exact Calls.quiet_of_same (cg _)|exact Calls.quiet_of_same (cz _))
  go_wp2
  go_ret
  exact ⟨rfl,below_drew B0 nq⟩
 ·rw [decide_eq_false (fun h:isP d x=>hg h.1)]
  have HG:Hid (¬ goodN (ntl d)):=hg
  clear hg
  go_enter Tryz.func129,Tryz.ntmps129
  go_wp2_with fail
  refine name_world (fun W0 hW0=>?_)
  have B0:Below w.heap.size w W0:=by rw [hW0];go_grown
  have X0:W0.cell? ⟨w.heap.size,0,none⟩=some (.slice p n c)∧W0.cell? ⟨w.heap.size,1,none⟩=some (.slice p2 n2 c2):=by rw [hW0];simp [go_sem]
  have x0:=X0.1
  have x1:=X0.2
  clear hW0 X0
  have cg:∀ m,Calls Tryz.prog 143 #[.slice p n c] (W0.drewN m) fun e w'=>e = .returned (.bool false)∧w'=W0.drewN m:=fun m=>by
   have:=good_any _ d HS.out.2 (W0.drewN m) (HS.out.1.up (below_drew B0 m))
   rw [decide_eq_false HG.out] at this
   exact this
  go_quiet (exact Calls.quiet_of_same (cg _))
  go_wp2
  go_ret
  exact ⟨rfl,below_drew B0 nq⟩
theorem ris_any (s t:Value) (d x:List Int) (hd:RI d) (w:World) (hs:Nums .i64 w s d) (ht:Nums .i64 w t x):
  Calls Tryz.prog 52 #[.agg #[s,t]] w fun e w'=>e = .returned (.bool (decide (isP d x)))∧Below w.heap.size w w':=by
 have HS:Hid (Nums .i64 w s d∧RI d):=⟨hs,hd⟩
 obtain ⟨p,n,c,rfl,HA⟩:=hs.lst
 obtain ⟨p2,n2,c2,rfl,HB⟩:=ht.lst
 have HL:Hid (x.length=n2):=HB.out.1
 clear hs ht hd
 by_cases hg:goodN (ntl d)
 ·have HG:Hid (goodN (ntl d)):=hg
  obtain ⟨N,eN⟩:∃ N,prodN (ntl d)=N:=⟨_,rfl⟩
  have er:decide (isP d x)=((n2:Int)==(N:Int)):=by
   rw [beq_dec]
   exact decide_eq_decide.2 ⟨fun h=>by have:=h.2;rw [HL.out,eN] at this;omega,fun h=>⟨hg,by rw [HL.out,eN];omega⟩⟩
  rw [er]
  have HN:Hid (sizeN (ntl d)=N):=by show _=_;rw [sizeN_good hg];exact eN
  clear er eN hg
  go_enter Tryz.func52,Tryz.ntmps52
  go_wp2_with fail
  refine name_world (fun W0 hW0=>?_)
  have B0:Below w.heap.size w W0:=by rw [hW0];go_grown
  have X0:W0.cell? ⟨w.heap.size,0,none⟩=some (.slice p n c)∧W0.cell? ⟨w.heap.size,1,none⟩=some (.slice p2 n2 c2):=by rw [hW0];simp [go_sem]
  have x0:=X0.1
  have x1:=X0.2
  clear hW0 X0
  have cg:∀ m,Calls Tryz.prog 83 #[.slice p n c] (W0.drewN m) fun e w'=>e = .returned (.bool true)∧w'=W0.drewN m:=fun m=>by
   have:=rgood_any _ d HS.out.2 (W0.drewN m) (HS.out.1.up (below_drew B0 m))
   rw [decide_eq_true HG.out] at this
   exact this
  have cz:∀ m,Calls Tryz.prog 51 #[.slice p n c] (W0.drewN m) fun e w'=>e = .returned (.int .i64 (N:Int))∧w'=W0.drewN m:=fun m=>by
   have:=rsize_any _ d HS.out.2 (W0.drewN m) (HS.out.1.up (below_drew B0 m))
   rw [HN.out] at this
   exact this
  go_quiet (first|exact Calls.quiet_of_same (cg _)|exact Calls.quiet_of_same (cz _))
  go_wp2
  go_ret
  exact ⟨rfl,below_drew B0 nq⟩
 ·rw [decide_eq_false (fun h:isP d x=>hg h.1)]
  have HG:Hid (¬ goodN (ntl d)):=hg
  clear hg
  go_enter Tryz.func52,Tryz.ntmps52
  go_wp2_with fail
  refine name_world (fun W0 hW0=>?_)
  have B0:Below w.heap.size w W0:=by rw [hW0];go_grown
  have X0:W0.cell? ⟨w.heap.size,0,none⟩=some (.slice p n c)∧W0.cell? ⟨w.heap.size,1,none⟩=some (.slice p2 n2 c2):=by rw [hW0];simp [go_sem]
  have x0:=X0.1
  have x1:=X0.2
  clear hW0 X0
  have cg:∀ m,Calls Tryz.prog 83 #[.slice p n c] (W0.drewN m) fun e w'=>e = .returned (.bool false)∧w'=W0.drewN m:=fun m=>by
   have:=rgood_any _ d HS.out.2 (W0.drewN m) (HS.out.1.up (below_drew B0 m))
   rw [decide_eq_false HG.out] at this
   exact this
  go_quiet (exact Calls.quiet_of_same (cg _))
  go_wp2
  go_ret
  exact ⟨rfl,below_drew B0 nq⟩
theorem cloneI_any (v:Value) (l:List Int) (hl:l.length≤1073741824) (w:World) (hv:Nums .i64 w v l):
  Calls Tryz.prog 66 #[v] w fun e w'=>∃ v',e = .returned v'∧OwnK .i64 3 w' w.heap.size v' l∧Below w.heap.size w w':=by
 have hnil:=fun (w:World) a n c=>Lib.run_eql_slice_nil (P:=Tryz.prog) w 23 3 a n c 0 0 Tryz.underlying23
 have HV:Hid (Nums .i64 w v l∧l.length≤1073741824):=⟨hv,hl⟩
 rcases hv with ⟨rfl,rfl⟩|⟨ad,c,rfl,h⟩
 ·go_enter Tryz.func66,Tryz.ntmps66
  go_wp2
  go_ret
  exact ⟨_,rfl,OwnK.nil _ _ _ _,Below.refl _ _⟩
 ·obtain ⟨n,en⟩:∃ n,l.length=n:=⟨_,rfl⟩
  have HE:Hid (l.length=n):=en
  rw [en] at HV ⊢
  clear h hl en
  have H5:Hid (OwnK .i64 3 (w.alloc (.cells #[] 3)) w.heap.size (.slice (some ⟨w.heap.size,0,none⟩) 0 0) []):=own_lit w [] 0 rfl (by decide)
  have H6:Hid (Nums .i64 (w.alloc (.cells #[] 3)) (.slice (some ad) n c) l):=HV.out.1.up (up_alloc w _)
  have H7:Hid (([]:List Int).length+l.length≤1073741824):=by show _≤_;rw [HE.out];simpa using HV.out.2
  have H8:Hid (Below w.heap.size w (w.alloc (.cells #[] 3))):=up_alloc w _
  go_enter Tryz.func66,Tryz.ntmps66
  go_wp2_with (at_builtin;refine wpList_appendK numT (by decide) rfl (.tmp 5) (.tmp 6) rfl w.heap.size _ [] rfl H5.out _ l rfl H6.out H7.out (by simp) w H8.out ?_;intro v0 w0 H0 B0)
  refine bodyPost_ret (v:=v0) (by simp [results,Tryz.results66,go_sem]) rfl ⟨_,rfl,H0.out,B0⟩
theorem cloneF_any (v:Value) (l:List Int) (hl:l.length≤1073741824) (w:World) (hv:Nums .i64 w v l):
  Calls Tryz.prog 82 #[v] w fun e w'=>∃ v',e = .returned v'∧OwnK .i64 61 w' w.heap.size v' l∧Below w.heap.size w w':=by
 have hnil:=fun (w:World) a n c=>Lib.run_eql_slice_nil (P:=Tryz.prog) w 49 61 a n c 0 0 Tryz.underlying49
 have HV:Hid (Nums .i64 w v l∧l.length≤1073741824):=⟨hv,hl⟩
 rcases hv with ⟨rfl,rfl⟩|⟨ad,c,rfl,h⟩
 ·go_enter Tryz.func82,Tryz.ntmps82
  go_wp2
  go_ret
  exact ⟨_,rfl,OwnK.nil _ _ _ _,Below.refl _ _⟩
 ·obtain ⟨n,en⟩:∃ n,l.length=n:=⟨_,rfl⟩
  have HE:Hid (l.length=n):=en
  rw [en] at HV ⊢
  clear h hl en
  have H5:Hid (OwnK .i64 61 (w.alloc (.cells #[] 61)) w.heap.size (.slice (some ⟨w.heap.size,0,none⟩) 0 0) []):=own_lit w [] 0 rfl (by decide)
  have H6:Hid (Nums .i64 (w.alloc (.cells #[] 61)) (.slice (some ad) n c) l):=HV.out.1.up (up_alloc w _)
  have H7:Hid (([]:List Int).length+l.length≤1073741824):=by show _≤_;rw [HE.out];simpa using HV.out.2
  have H8:Hid (Below w.heap.size w (w.alloc (.cells #[] 61))):=up_alloc w _
  go_enter Tryz.func82,Tryz.ntmps82
  go_wp2_with (at_builtin;refine wpList_appendK fixT (by decide) rfl (.tmp 5) (.tmp 6) rfl w.heap.size _ [] rfl H5.out _ l rfl H6.out H7.out (by simp) w H8.out ?_;intro v0 w0 H0 B0)
  refine bodyPost_ret (v:=v0) (by simp [results,Tryz.results82,go_sem]) rfl ⟨_,rfl,H0.out,B0⟩
theorem ralike_any (s t s' t':Value) (d x d' x':List Int) (hd:d.length≤9223372036854775807) (hx:x.length≤9223372036854775807) (w:World) (hs:Nums .i64 w s d) (ht:Nums .i64 w t x) (hs':Nums .i64 w s' d') (ht':Nums .i64 w t' x'):
  Calls Tryz.prog 26 #[.agg #[s,t],.agg #[s',t']] w fun e w'=>e = .returned (.bool (decide (d=d'∧x=x')))∧Below w.heap.size w w':=by
 have c1:=fun W (hW:Below w.heap.size w W)=>rsame_any s s' d d' hd W (hs.up hW) (hs'.up hW)
 obtain ⟨p,n,c,rfl,HA⟩:=hs.lst
 obtain ⟨p2,n2,c2',rfl,HB⟩:=ht.lst
 obtain ⟨p3,n3,c3,rfl,HC⟩:=hs'.lst
 obtain ⟨p4,n4,c4,rfl,HD⟩:=ht'.lst
 rw [HB.out.1] at hx
 have hx':(n2:Int)≤9223372036854775807:=by omega
 clear hs ht hs' ht' hd HA HC
 by_cases hdd:d=d'
 ·rw [decide_eq_true hdd] at c1
  have er:decide (d=d'∧x=x')=decide (x=x'):=decide_eq_decide.2 ⟨fun h=>h.2,fun h=>⟨hdd,h⟩⟩
  rw [er]
  obtain ⟨r,hr⟩:∃ r,decide (x=x')=r:=⟨_,rfl⟩
  have HR:Hid (decide (x=x')=r):=hr
  rw [hr]
  clear er hr hdd
  go_enter Tryz.func26,Tryz.ntmps26
  by_cases hn:n2=n4
  ·subst hn
   go_wp2_with fail
   refine (c1 _ ?_).mono ?_
   ·go_grown
   rintro e w1 ⟨rfl,m,hw⟩
   have B1:Hid (Below w.heap.size w w1):=by rw [hw];exact below_drew (by go_grown) m
   have X1:w1.cell? ⟨w.heap.size,0,none⟩=some (.slice p n c)∧w1.cell? ⟨w.heap.size,1,none⟩=some (.slice p2 n2 c2')∧w1.cell? ⟨w.heap.size+1,0,none⟩=some (.slice p3 n3 c3)∧w1.cell? ⟨w.heap.size+1,1,none⟩=some (.slice p4 n2 c4):=by rw [hw];simp [go_sem]
   obtain ⟨x1,x2,x3,x4⟩:=X1
   clear hw c1
   go_wp2_with fail
   go_loopg [5] n2 (fun gg v wr=>∃ (k d:Nat),k≤n2∧gg=n2 - k∧v = .int .i64 (k:Int)∧Hid (∀ i,i < k→x.getD i 0=x'.getD i 0)∧wr=w1.drewN d)
   case atStart=>exact ⟨0,0,by omega,by omega,rfl,fun i hi=>by omega,rfl⟩
   case round=>
    obtain ⟨k,d,hk,hg,rfl,Hx,rfl⟩:=hrel
    by_cases hkn:k < n2
    ·have hk':(k:Int) < (n2:Int):=by omega
     obtain ⟨q,o,rfl,ca⟩:=HB.out.2 k hkn
     obtain ⟨q2,o2,rfl,cb⟩:=HD.out.2 k hkn
     have ca:=cell_low ca B1.out
     have cb:=cell_low cb B1.out
     obtain ⟨xx,ex⟩:∃ xx,x.getD k 0=xx:=⟨_,rfl⟩
     obtain ⟨y,ey⟩:∃ y,x'.getD k 0=y:=⟨_,rfl⟩
     have HE:Hid (x.getD k 0=xx∧x'.getD k 0=y):=⟨ex,ey⟩
     rw [ex] at ca
     rw [ey] at cb
     clear ex ey
     by_cases hxy:xx=y
     ·subst hxy
      have Hn:Hid (∀ i,i < k+1→x.getD i 0=x'.getD i 0):=fun i hi=>by
       rcases Nat.lt_succ_iff_lt_or_eq.1 hi with h|rfl
       ·exact Hx.out i h
       ·rw [HE.out.1,HE.out.2]
      clear Hx
      go_wp2
      go_region
      all_goals
       go_wp2
       go_roundg (n2 - (k+1))
      case measure=>omega
      case rel=>exact ⟨k+1,d+1,by omega,rfl,by first|rfl|simp,Hn,rfl⟩
     ·have hxy':(xx != y)=true:=by simp [hxy]
      go_wp2
      go_region
      all_goals go_wp2
      go_ret
      rw [← HR.out,decide_eq_false (ne_at HB.out.1 HD.out.1 hkn (by rw [HE.out.1,HE.out.2];exact hxy))]
      exact ⟨rfl,below_drew B1.out (d+1)⟩
    ·obtain rfl:k=n2:=by omega
     go_wp2
     go_ret
     rw [← HR.out,decide_eq_true (eq_all HB.out.1 HD.out.1 Hx.out)]
     exact ⟨rfl,below_drew B1.out d⟩
  ·have hne:((n2:Int) != (n4:Int))=true:=by simp;omega
   have hne':¬ ((n2:Int)=(n4:Int)):=by omega
   go_wp2_with fail
   refine (c1 _ ?_).mono ?_
   ·go_grown
   rintro e w1 ⟨rfl,m,rfl⟩
   go_wp2
   go_ret
   rw [← HR.out,decide_eq_false (fun e=>hn (by rw [← HB.out.1,← HD.out.1,e]))]
   exact ⟨rfl,below_drew (by go_grown) m⟩
 ·rw [decide_eq_false hdd] at c1
  rw [decide_eq_false (fun h:d=d'∧x=x'=>hdd h.1)]
  clear hdd
  go_enter Tryz.func26,Tryz.ntmps26
  go_wp2_with fail
  refine (c1 _ ?_).mono ?_
  ·go_grown
  rintro e w1 ⟨rfl,m,rfl⟩
  go_wp2
  go_ret
  exact ⟨rfl,below_drew (by go_grown) m⟩
end Go.Proofs.YtiampagapgjedaaGreatDoor.Wd
namespace Go.Proofs.YtiampagapgjedaaGreatDoor.Fx
open Go.RowKit
/-- What is beyond the ends is held there. -/
def hold (x:Int):Int:=if 9223372036854775807 < x then 9223372036854775807 else if x < -9223372036854775808 then -9223372036854775808 else x
/-- A quotient of sizes, rounded: to the nearest, of two that are as near to the even one. -/
def rq (n d:Nat):Nat:=if d < 2*(n % d)∨(2*(n % d)=d∧n / d % 2=1) then n / d+1 else n / d
def sg (b:Bool) (n:Nat):Int:=if b then -(n:Int) else n
def differ (a b:Int):Bool:=decide (a < 0) != decide (b < 0)
def mulI (a b:Int):Int:=hold (sg (differ a b) (rq (a.natAbs*b.natAbs) 4294967296))
def overI (a:Int):Int:=if a=0 then 0 else if a < 0 then -9223372036854775808 else 9223372036854775807
def divI (a b:Int):Int:=if b=0 then overI a else hold (sg (differ a b) (rq (a.natAbs*4294967296) b.natAbs))
def lim (b:Bool):Int:=if b then -9223372036854775808 else 9223372036854775807
/-- A quotient and its rest, rounded. -/
def nr (q r d:Nat):Nat:=if d < 2*r∨(2*r=d∧q % 2=1) then q+1 else q
def InR (a:Int):Prop:=-9223372036854775808≤a∧a≤9223372036854775807
theorem hold_in {x:Int} (h1:-9223372036854775808≤x) (h2:x≤9223372036854775807):hold x=x:=by unfold hold;split <;> (try split) <;> omega
theorem hold_hi {x:Int} (h:9223372036854775807≤x):hold x=9223372036854775807:=by unfold hold;split <;> (try split) <;> omega
theorem hold_lo {x:Int} (h:x≤-9223372036854775808):hold x = -9223372036854775808:=by unfold hold;split <;> (try split) <;> omega
theorem hold_rng (x:Int):-9223372036854775808≤hold x∧hold x≤9223372036854775807:=by unfold hold;split <;> (try split) <;> omega
/-- The sign of a bitwise operation's value is its highest bit. -/
theorem wrap_toNat_neg (v:BitVec 64):IntKind.i64.wrap (v.toNat:Int) < 0↔v.msb=true:=by
 rw [IntKind.wrap_i64,BitVec.msb_eq_decide]
 have:=v.isLt
 simp only [decide_eq_true_eq]
 omega
theorem ofInt_msb (a:Int) (h1:-9223372036854775808≤a) (h2:a≤9223372036854775807):(BitVec.ofInt 64 a).msb=decide (a < 0):=by
 rw [BitVec.msb_eq_decide,BitVec.toNat_ofInt]
 rw [Bool.eq_iff_iff]
 simp only [decide_eq_true_eq]
 omega
theorem ofInt_wrap (v:BitVec 64):BitVec.ofInt 64 (IntKind.i64.wrap (v.toNat:Int))=v:=by
 apply BitVec.eq_of_toNat_eq
 rw [BitVec.toNat_ofInt,IntKind.wrap_i64]
 have:=v.isLt
 omega
theorem differ_iff (a b:Int):differ a b=true↔(a < 0∧0≤b)∨(0≤a∧b < 0):=by
 unfold differ
 by_cases h1:a < 0 <;> by_cases h2:b < 0 <;> simp [h1,h2] <;> omega
theorem and_xor_neg (a b c d:Int) (ha:InR a) (hb:InR b) (hc:InR c) (hd:InR d):
  bits .and .i64 (bits .xor .i64 a b) (bits .xor .i64 c d) < 0↔((a < 0∧0≤b)∨(0≤a∧b < 0))∧((c < 0∧0≤d)∨(0≤c∧d < 0)):=by
 rw [← differ_iff,← differ_iff]
 show IntKind.i64.wrap ((BitVec.ofInt 64 (IntKind.i64.wrap ((BitVec.ofInt 64 a ^^^ BitVec.ofInt 64 b).toNat:Int)) &&& BitVec.ofInt 64 (IntKind.i64.wrap ((BitVec.ofInt 64 c ^^^ BitVec.ofInt 64 d).toNat:Int))).toNat:Int) < 0↔_
 rw [wrap_toNat_neg,ofInt_wrap,ofInt_wrap,BitVec.msb_and,BitVec.msb_xor,BitVec.msb_xor,ofInt_msb a ha.1 ha.2,ofInt_msb b hb.1 hb.2,ofInt_msb c hc.1 hc.2,ofInt_msb d hd.1 hd.2]
 unfold differ
 cases decide (a < 0) <;> cases decide (b < 0) <;> cases decide (c < 0) <;> cases decide (d < 0) <;> simp
theorem wrap64_rng (n:Int):InR (wrap64 n):=by unfold InR wrap64;omega
theorem add_over (a b:Int) (ha:InR a) (hb:InR b) (h:bits .and .i64 (bits .xor .i64 a (wrap64 (a+b))) (bits .xor .i64 b (wrap64 (a+b))) < 0):
  hold (a+b)=if a < 0 then -9223372036854775808 else 9223372036854775807:=by
 rw [and_xor_neg a _ b _ ha (wrap64_rng _) hb (wrap64_rng _)] at h
 unfold InR at ha hb
 unfold wrap64 at h
 by_cases h1:a < 0
 ·rw [if_pos h1,hold_lo];omega
 ·rw [if_neg h1,hold_hi];omega
theorem add_fits (a b:Int) (ha:InR a) (hb:InR b) (h:0≤bits .and .i64 (bits .xor .i64 a (wrap64 (a+b))) (bits .xor .i64 b (wrap64 (a+b)))):
  wrap64 (a+b)=hold (a+b):=by
 have h':=mt (and_xor_neg a _ b _ ha (wrap64_rng (a+b)) hb (wrap64_rng (a+b))).2 (by omega)
 unfold InR at ha hb
 unfold wrap64 at h'
 unfold wrap64 hold
 split <;> (try split) <;> omega
theorem sub_over (a b:Int) (ha:InR a) (hb:InR b) (h:bits .and .i64 (bits .xor .i64 a b) (bits .xor .i64 a (wrap64 (a - b))) < 0):
  hold (a - b)=if a < 0 then -9223372036854775808 else 9223372036854775807:=by
 rw [and_xor_neg a _ a _ ha hb ha (wrap64_rng _)] at h
 unfold InR at ha hb
 unfold wrap64 at h
 by_cases h1:a < 0
 ·rw [if_pos h1,hold_lo];omega
 ·rw [if_neg h1,hold_hi];omega
theorem sub_fits (a b:Int) (ha:InR a) (hb:InR b) (h:0≤bits .and .i64 (bits .xor .i64 a b) (bits .xor .i64 a (wrap64 (a - b)))):
  wrap64 (a - b)=hold (a - b):=by
 have h':=mt (and_xor_neg a _ a _ ha hb ha (wrap64_rng (a - b))).2 (by omega)
 unfold InR at ha hb
 unfold wrap64 at h'
 unfold wrap64 hold
 split <;> (try split) <;> omega
theorem rq_nr (n d:Nat):nr (n / d) (n % d) d=rq n d:=rfl
theorem held_far (b:Bool) (n:Nat) (h:9223372036854775807 < n):lim b=hold (sg b n):=by
 cases b
 ·rw [hold_hi (by unfold sg;simp;omega)];rfl
 ·rw [hold_lo (by unfold sg;simp;omega)];rfl
theorem held_up (n:Nat) (h:n≤9223372036854775807):(n:Int)=hold (sg false n):=by
 rw [hold_in (by simp [sg];try omega) (by simp [sg];try omega)];rfl
theorem held_down (n:Nat) (h:n≤9223372036854775807):-(n:Int)=hold (sg true n):=by
 rw [hold_in (by simp [sg];try omega) (by simp [sg];try omega)];rfl
theorem joinN (hi lo:Nat) (h1:hi < 4294967296) (h2:lo < 18446744073709551616):
  bits .or .u64 ((hi:Int)*4294967296) ((lo:Int) / 4294967296)=((hi*4294967296+lo / 4294967296:Nat):Int):=by
 have hw:∀ n:Int,0≤n→n < 2 ^ 64→IntKind.u64.wrap n=n:=fun n h0 h1=>by rw [IntKind.wrap_u64];omega
 rw [bits_join .u64 64 (by decide) hw 32 _ _ (by omega) (by omega) (by omega) (by omega) (by omega) (by omega)]
 omega
theorem maskN (a:Nat) (ha:a < 18446744073709551616):bits .and .u64 (a:Int) 4294967295=((a % 4294967296:Nat):Int):=by
 have h:=bits_and_u64_nat a 4294967295 ha (by omega)
 have e:a &&& 4294967295=a % 4294967296:=Nat.and_two_pow_sub_one_eq_mod a 32
 rw [e] at h
 exact h
theorem parts_q (hi lo:Nat):(hi*18446744073709551616+lo) / 4294967296=hi*4294967296+lo / 4294967296:=by omega
theorem parts_r (hi lo:Nat):(hi*18446744073709551616+lo) % 4294967296=lo % 4294967296:=by omega
theorem nr_le (q r d:Nat):nr q r d≤q+1:=by unfold nr;split <;> omega
theorem nr_ge (q r d:Nat):q≤nr q r d:=by unfold nr;split <;> omega
theorem le_rq (n d:Nat):n / d≤rq n d:=by rw [← rq_nr];exact nr_ge _ _ _
theorem rq_le (n d:Nat):rq n d≤n / d+1:=by rw [← rq_nr];exact nr_le _ _ _
theorem parts_lt (hi lo:Nat) (h1:hi < 2147483648) (h2:lo < 18446744073709551616):rq (hi*18446744073709551616+lo) 4294967296 < 18446744073709551616:=by
 have:=rq_le (hi*18446744073709551616+lo) 4294967296
 omega
/-- A product of 2^95 or more is beyond the ends. -/
theorem mul_far (a b:Int) (x y:Nat) (ea:a.natAbs=x) (eb:b.natAbs=y) (h:2147483648≤x*y / 18446744073709551616):lim (differ a b)=mulI a b:=by
 unfold mulI
 rw [ea,eb]
 have:=le_rq (x*y) 4294967296
 exact held_far _ _ (by omega)
theorem mul_near (a b:Int) (x y:Nat) (ea:a.natAbs=x) (eb:b.natAbs=y) (hi lo:Nat) (e1:hi=x*y / 18446744073709551616) (e2:lo=x*y % 18446744073709551616):
  hold (sg (differ a b) (rq (hi*18446744073709551616+lo) 4294967296))=mulI a b:=by
 unfold mulI
 rw [ea,eb,show hi*18446744073709551616+lo=x*y by omega]
theorem add_over' (a b:Int) (ha:InR a) (hb:InR b) (h:bits .and .i64 (bits .xor .i64 a (wrap64 (a+b))) (bits .xor .i64 b (wrap64 (a+b))) < 0):
  lim (decide (a < 0))=hold (a+b):=by
 rw [add_over a b ha hb h];unfold lim;by_cases h:a < 0 <;> simp [h]
theorem sub_over' (a b:Int) (ha:InR a) (hb:InR b) (h:bits .and .i64 (bits .xor .i64 a b) (bits .xor .i64 a (wrap64 (a - b))) < 0):
  lim (decide (a < 0))=hold (a - b):=by
 rw [sub_over a b ha hb h];unfold lim;by_cases h:a < 0 <;> simp [h]
theorem overI_ne (a:Int) (h:¬ a=0):lim (decide (a < 0))=overI a:=by
 unfold overI lim;rw [if_neg h];by_cases h:a < 0 <;> simp [h]
theorem div_far (a b x y:Int) (ea:(a.natAbs:Int)=x) (eb:(b.natAbs:Int)=y) (hb:b≠0) (hy:0 < y) (h:y≤x / 2147483648):lim (differ a b)=divI a b:=by
 unfold divI
 rw [if_neg hb]
 apply held_far
 have:=le_rq (a.natAbs*4294967296) b.natAbs
 have h2:9223372036854775808≤a.natAbs*4294967296 / b.natAbs:=by
  rw [Nat.le_div_iff_mul_le (by omega)]
  omega
 omega
theorem div_near (a b x y:Int) (m:Nat) (ea:(a.natAbs:Int)=x) (eb:(b.natAbs:Int)=y) (hb:b≠0) (hm:nr ((x*4294967296) / y).toNat ((x*4294967296) % y).toNat y.toNat=m):hold (sg (differ a b) m)=divI a b:=by
 unfold divI
 subst ea eb hm
 have c:(4294967296:Int)=((4294967296:Nat):Int):=rfl
 have e1:((a.natAbs:Int)*4294967296 / (b.natAbs:Int)).toNat=a.natAbs*4294967296 / b.natAbs:=by
  rw [c,← Int.natCast_mul,← Int.natCast_ediv,Int.toNat_natCast]
 have e2:((a.natAbs:Int)*4294967296 % (b.natAbs:Int)).toNat=a.natAbs*4294967296 % b.natAbs:=by
  rw [c,← Int.natCast_mul,← Int.natCast_emod,Int.toNat_natCast]
 rw [if_neg hb,← rq_nr,e1,e2,Int.toNat_natCast]
theorem mulI_rng (a b:Int):InR (mulI a b):=by unfold mulI;exact hold_rng _
end Go.Proofs.YtiampagapgjedaaGreatDoor.Fx
namespace Go.Proofs.YtiampagapgjedaaGreatDoor.Wd
open Go.RowKit
/-- make of no number, with room. -/
theorem wpList_make0K {P:Program} {t e:TypeId} {k:IntKind} {b:Nat} (T:NumT P t e k b) (hb8:b≤8) (w:World) {ops:Array Oper} {rest:List Oper} {o:Oper} {a:Act} {Q:Exit→Act→World→Prop}
  (hg:o.guard=none) (l c:Operand) (hop:o.op=Op.makeSlice t l c) (kl kc:IntKind) (C:Int) (n:Nat) (hl:a.eval l = .int kl 0) (hc:a.eval c = .int kc C) (hC:C=(n:Int)) (hn:n≤1073741824)
  (hK:∀ w',Hid (OwnK k e w' w.heap.size (.slice (some ⟨w.heap.size,0,none⟩) 0 n) [])→Below w.heap.size w w'→wpList P ops Q rest (a.put o.dst (.slice (some ⟨w.heap.size,0,none⟩) 0 n)) w'):
  wpList P ops Q (o :: rest) a w:=by
 obtain ⟨i0,hi,hz0,hz1,hz2⟩:=info_of T
 have hm:b*n≤8*1073741824:=Nat.mul_le_mul hb8 hn
 refine wpList_make_own w hg l c t hop w.heap.size e i0 (.int k 0) 1 T.ht hi hz0 hz1 kl kc C n hl hc hC (by rw [hz2];omega) (by unfold maxLen;omega) (Nat.le_refl _) ?_
 intro w' h1 h2
 exact hK w' h1 (Below.grown (Below.refl _ _) h2 (Nat.le_refl _) (fun j hj=>by cases hj))
theorem rowW_le {d s:List Nat} (hd:∀ x,x∈d→x≤4096) (hs:∀ x,x∈s→x≤4096):∀ k a,a∈rowW d s k→a≤k*16777216
 | 0,a,h=>by simp [rowW] at h;omega
 | k+1,a,h=>by
  rw [rowW] at h
  obtain ⟨b,hb,h⟩:=List.mem_flatMap.1 h
  obtain ⟨n,hn,rfl⟩:=List.mem_map.1 h
  have h1:=rowW_le hd hs k b hb
  have h2:=List.mem_range.1 hn
  have h3:d.getD k 0≤4096:=by
   rcases Nat.lt_or_ge k d.length with hk|hk
   ·rw [getD_lt d k 0 hk];exact hd _ (List.getElem_mem _)
   ·rw [getD_ge d k 0 hk];omega
  have h4:s.getD k 0≤4096:=by
   rcases Nat.lt_or_ge k s.length with hk|hk
   ·rw [getD_lt s k 0 hk];exact hs _ (List.getElem_mem _)
   ·rw [getD_ge s k 0 hk];omega
  have:=Nat.mul_le_mul (show n≤4096 by omega) h4
  omega
theorem itl_app (a b:List Nat):itl (a++b)=itl a++itl b:=by simp [itl]
theorem range_map_succ (g:Nat→Nat) (i:Nat):(List.range (i+1)).map g=(List.range i).map g++[g i]:=by rw [List.range_succ,List.map_append];rfl
theorem flat_succ (l:List Nat) (f:Nat→List Nat) (j:Nat) (h:j < l.length):(l.take (j+1)).flatMap f=(l.take j).flatMap f++f (l.getD j 0):=by
 rw [List.take_succ_eq_append_getElem h,List.flatMap_append,getD_lt l j 0 h]
 simp
theorem walk_any (u v:Value) (d s:List Nat) (hd:goodN d) (hs:s.length=d.length) (hb:∀ x,x∈s→x≤4096) (w:World) (hu:Nums .i64 w u (itl d)) (hv:Nums .i64 w v (itl s)):
  Calls Tryz.prog 198 #[u,v] w fun e w'=>∃ v',e = .returned v'∧OwnK .i64 3 w' w.heap.size v' (itl (walkN d s))∧Below w.heap.size w w':=by
 obtain ⟨p,n,c,rfl,HA⟩:=hu.lst
 obtain ⟨p2,n2,c2,rfl,HB⟩:=hv.lst
 have hdn:d.length=n:=by rw [← itl_len d];exact HA.out.1
 obtain rfl:n2=n:=by rw [← hdn,← hs,← itl_len s];exact HB.out.1.symm
 have hn:n2≤4:=by rw [← hdn];exact hd.1
 have hn':(n2:Int)≤4:=by omega
 have HD:Hid (goodN d∧s.length=d.length∧(∀ x,x∈s→x≤4096)∧d.length=n2):=⟨hd,hs,hb,hdn⟩
 obtain ⟨L,eL⟩:∃ L,itl (walkN d s)=L:=⟨_,rfl⟩
 have HL:Hid (itl (walkN d s)=L):=eL
 have H5:Hid (OwnK .i64 3 (w.alloc (.cells #[.int .i64 0] 3)) w.heap.size (.slice (some ⟨w.heap.size,0,none⟩) 1 1) (itl (rowW d s 0))):=own_lit w [0] 1 rfl (by decide)
 have H8:Hid (Below w.heap.size w (w.alloc (.cells #[.int .i64 0] 3))):=up_alloc w _
 rw [eL]
 clear eL hd hs hb hdn hu hv
 go_enter Tryz.func198,Tryz.ntmps198
 go_wp2_with fail
 go_loopg [5,15] n2 (fun gg r i wr=>∃ (k:Nat),k≤n2∧gg=n2 - k∧i = .int .i64 (k:Int)∧Hid (OwnK .i64 3 wr w.heap.size r (itl (rowW d s k)))∧Hid (Below w.heap.size w wr))
 case atStart=>exact ⟨0,by omega,by omega,by first|rfl|simp,H5,H8⟩
 case round=>
  obtain ⟨k,hk,hg,rfl,HO,hB⟩:=hrel
  obtain ⟨R0,hR0⟩:∃ R0:World,R0=wr:=⟨_,rfl⟩
  subst hR0
  by_cases hkn:k < n2
  ·have hk':(k:Int) < (n2:Int):=by omega
   obtain ⟨q,o,rfl,hc1⟩:=HA.out.2 k hkn
   have hcell:=cell_low hc1 hB.out
   obtain ⟨q2,o2,rfl,hc2⟩:=HB.out.2 k hkn
   have hcell2:=cell_low hc2 hB.out
   clear hc1 hc2
   obtain ⟨rp,N,rc,erow,HR⟩:=HO.out.nums.lst
   subst erow
   rw [itl_getD] at hcell hcell2
   obtain ⟨D,eD⟩:∃ D,d.getD k 0=D:=⟨_,rfl⟩
   obtain ⟨st,es⟩:∃ st,s.getD k 0=st:=⟨_,rfl⟩
   rw [eD] at hcell
   rw [es] at hcell2
   obtain ⟨l,el⟩:∃ l,rowW d s k=l:=⟨_,rfl⟩
   have hdk:=HD.out.1.at k (by rw [HD.out.2.2.2];exact hkn)
   rw [eD] at hdk
   have hst:st≤4096:=by
    rw [← es,getD_lt s k 0 (by rw [HD.out.2.1,HD.out.2.2.2];exact hkn)]
    exact HD.out.2.2.1 _ (List.getElem_mem _)
   have hN:l.length=N:=by rw [← el,← itl_len];exact HR.out.1
   have hND:N*D≤4096:=by
    rw [← hN,← el,rowW_len d s k (by rw [HD.out.2.2.2];omega),← eD,getD_lt d k 0 (by rw [HD.out.2.2.2];exact hkn),← prodN_take_succ d k (by rw [HD.out.2.2.2];exact hkn)]
    exact Nat.le_trans (prodN_take_le HD.out.1.2.1 _) HD.out.1.2.2
   have hND':(N:Int)*(D:Int)≤4096:=by rw [← Int.natCast_mul];omega
   have hND0:0≤(N:Int)*(D:Int):=by rw [← Int.natCast_mul];omega
   have hN4:N≤4096:=by
    have:=Nat.mul_le_mul (Nat.le_refl N) hdk.1
    omega
   have hN4':(N:Int)≤4096:=by omega
   have hD':1≤(D:Int)∧(D:Int)≤4096:=by omega
   have hst':0≤(st:Int)∧(st:Int)≤4096:=by omega
   obtain ⟨f,ef⟩:∃ f:Nat→List Nat,(fun a=>(List.range D).map fun n=>a+n*st)=f:=⟨_,rfl⟩
   have HF:Hid ((fun a=>(List.range D).map fun n=>a+n*st)=f∧rowW d s (k+1)=l.flatMap f∧rowW d s k=l∧l.length=N):=⟨ef,by rw [rowW,el,eD,es,ef],el,hN⟩
   have HLl:Hid (∀ j,j < N→l.getD j 0≤67108864):=fun j hj=>by
    have hjl:j < l.length:=by rw [HF.out.2.2.2];exact hj
    have hmem:l.getD j 0∈rowW d s k:=by
     rw [HF.out.2.2.1,getD_lt l j 0 hjl]
     exact List.getElem_mem _
    have:=rowW_le HD.out.1.le HD.out.2.2.1 k _ hmem
    omega
   obtain ⟨M,eM⟩:∃ M:Nat,N*D=M:=⟨_,rfl⟩
   have eM':(N:Int)*(D:Int)=(M:Int):=by rw [← Int.natCast_mul,eM]
   have hM:M≤4096:=by omega
   have HM:Hid (N*D=M):=eM
   clear eD es el hN ef hND hND' hND0 eM hdk hst
   go_wp2_with (at_make;refine wpList_make0K numT (by decide) _ rfl (.const (.int .i64 0)) (.tmp 23) rfl .i64 .i64 _ M rfl rfl rfl (by omega) ?_;intro w1 HO1 B1)
   rw [show ([]:List Int)=itl ((l.take 0).flatMap f) by simp [itl]] at HO1
   have HC2:Hid (R0.cell? ⟨q2,o2+k,none⟩=some (.int .i64 (st:Int))):=hcell2
   clear hcell hcell2 HO eM'
   go_wp2_with fail
   go_loopg [8,27] N (fun gg r i wz=>∃ (j:Nat),j≤N∧gg=N - j∧i = .int .i64 (j:Int)∧Hid (OwnK .i64 3 wz R0.heap.size r (itl ((l.take j).flatMap f)))∧Hid (Below R0.heap.size R0 wz))
   case atStart=>exact ⟨0,by omega,by omega,by first|rfl|simp,HO1,B1⟩
   case round=>
    obtain ⟨j,hj,hg2,rfl,HO2,hB2⟩:=hrel
    obtain ⟨R1,hR1⟩:∃ R1:World,R1=wr:=⟨_,rfl⟩
    subst hR1
    by_cases hjn:j < N
    ·have hj':(j:Int) < (N:Int):=by omega
     obtain ⟨q3,o3,rfl,hc3⟩:=HR.out.2 j hjn
     have hcell:=cell_low hc3 hB2.out
     rw [itl_getD,HF.out.2.2.1] at hcell
     have ha:=HLl.out j hjn
     obtain ⟨at_,ea⟩:∃ a,l.getD j 0=a:=⟨_,rfl⟩
     rw [ea] at hcell ha
     have HAt:Hid (l.getD j 0=at_):=ea
     have ha':(at_:Int)≤67108864:=by omega
     obtain ⟨A,eA⟩:∃ A,(l.take j).flatMap f=A:=⟨_,rfl⟩
     have hA:A.length=j*D:=by
      rw [← eA,← HF.out.1,flat_len,List.length_take,HF.out.2.2.2,Nat.min_eq_left hj]
     have hAD:A.length+D≤4096:=by
      have h1:=Nat.mul_le_mul (show j+1≤N by omega) (Nat.le_refl D)
      rw [HM.out,Nat.add_mul] at h1
      omega
     have HAA:Hid ((l.take j).flatMap f=A∧A.length+D≤4096):=⟨eA,hAD⟩
     rw [eA,show A=A++(List.range 0).map (fun n=>at_+n*st) by simp] at HO2
     clear ea hc3 eA hA hAD
     go_wp2_with fail
     go_loopg [8,32] D (fun gg r i wy=>∃ (m:Nat),m≤D∧gg=D - m∧i = .int .i64 (m:Int)∧Hid (OwnK .i64 3 wy R0.heap.size r (itl (A++(List.range m).map fun n=>at_+n*st)))∧Hid (Below R0.heap.size R0 wy))
     case atStart=>exact ⟨0,by omega,by omega,by first|rfl|simp,HO2,hB2⟩
     case round=>
      obtain ⟨m,hm,hg3,rfl,HO3,hB3⟩:=hrel
      obtain ⟨R2,hR2⟩:∃ R2:World,R2=wr:=⟨_,rfl⟩
      subst hR2
      by_cases hmn:m < D
      ·have hm':(m:Int) < (D:Int):=by omega
       have hcl:=cell_low HC2.out hB3.out
       obtain ⟨X,eX⟩:∃ X,at_+m*st=X:=⟨_,rfl⟩
       have hms:m*st≤16777216:=Nat.mul_le_mul (show m≤4096 by omega) (show st≤4096 by omega)
       obtain ⟨Y,eY⟩:∃ Y,m*st=Y:=⟨_,rfl⟩
       have eY':(m:Int)*(st:Int)=(Y:Int):=by rw [← Int.natCast_mul,eY]
       rw [eY] at eX hms
       have hY':(Y:Int)≤16777216:=by omega
       have eX':(at_:Int)+(Y:Int)=(X:Int):=by omega
       have HX:Hid (at_+m*st=X):=by show _=_;rw [eY];exact eX
       have H6:Hid (OwnK .i64 3 (R2.alloc (.cells #[.int .i64 (X:Int)] 3)) R0.heap.size u8 (itl (A++(List.range m).map fun n=>at_+n*st))):=HO3.out.up (up_alloc R2 _)
       have H6n:Hid (Nums .i64 (R2.alloc (.cells #[.int .i64 (X:Int)] 3)) (.slice (some ⟨R2.heap.size,0,none⟩) 1 1) [(X:Int)]):=nums_lit (k:=.i64) R2 [(X:Int)] 1 (0,0) rfl
       have H6b:Hid (Below R0.heap.size R0 (R2.alloc (.cells #[.int .i64 (X:Int)] 3))):=blit hB3.out _
       have H6l:Hid ((itl (A++(List.range m).map fun n=>at_+n*st)).length+[(X:Int)].length≤1073741824):=by
        show _≤_
        rw [itl_len,List.length_append,List.length_map,List.length_range,List.length_singleton]
        have:=HAA.out.2
        omega
       clear eX eY
       go_wp2_with (at_builtin;refine wpList_appendK numT (by decide) rfl (.tmp 35) (.tmp 44) rfl R0.heap.size _ _ rfl H6.out _ [(X:Int)] rfl H6n.out H6l.out H6b.out.size R0 H6b.out ?_;intro v0 w0 H0 B0)
       have H7:Hid (OwnK .i64 3 w0 R0.heap.size v0 (itl (A++(List.range (m+1)).map fun n=>at_+n*st))):=by
        show OwnK _ _ _ _ _ _
        rw [range_map_succ,← List.append_assoc,itl_app,HX.out]
        exact H0.out
       go_roundg (D - (m+1))
       case measure=>omega
       case rel=>exact ⟨m+1,by omega,rfl,by first|rfl|simp,H7,B0⟩
      ·obtain rfl:m=D:=by omega
       have H7:Hid (OwnK .i64 3 R2 R0.heap.size u8 (itl ((l.take (j+1)).flatMap f))):=by
        show OwnK _ _ _ _ _ _
        rw [flat_succ l f j (by rw [HF.out.2.2.2];exact hjn),HAA.out.1,HAt.out,← HF.out.1]
        exact HO3.out
       go_wp2
       go_roundg (N - (j+1))
       case measure=>omega
       case rel=>exact ⟨j+1,by omega,rfl,by first|rfl|simp,H7,hB3⟩
    ·obtain rfl:j=N:=by omega
     have H7:Hid (OwnK .i64 3 R1 w.heap.size u8 (itl (rowW d s (k+1)))):=by
      show OwnK _ _ _ _ _ _
      rw [HF.out.2.1]
      have:=HO2.out
      rw [List.take_of_length_le (by rw [HF.out.2.2.2];exact Nat.le_refl _)] at this
      exact this.low hB.out.size
     have H9:Hid (Below w.heap.size w R1):=bstep hB.out hB2.out
     go_wp2
     go_roundg (n2 - (k+1))
     case measure=>omega
     case rel=>exact ⟨k+1,by omega,rfl,by first|rfl|simp,H7,H9⟩
  ·obtain rfl:k=n2:=by omega
   have hfin:=HO.out
   have hw:=HL.out
   unfold walkN at hw
   rw [HD.out.2.2.2] at hw
   rw [hw] at hfin
   have HF:Hid (OwnK .i64 3 R0 w.heap.size _ L∧Below w.heap.size w R0):=⟨hfin,hB.out⟩
   clear hfin hw
   go_wp2
   go_ret
   exact ⟨_,rfl,HF.out⟩
theorem itl_set (l:List Nat) (j x:Nat):itl (l.set j x)=(itl l).set j (x:Int):=by unfold itl;rw [List.map_set]
theorem spread_any (u v:Value) (d big:List Nat) (hd:goodN d) (hb:goodN big) (hl:d.length≤big.length) (w:World) (hu:Nums .i64 w u (itl d)) (hv:Nums .i64 w v (itl big)):
  Calls Tryz.prog 188 #[u,v] w fun e w'=>∃ v',e = .returned v'∧OwnK .i64 3 w' w.heap.size v' (itl (spreadN d big))∧Below w.heap.size w w':=by
 have cs:∀ W,Below w.heap.size w W→Calls Tryz.prog 197 #[u] W fun e w'=>∃ v',e = .returned v'∧OwnK .i64 3 w' W.heap.size v' (itl (stridesN d))∧Below W.heap.size W w':=fun W hW=>by
  have:=strides_any u (itl d) (RI_itl hd.le) W (hu.up hW)
  rw [show stridesI (itl d)=itl (stridesN d) by unfold stridesI;rw [ntl_itl,if_pos hd]] at this
  exact this
 have HUV:Hid (Nums .i64 w u (itl d)∧Nums .i64 w v (itl big)):=⟨hu,hv⟩
 obtain ⟨p,n,c,rfl,HA⟩:=hu.lst
 obtain ⟨p2,n2,c2,rfl,HB⟩:=hv.lst
 have hdn:d.length=n:=by rw [← itl_len d];exact HA.out.1
 have hbn:big.length=n2:=by rw [← itl_len big];exact HB.out.1
 have hn:n≤n2:=by omega
 have hn4:n2≤4:=by rw [← hbn];exact hb.1
 have hn':(n:Int)≤(n2:Int):=by omega
 have hn4':(n2:Int)≤4:=by omega
 have HD:Hid (goodN d∧goodN big∧d.length=n∧big.length=n2):=⟨hd,hb,hdn,hbn⟩
 obtain ⟨L,eL⟩:∃ L,itl (spreadN d big)=L:=⟨_,rfl⟩
 have HL:Hid (itl (walkN big (stepK d n2 n))=L):=by show _=_;rw [← eL,← hbn,← hdn];rfl
 obtain ⟨ah,eah⟩:∃ ah,n2 - n=ah:=⟨_,rfl⟩
 have eah':(n2:Int) - (n:Int)=(ah:Int):=by omega
 have hah:ah≤4:=by omega
 rw [eL]
 clear eL hd hb hl hdn hbn hu hv
 go_enter Tryz.func188,Tryz.ntmps188
 go_wp2_with (at_make;refine wpList_makeK numT (by decide) _ rfl (.tmp 10) (.tmp 10) rfl .i64 .i64 n2 n2 n2 rfl rfl rfl rfl (by omega) w.heap.size w (Nat.le_refl _) (Below.refl _ _) ?_;intro w1 HO B0 B1;clear B0)
 rw [show List.replicate n2 (0:Int)=itl (stepK d n2 0) by unfold itl stepK;rw [List.map_replicate];rfl] at HO
 refine (cs w1 B1).mono ?_
 rintro e w2 ⟨vs,rfl,hs2,hB2⟩
 obtain ⟨p3,n3,c3,rfl,HS0⟩:=hs2.nums.lst
 obtain rfl:n3=n:=by rw [← HS0.out.1,itl_len,stridesN_len,HD.out.2.2.1]
 have HS:Hid (OwnK .i64 3 w2 w1.heap.size (.slice p3 n3 c3) (itl (stridesN d))):=hs2
 have HO2:Hid (OwnK .i64 3 w2 w.heap.size (.slice (some ⟨w.heap.size,0,none⟩) n2 n2) (itl (stepK d n2 0))):=HO.out.up hB2
 have HB2:Hid (Below w.heap.size w w2):=bstep B1 hB2
 have Hg:Hid (w.heap.size < w1.heap.size):=HO.out.size
 clear hs2 hB2 HO B1 cs HS0
 go_wp2_with fail
 go_loopg [20] n3 (fun gg i wr=>∃ (k:Nat),k≤n3∧gg=n3 - k∧i = .int .i64 (k:Int)∧Hid (OwnK .i64 3 wr w.heap.size (.slice (some ⟨w.heap.size,0,none⟩) n2 n2) (itl (stepK d n2 k)))∧Hid (Below w.heap.size w wr)∧Hid (Stay w.heap.size w2 wr))
 case atStart=>exact ⟨0,by omega,by omega,by first|rfl|simp,HO2,HB2,Stay.refl _ _⟩
 case round=>
  obtain ⟨k,hk,hg,rfl,HR,hB,hS⟩:=hrel
  by_cases hkn:k < n3
  ·have hk':(k:Int) < (n3:Int):=by omega
   have hs3:=(HS.out.nums.stay hS.out (HS.out.off Hg.out)).lst
   obtain ⟨p4,n4,c4,e4,HS4⟩:=hs3
   cases e4
   obtain ⟨q,o,rfl,hc1⟩:=HS4.out.2 k hkn
   obtain ⟨q2,o2,rfl,hc0⟩:=HA.out.2 k hkn
   have hc2:=cell_low hc0 hB.out
   rw [itl_getD] at hc1 hc2
   obtain ⟨st,es⟩:∃ st,(stridesN d).getD k 0=st:=⟨_,rfl⟩
   obtain ⟨D,eD⟩:∃ D,d.getD k 0=D:=⟨_,rfl⟩
   rw [es] at hc1
   rw [eD] at hc2
   have HE:Hid ((stridesN d).getD k 0=st∧d.getD k 0=D):=⟨es,eD⟩
   have hst:=strides_le HD.out.1 k
   rw [es] at hst
   have hst':(st:Int)≤4096:=by omega
   have hD:=HD.out.1.at k (by rw [HD.out.2.2.1];exact hkn)
   rw [eD] at hD
   have hD':1≤(D:Int)∧(D:Int)≤4096:=by omega
   clear es eD hc0 HS4 hst
   by_cases h1:1 < D
   ·have h1':(1:Int) < (D:Int):=by omega
    obtain ⟨j,ej⟩:∃ j,ah+k=j:=⟨_,rfl⟩
    have ej':(ah:Int)+(k:Int)=(j:Int):=by omega
    have hj:j < n2:=by omega
    have hj':(j:Int) < (n2:Int):=by omega
    have Hj:Hid (n2 - d.length+k=j):=by show _=_;rw [HD.out.2.2.1];omega
    obtain ⟨hown,hfz⟩:=HR.out.cell (by rw [itl_len,stepK_len]) j hj
    have H2:Hid (OwnK .i64 3 (wr.setCell ⟨w.heap.size,j,none⟩ (.int .i64 (st:Int))) w.heap.size (.slice (some ⟨w.heap.size,0,none⟩) n2 n2) (itl (stepK d n2 (k+1)))):=by
     have:=HR.out.store (by rw [itl_len,stepK_len]) j (st:Int)
     rw [← itl_set,← HE.out.1,← Hj.out] at this
     show OwnK _ _ _ _ _ _
     rw [stepK,if_pos (by rw [HE.out.2];exact h1),← HE.out.1,← Hj.out]
     exact this
    have HB3:Hid (Below w.heap.size w (wr.setCell ⟨w.heap.size,j,none⟩ (.int .i64 (st:Int)))):=hB.out.setCell (p:=⟨w.heap.size,j,none⟩) (Nat.le_refl _) _
    have HS3:Hid (Stay w.heap.size w2 (wr.setCell ⟨w.heap.size,j,none⟩ (.int .i64 (st:Int)))):=hS.out.set _ _
    clear ej
    go_wp2
    go_roundg (n3 - (k+1))
    case measure=>omega
    case rel=>exact ⟨k+1,by omega,rfl,by first|rfl|simp,H2,HB3,HS3⟩
   ·have h1':(D:Int)≤1:=by omega
    have H2:Hid (OwnK .i64 3 wr w.heap.size (.slice (some ⟨w.heap.size,0,none⟩) n2 n2) (itl (stepK d n2 (k+1)))):=by
     show OwnK _ _ _ _ _ _
     rw [stepK,if_neg (by rw [HE.out.2];exact h1)]
     exact HR.out
    go_wp2
    go_roundg (n3 - (k+1))
    case measure=>omega
    case rel=>exact ⟨k+1,by omega,rfl,by first|rfl|simp,H2,hB,hS⟩
  ·obtain rfl:k=n3:=by omega
   have cw:=walk_any _ _ big (stepK d n2 k) HD.out.2.1 (by rw [stepK_len,HD.out.2.2.2]) (stepK_le HD.out.1 n2 k) wr (HUV.out.2.up hB.out) HR.out.nums
   rw [HL.out] at cw
   go_wp2_with fail
   refine cw.mono ?_
   rintro e w5 ⟨v5,rfl,h5,hB5⟩
   have HF:Hid (OwnK .i64 3 w5 w.heap.size v5 L∧Below w.heap.size w w5):=⟨h5.low hB.out.size,bstep hB.out hB5⟩
   clear h5 hB5 cw
   go_wp2
   go_ret
   exact ⟨_,rfl,HF.out⟩
theorem cell_lt {W:World} {b o:Nat} {v:Value} (h:W.cell? ⟨b,o,none⟩=some v):b < W.heap.size:=cell_block (a:=⟨b,o,none⟩) h
/-- A struct of two values in a block, that may be stored into. -/
def Cel (W:World) (b:Nat) (s t:Value):Prop:=W.cell? ⟨b,0,none⟩=some s∧W.cell? ⟨b,1,none⟩=some t∧W.frozen? ⟨b,0,none⟩=false∧W.frozen? ⟨b,1,none⟩=false
theorem Cel.up {W W':World} {b:Nat} {s t:Value} (h:Cel W b s t) (hB:Below W.heap.size W W'):Cel W' b s t:=by
 have hb:=cell_lt h.1
 refine ⟨cell_low h.1 hB,cell_low h.2.1 hB,?_,?_⟩
 ·rw [hB.frozen (p:=⟨b,0,none⟩) hb];exact h.2.2.1
 ·rw [hB.frozen (p:=⟨b,1,none⟩) hb];exact h.2.2.2
theorem Cel.stay {g:Nat} {W W':World} {b:Nat} {s t:Value} (h:Cel W b s t) (hs:Stay g W W') (hg:b≠g):Cel W' b s t:=by
 have hb:=cell_lt h.1
 refine ⟨hs.cell h.1 hg,hs.cell h.2.1 hg,?_,?_⟩
 ·rw [hs.frozen hb hg];exact h.2.2.1
 ·rw [hs.frozen hb hg];exact h.2.2.2
theorem celW {V W0:World} {b:Nat} {s t:Value} (h:V=W0) (h2:V.cell? ⟨b,0,none⟩=some s∧V.cell? ⟨b,1,none⟩=some t∧V.frozen? ⟨b,0,none⟩=false∧V.frozen? ⟨b,1,none⟩=false):Hid (Cel W0 b s t):=h ▸ h2
theorem hidB {w V W0:World} (h:V=W0) (h2:Below w.heap.size w V):Hid (Below w.heap.size w W0):=h ▸ h2
theorem set_same {W:World} {p:Addr} {x v:Value} (h:W.cell? p=some v):(W.setCell p x).cell? p=some x:=World.cell?_setCell_same _ _ _ h
theorem set_off {W:World} {b i j:Nat} {x:Value} (hij:j≠i):(W.setCell ⟨b,i,none⟩ x).cell? ⟨b,j,none⟩=W.cell? ⟨b,j,none⟩:=World.cell?_setCell_other _ _ _ _ (by simp;try omega)
/-- The struct, stored. -/
abbrev set2 (W:World) (b:Nat) (s t:Value):World:=(W.setCell ⟨b,0,none⟩ s).setCell ⟨b,1,none⟩ t
theorem Cel.set {W:World} {b:Nat} {s t:Value} (h:Cel W b s t) (s' t':Value):Cel (set2 W b s' t') b s' t':=by
 refine ⟨?_,?_,?_,?_⟩
 ·show ((W.setCell ⟨b,0,none⟩ s').setCell ⟨b,1,none⟩ t').cell? ⟨b,0,none⟩=_
  rw [set_off (by omega)]
  exact set_same h.1
 ·exact set_same (by rw [set_off (by omega)];exact h.2.1)
 ·simp [h.2.2.1]
 ·simp [h.2.2.2]
theorem Stay.set2 {g:Nat} (W:World) (s t:Value):Stay g W (set2 W g s t):=((Stay.refl g W).set 0 s).set 1 t
theorem OwnK.off_new {k:IntKind} {e:TypeId} {W:World} {B g:Nat} {v:Value} {l:List Int} (h:OwnK k e W B v l) (hg:W.heap.size≤g):Off g v:=by
 intro ad n c ev
 rcases h.2 with ⟨h1,_⟩|⟨q,cap,cur,h1,h2,h3,_⟩
 ·rw [h1] at ev;cases ev
 ·rw [h1] at ev
  cases ev
  have:q < W.heap.size:=by
   rcases Nat.lt_or_ge q W.heap.size with h|h
   ·exact h
   ·rw [Array.getElem?_eq_none h] at h3;cases h3
  show q≠g
  omega
/-- What a call answers: a tensor in memory of its own. -/
def TRes (W:World) (B:Nat) (v:Value) (D X:List Int):Prop:=∃ s t,v = .agg #[s,t]∧OwnK .i64 3 W B s D∧OwnK .i64 61 W B t X
theorem TRes.none (W:World) (B:Nat):TRes W B (.agg #[.slice none 0 0,.slice none 0 0]) [] []:=⟨_,_,rfl,OwnK.nil _ _ _ _,OwnK.nil _ _ _ _⟩
theorem TRes.up {W W':World} {B:Nat} {v:Value} {D X:List Int} (h:TRes W B v D X) (hB:Below W.heap.size W W'):TRes W' B v D X:=by
 obtain ⟨s,t,e,h1,h2⟩:=h
 exact ⟨s,t,e,h1.up hB,h2.up hB⟩
theorem TRes.low {W:World} {B B':Nat} {v:Value} {D X:List Int} (h:TRes W B v D X) (hB:B'≤B):TRes W B' v D X:=by
 obtain ⟨s,t,e,h1,h2⟩:=h
 exact ⟨s,t,e,h1.low hB,h2.low hB⟩
theorem TRes.set {W:World} {B b:Nat} {s t:Value} {D X:List Int} (h1:OwnK .i64 3 W B s D) (h2:OwnK .i64 61 W B t X) (hb:b < B):TRes (set2 W b s t) B (.agg #[s,t]) D X:=
 ⟨s,t,rfl,h1.stay (Stay.set2 W s t) (h1.off hb),h2.stay (Stay.set2 W s t) (h2.off hb)⟩
theorem below_cell {w W:World} (h:Below w.heap.size w W) (b:Nat) (hb:w.heap.size≤b) (x y:Value):Below w.heap.size w (set2 W b x y):=below_set2 h b hb x y
theorem fin2 {w W0 W:World} {b:Nat} {s t s0 t0:Value} {D X:List Int} (XR:Hid (Cel W0 b s0 t0)) (HB0:Hid (Below w.heap.size w W0)) (hB:Below W0.heap.size W0 W) (hs:OwnK .i64 3 W W0.heap.size s D) (ht:OwnK .i64 61 W W0.heap.size t X) (hb:w.heap.size≤b):Hid (TRes (set2 W b s t) w.heap.size (.agg #[s,t]) D X∧Below w.heap.size w (set2 W b s t))∧W.cell? ⟨b,0,none⟩=some s0∧W.cell? ⟨b,1,none⟩=some t0∧W.frozen? ⟨b,0,none⟩=false∧W.frozen? ⟨b,1,none⟩=false∧(set2 W b s t).cell? ⟨b,0,none⟩=some s∧(set2 W b s t).cell? ⟨b,1,none⟩=some t:=by
 have xr:=XR.out.up hB
 have cf:=xr.set s t
 exact ⟨⟨(TRes.set hs ht (cell_lt XR.out.1)).low HB0.out.size,below_cell (bstep HB0.out hB) _ hb _ _⟩,xr.1,xr.2.1,xr.2.2.1,xr.2.2.2,cf.1,cf.2.1⟩
/-- Both spread and reckoned, number by number. -/
def eachE (d x d' y:List Int):Int:=if isP d x∧isP d' y then joinE d d' else 1
def eachD (d x d' y:List Int):List Int:=if isP d x∧isP d' y then joinL d d' else []
def eachV (op:Int→Int→Int) (d x d' y:List Int):List Int:=
 if (isP d x∧isP d' y)∧joinE d d'=0 then (List.range (prodN (ntl (joinL d d')))).map fun i=>op (x.getD (fromN (ntl d) (ntl (joinL d d')) i) 0) (y.getD (fromN (ntl d') (ntl (joinL d d')) i) 0) else []
theorem each_none {op:Int→Int→Int} {d x d' y:List Int} (h:¬ (isP d x∧isP d' y)):eachE d x d' y=1∧eachD d x d' y = []∧eachV op d x d' y = []:=⟨if_neg h,if_neg h,if_neg fun h'=>h h'.1⟩
theorem joinL_bad {a b:List Int} (h:joinE a b≠0):joinL a b = []:=by
 unfold joinL
 rw [if_neg]
 rintro ⟨h1,h2,h3,h4⟩
 apply h
 unfold joinE
 rw [if_pos ⟨h1,h2⟩,if_pos h3,if_pos h4]
theorem each_bad {op:Int→Int→Int} {d x d' y:List Int} (h:isP d x∧isP d' y) (hE:joinE d d'≠0):eachE d x d' y=joinE d d'∧eachD d x d' y = []∧eachV op d x d' y = []:=
 ⟨if_pos h,by unfold eachD;rw [if_pos h];exact joinL_bad hE,if_neg fun h'=>hE h'.2⟩
/-- Both fit: what stands where. -/
structure Joint (d x d' y:List Int) (a b J:List Nat):Prop where
 da:d=itl a
 db:d'=itl b
 ga:goodN a
 gb:goodN b
 gJ:goodN J
 jn:joinL d d'=itl J
 je:joinE d d'=0
 lx:x.length=prodN a
 ly:y.length=prodN b
 fa:fitsN a J
 ja:joinN a J=J
 fb:fitsN b J
 jb:joinN b J=J
theorem joint {d x d' y:List Int} (h:isP d x∧isP d' y) (hE:joinE d d'=0):∃ a b J,Joint d x d' y a b J:=by
 obtain ⟨h1,h2,h3,h4⟩:=joinE_zero hE
 obtain ⟨a,ga,rfl⟩:=good_itl h1
 obtain ⟨b,gb,rfl⟩:=good_itl h2
 rw [ntl_itl,ntl_itl] at h3 h4
 have hj:=(join_fine ga gb h3 h4).1
 have e1:=h.1.2
 have e2:=h.2.2
 rw [ntl_itl] at e1 e2
 refine ⟨a,b,joinN a b,rfl,rfl,ga,gb,h4,hj,hE,e1,e2,?_,?_,?_,?_⟩
 ·rw [fitsN_comm];exact fitsN_again ga.2.1 gb.2.1 h3
 ·rw [joinN_comm,joinN_again]
 ·rw [fitsN_comm,joinN_comm a b];exact fitsN_again gb.2.1 ga.2.1 ((fitsN_comm _ _).1 h3)
 ·rw [joinN_comm b,joinN_comm a b,joinN_again]
theorem Joint.E {op:Int→Int→Int} {d x d' y:List Int} {a b J:List Nat} (h:Joint d x d' y a b J):eachE d x d' y=0∧eachD d x d' y=itl J∧eachV op d x d' y=(List.range (prodN J)).map fun i=>op (x.getD (fromN a J i) 0) (y.getD (fromN b J i) 0):=by
 have hp:isP d x∧isP d' y:=by
  rw [h.da,h.db]
  unfold isP
  rw [ntl_itl,ntl_itl]
  exact ⟨⟨h.ga,h.lx⟩,h.gb,h.ly⟩
 refine ⟨?_,?_,?_⟩
 ·unfold eachE;rw [if_pos hp];exact h.je
 ·unfold eachD;rw [if_pos hp];exact h.jn
 ·unfold eachV
  rw [if_pos ⟨hp,h.je⟩,h.jn,ntl_itl]
  rw [h.da,h.db,ntl_itl,ntl_itl]
/-- A tensor that can be read. -/
def Tn (D X:List Int) (v:Value) (W:World):Prop:=∃ p n c p2 n2 c2,v = .agg #[.slice p n c,.slice p2 n2 c2]∧Nums .i64 W (.slice p n c) D∧Nums .i64 W (.slice p2 n2 c2) X
theorem Tn.up {D X:List Int} {v:Value} {W W':World} (h:Tn D X v W) (hB:Below W.heap.size W W'):Tn D X v W':=by
 obtain ⟨p,n,c,p2,n2,c2,e,h1,h2⟩:=h
 exact ⟨p,n,c,p2,n2,c2,e,h1.up hB,h2.up hB⟩
theorem RowN.riI {w:World} {p:Option Addr} {n c:Nat} {z:Nat→Int} (h:RowN .i64 w p n c z):RI (nlst n z):=fun y hy=>bounds_i64 (h.wf y hy)
/-- A cell for a tensor, newly made. -/
def NewC (B:Nat) (v:Value) (W:World):Prop:=∃ b,v = .pointer (some ⟨b,0,none⟩)∧W.heap[b]?=some (.cells #[.slice none 0 0,.slice none 0 0] 63 (0,0))∧B≤b
theorem heap_lt {W:World} {b:Nat} {o:Obj} (h:W.heap[b]?=some o):b < W.heap.size:=by
 rcases Nat.lt_or_ge b W.heap.size with h'|h'
 ·exact h'
 ·rw [Array.getElem?_eq_none h'] at h;cases h
theorem NewC.up {B:Nat} {v:Value} {W W':World} (h:NewC B v W) (hB:Below W.heap.size W W'):NewC B v W':=by
 obtain ⟨b,e,h1,h2⟩:=h
 exact ⟨b,e,by rw [hB.block b (heap_lt h1)];exact h1,h2⟩
theorem new_cel {W:World} {b:Nat} {s t:Value} {e:TypeId} (h:W.heap[b]?=some (.cells #[s,t] e (0,0))):Cel W b s t:=by
 refine ⟨?_,?_,?_,?_⟩
 ·unfold World.cell?;simp [h]
 ·unfold World.cell?;simp [h]
 ·unfold World.frozen?;simp [h]
 ·unfold World.frozen?;simp [h]
theorem OwnK.off_type {k:IntKind} {e e':TypeId} {W:World} {B b:Nat} {v:Value} {l:List Int} {cs:Array Value} {fz:Nat×Nat} (h:OwnK k e W B v l) (hb:W.heap[b]?=some (.cells cs e' fz)) (hne:e≠e'):Off b v:=by
 intro ad n c ev
 rcases h.2 with ⟨h1,_⟩|⟨q,cap,cur,h1,h2,h3,_⟩
 ·rw [h1] at ev;cases ev
 ·rw [h1] at ev
  cases ev
  intro hq
  have hq:q=b:=hq
  subst hq
  rw [h3] at hb
  injection hb with hb
  injection hb with _ h5 _
  exact hne h5
/-- A tensor's copy. -/
def OwnT (B:Nat) (D X:List Int) (v:Value) (W:World):Prop:=∃ p n c p2 n2 c2,v = .agg #[.slice p n c,.slice p2 n2 c2]∧OwnK .i64 3 W B (.slice p n c) D∧OwnK .i64 61 W B (.slice p2 n2 c2) X
theorem OwnT.up {B:Nat} {D X:List Int} {v:Value} {W W':World} (h:OwnT B D X v W) (hB:Below W.heap.size W W'):OwnT B D X v W':=by
 obtain ⟨p,n,c,p2,n2,c2,e,h1,h2⟩:=h
 exact ⟨p,n,c,p2,n2,c2,e,h1.up hB,h2.up hB⟩
/-- A literal's row. -/
def LitN (l:List Int) (v:Value) (W:World):Prop:=∃ g,v = .slice (some ⟨g,0,none⟩) l.length l.length∧Nums .i64 W v l
theorem LitN.up {l:List Int} {v:Value} {W W':World} (h:LitN l v W) (hB:Below W.heap.size W W'):LitN l v W':=by
 obtain ⟨g,e,h1⟩:=h
 exact ⟨g,e,h1.up hB⟩
/-- A tensor's two literals. -/
def TupP (B:Nat) (D X:List Int) (E:Int) (v:Value) (W:World):Prop:=∃ u,v = .tuple #[u,.int .i64 E]∧OwnT B D X u W
theorem TupP.up {B:Nat} {D X:List Int} {E:Int} {v:Value} {W W':World} (h:TupP B D X E v W) (hB:Below W.heap.size W W'):TupP B D X E v W':=by
 obtain ⟨u,e,h1⟩:=h
 exact ⟨u,e,h1.up hB⟩
theorem TRes.own {W:World} {B:Nat} {v:Value} {D X:List Int} (h:TRes W B v D X):OwnT B D X v W:=by
 obtain ⟨s,t,rfl,h1,h2⟩:=h
 obtain ⟨p,n,c,rfl,_⟩:=h1.nums.lst
 obtain ⟨p2,n2,c2,rfl,_⟩:=h2.nums.lst
 exact ⟨p,n,c,p2,n2,c2,rfl,h1,h2⟩
/-- A slice has room for what it holds. -/
theorem OwnK.cap {k:IntKind} {e:TypeId} {W:World} {B n c:Nat} {p:Option Addr} {l:List Int} (h:OwnK k e W B (.slice p n c) l):n≤c:=by
 rcases h.2 with ⟨h1,_⟩|⟨q,cap,cur,h1,h2,h3,h4,_⟩
 ·cases h1
  exact Nat.le_refl _
 ·cases h1
  exact h4
theorem OwnK.obj {k:IntKind} {e:TypeId} {W:World} {B g n c:Nat} {l:List Int} (h:OwnK k e W B (.slice (some ⟨g,0,none⟩) n c) l):∃ cs fz,W.heap[g]?=some (.cells cs e fz):=by
 rcases h.2 with ⟨h1,_⟩|⟨q,cap,cur,h1,h2,h3,_⟩
 ·cases h1
 ·cases h1
  exact ⟨_,_,h3⟩
theorem good_two {D0 D1:Nat}:goodN (ntl [(D0:Int),(D1:Int)])↔1≤D0∧1≤D1∧D0*D1≤4096:=by
 have en:ntl [(D0:Int),(D1:Int)] = [D0,D1]:=ntl_itl [D0,D1]
 rw [en]
 constructor
 ·intro h
  exact ⟨h.2.1 _ (by simp),h.2.1 _ (by simp),by have:=h.2.2;simpa [prodN] using this⟩
 ·rintro ⟨a,b,c⟩
  exact ⟨by simp,fun y hy=>by simp at hy;omega,by simpa [prodN] using c⟩
/-- A tensor that can be read, with room for its numbers. -/
def TnC (D X:List Int) (v:Value) (W:World):Prop:=∃ p n c p2 n2 c2,v = .agg #[.slice p n c,.slice p2 n2 c2]∧Nums .i64 W (.slice p n c) D∧Nums .i64 W (.slice p2 n2 c2) X∧n2≤c2
theorem TnC.up {D X:List Int} {v:Value} {W W':World} (h:TnC D X v W) (hB:Below W.heap.size W W'):TnC D X v W':=by
 obtain ⟨p,n,c,p2,n2,c2,e,h1,h2,h3⟩:=h
 exact ⟨p,n,c,p2,n2,c2,e,h1.up hB,h2.up hB,h3⟩
theorem RI_kern {l:List Int} (h:(l.all fun y=>decide (-9223372036854775808≤y∧y≤9223372036854775807))=true):RI l:=fun y hy=>by
 have:=List.all_eq_true.1 h y hy
 simpa using this
theorem two_sides {d x:List Int} (h:isP d x) (h2:d.length=2):∃ D0 D1:Nat,d = [(D0:Int),(D1:Int)]∧x.length=D0*D1∧1≤D0∧1≤D1∧D0*D1≤4096:=by
 obtain ⟨a,ga,rfl⟩:=good_itl h.1
 have hx:=h.2
 rw [ntl_itl] at hx
 rw [itl_len] at h2
 match a,h2 with
 | [D0,D1],_=>
  have e:prodN [D0,D1]=D0*D1:=by simp [prodN]
  rw [e] at hx
  refine ⟨D0,D1,rfl,hx,ga.2.1 _ (by simp),ga.2.1 _ (by simp),?_⟩
  have:=ga.2.2
  rw [e] at this
  exact this
theorem three_sides {d x:List Int} (h:isP d x) (h2:d.length=3):∃ D0 D1 D2:Nat,d = [(D0:Int),(D1:Int),(D2:Int)]∧x.length=D0*D1*D2∧1≤D0∧1≤D1∧1≤D2∧D0*D1*D2≤4096:=by
 obtain ⟨a,ga,rfl⟩:=good_itl h.1
 have hx:=h.2
 rw [ntl_itl] at hx
 rw [itl_len] at h2
 match a,h2 with
 | [D0,D1,D2],_=>
  have e:prodN [D0,D1,D2]=D0*D1*D2:=by simp [prodN,Nat.mul_assoc]
  rw [e] at hx
  refine ⟨D0,D1,D2,rfl,hx,ga.2.1 _ (by simp),ga.2.1 _ (by simp),ga.2.1 _ (by simp),?_⟩
  have:=ga.2.2
  rw [e] at this
  exact this
theorem prod_two (a b:Nat):prodN (ntl [(a:Int),(b:Int)])=a*b:=by rw [show ntl [(a:Int),(b:Int)] = [a,b] from ntl_itl [a,b]];simp [prodN]
end Go.Proofs.YtiampagapgjedaaGreatDoor.Wd
namespace Go.Proofs.YtiampagapgjedaaGreatDoor.Wd
open Go.RowKit Fx
/-- Blocks of other types than these stand. -/
def Only (S:List TypeId) (W W':World):Prop:=W.heap.size≤W'.heap.size∧∀ k,k < W.heap.size→(∀ cs e fz,W.heap[k]?=some (.cells cs e fz)→e∉S)→W'.heap[k]?=W.heap[k]?
theorem Only.refl (S:List TypeId) (W:World):Only S W W:=⟨Nat.le_refl _,fun _ _ _=>rfl⟩
theorem Only.trans {S:List TypeId} {a b c:World} (h:Only S a b) (h2:Only S b c):Only S a c:=⟨Nat.le_trans h.1 h2.1,fun k hk hp=>by
 have e:=h.2 k hk hp
 rw [h2.2 k (Nat.lt_of_lt_of_le hk h.1) (by rw [e];exact hp),e]⟩
theorem Only.of {S:List TypeId} {a b:World} (h:Below a.heap.size a b):Only S a b:=⟨h.size,fun k hk _=>h.block k hk⟩
theorem Only.up {S:List TypeId} {a b c:World} (h:Only S a b) (h2:Below b.heap.size b c):Only S a c:=h.trans (Only.of h2)
theorem Only.more {S S':List TypeId} {a b:World} (h:Only S a b) (hs:∀ e,e∈S→e∈S'):Only S' a b:=⟨h.1,fun k hk hp=>h.2 k hk fun cs e fz he hm=>hp cs e fz he (hs e hm)⟩
theorem Only.keep {S:List TypeId} {a b:World} (h:Only S a b) {k:Nat} {cs:Array Value} {e:TypeId} {fz:Nat×Nat} (hk:a.heap[k]?=some (.cells cs e fz)) (he:e∉S):b.heap[k]?=some (.cells cs e fz):=by
 rw [h.2 k (heap_lt hk) (fun cs' e' fz' h'=>by rw [hk] at h';cases h';exact he)]
 exact hk
theorem Only.grown {S:List TypeId} {a b:World} {row:Option Nat} (h:a.grownBy b row) (hr:∀ k,row=some k→∃ cs e fz,a.heap[k]?=some (.cells cs e fz)∧e∈S):Only S a b:=⟨h.size,fun k hk hp=>h.block k hk fun e=>by
 obtain ⟨cs,e',fz,h1,h2⟩:=hr k e.symm
 exact hp cs e' fz h1 h2⟩
theorem heap_set (W:World) (b o:Nat) (x:Value) (k:Nat) (h:k≠b):(W.setCell ⟨b,o,none⟩ x).heap[k]?=W.heap[k]?:=by
 unfold World.setCell
 simp [Array.getElem?_modify,Ne.symm h]
theorem heap_setat {W:World} {b o:Nat} {x:Value} {cs:Array Value} {e:TypeId} {fz:Nat×Nat} (h:W.heap[b]?=some (.cells cs e fz)):(W.setCell ⟨b,o,none⟩ x).heap[b]?=some (.cells (cs.setIfInBounds o x) e fz):=by
 unfold World.setCell
 simp [Array.getElem?_modify,h]
theorem Only.set {S:List TypeId} {W:World} {b o:Nat} {x:Value} {cs:Array Value} {e:TypeId} {fz:Nat×Nat} (h:W.heap[b]?=some (.cells cs e fz)) (he:e∈S):Only S W (W.setCell ⟨b,o,none⟩ x):=⟨by simp,fun k hk hp=>heap_set W b o x k fun hkb=>by
 subst hkb
 exact hp cs e fz h he⟩
theorem OwnK.only {k:IntKind} {e:TypeId} {S:List TypeId} {W W':World} {B:Nat} {v:Value} {l:List Int} (h:OwnK k e W B v l) (ho:Only S W W') (he:e∉S):OwnK k e W' B v l:=by
 refine ⟨h.1,?_⟩
 rcases h.2 with hn|⟨g,cap,cur,hv,hb,hg,rest⟩
 ·exact .inl hn
 ·exact .inr ⟨g,cap,cur,hv,hb,ho.keep hg he,rest⟩
/-- A node, as the document has it. -/
structure Nd where
 op:Int
 a:Int
 b:Int
 k:Int
 D:List Int
 X:List Int
/-- A node's six cells. -/
def NdC (W:World) (B:Nat) (nd:Nd) (u:List Value):Prop:=∃ s t,u = [.int .i64 nd.op,.int .i64 nd.a,.int .i64 nd.b,.int .i64 nd.k,s,t]∧OwnK .i64 3 W B s nd.D∧OwnK .i64 61 W B t nd.X
def NdsC (W:World) (B:Nat) (ns:List Nd) (xs:List Value):Prop:=xs.length=ns.length*6∧∀ i nd,ns[i]?=some nd→NdC W B nd ((xs.drop (i*6)).take 6)
theorem NdC.only {S:List TypeId} {W W':World} {B:Nat} {nd:Nd} {u:List Value} (h:NdC W B nd u) (ho:Only S W W') (h1:3∉S) (h2:61∉S):NdC W' B nd u:=by
 obtain ⟨s,t,e,hs,ht⟩:=h
 exact ⟨s,t,e,hs.only ho h1,ht.only ho h2⟩
theorem NdsC.only {S:List TypeId} {W W':World} {B:Nat} {ns:List Nd} {xs:List Value} (h:NdsC W B ns xs) (ho:Only S W W') (h1:3∉S) (h2:61∉S):NdsC W' B ns xs:=⟨h.1,fun i nd hn=>(h.2 i nd hn).only ho h1 h2⟩
theorem NdC.len {W:World} {B:Nat} {nd:Nd} {u:List Value} (h:NdC W B nd u):u.length=6:=by
 obtain ⟨s,t,rfl,_⟩:=h
 rfl
theorem NdC.one {W:World} {B:Nat} {nd:Nd} {u:List Value} (h:NdC W B nd u):∀ x∈u,x.oneCell'=true:=by
 obtain ⟨s,t,rfl,hs,ht⟩:=h
 obtain ⟨_,_,_,rfl,_⟩:=hs.nums.lst
 obtain ⟨_,_,_,rfl,_⟩:=ht.nums.lst
 intro x hx
 simp only [List.mem_cons,List.not_mem_nil,or_false] at hx
 rcases hx with rfl|rfl|rfl|rfl|rfl|rfl <;> rfl
theorem NdsC.push {W:World} {B:Nat} {ns:List Nd} {xs:List Value} {nd:Nd} {u:List Value} (h:NdsC W B ns xs) (hu:NdC W B nd u):NdsC W B (ns++[nd]) (xs++u):=by
 have hl:=hu.len
 refine ⟨by rw [List.length_append,List.length_append,h.1,hl];simp;omega,fun i x hi=>?_⟩
 by_cases hlt:i < ns.length
 ·rw [List.getElem?_append_left hlt] at hi
  have:=h.2 i x hi
  rw [List.drop_append_of_le_length (by rw [h.1];omega),List.take_append_of_le_length (by rw [List.length_drop,h.1];omega)]
  exact this
 ·rw [List.getElem?_append_right (by omega)] at hi
  obtain hi0:i=ns.length:=by
   rcases Nat.eq_or_lt_of_le (Nat.le_of_not_lt hlt) with e|e
   ·exact e.symm
   ·rw [List.getElem?_eq_none (by simp;omega)] at hi
    cases hi
  subst hi0
  rw [Nat.sub_self] at hi
  cases hi
  rw [← h.1,List.drop_left,List.take_of_length_le (by omega)]
  exact hu
theorem NdsC.nil (W:World) (B:Nat):NdsC W B [] []:=⟨rfl,fun i nd h=>by simp at h⟩
/-- A tape: a block with one cell, the row of its nodes. -/
def Tap (TT NT:TypeId) (W:World) (B b:Nat) (ns:List Nd):Prop:=B≤b∧∃ v xs,W.heap[b]?=some (.cells #[v] TT (0,0))∧W.ownsRow B NT 6 v ns.length xs∧NdsC W B ns xs
theorem owns_only {S:List TypeId} {W W':World} {B n s:Nat} {e:TypeId} {v:Value} {xs:List Value} (h:W.ownsRow B e s v n xs) (ho:Only S W W') (he:e∉S):W'.ownsRow B e s v n xs:=by
 refine ⟨h.1,?_⟩
 rcases h.2 with hn|⟨g,cap,cur,hv,hb,hg,rest⟩
 ·exact .inl hn
 ·exact .inr ⟨g,cap,cur,hv,hb,ho.keep hg he,rest⟩
theorem Tap.only {TT NT:TypeId} {S:List TypeId} {W W':World} {B b:Nat} {ns:List Nd} (h:Tap TT NT W B b ns) (ho:Only S W W') (h1:TT∉S) (h2:NT∉S) (h3:3∉S) (h4:61∉S):Tap TT NT W' B b ns:=by
 obtain ⟨hb,v,xs,hv,ho2,hn⟩:=h
 exact ⟨hb,v,xs,ho.keep hv h1,owns_only ho2 ho h2,hn.only ho h3 h4⟩
theorem Tap.up {TT NT:TypeId} {W W':World} {B b:Nat} {ns:List Nd} (h:Tap TT NT W B b ns) (hB:Below W.heap.size W W'):Tap TT NT W' B b ns:=h.only (S:=[]) (Only.of hB) (by simp) (by simp) (by simp) (by simp)
theorem Tap.new {TT NT:TypeId} {W:World} {B:Nat} (hB:B≤W.heap.size):Tap TT NT (W.alloc (.cells #[.slice none 0 0] TT)) B W.heap.size []:=
 ⟨hB,_,[],heap_alloc_new W _,World.ownsRow_nil _ _ _ _,NdsC.nil _ _⟩
theorem owned_off {TT NT:TypeId} (hne:NT≠TT) {W:World} {B b n s:Nat} {v v':Value} {xs:List Value} (hb:W.heap[b]?=some (.cells #[v'] TT (0,0))) (h:W.ownsRow B NT s v n xs):v.ownBlock≠some b:=by
 rcases h.2 with ⟨rfl,_⟩|⟨g,cap,cur,rfl,_,hg,_⟩
 ·simp [Value.ownBlock]
 ·intro e
  simp [Value.ownBlock] at e
  subst e
  rw [hb] at hg
  cases hg
  exact hne rfl
/-- A node more: the row was made longer, then the tape's cell was written. -/
theorem Tap.push {TT NT:TypeId} (hne:NT≠TT) (n1:3∉[TT,NT]) (n2:61∉[TT,NT]) {W W':World} {B b:Nat} {ns:List Nd} {v v':Value} {xs u:List Value} {nd:Nd} (hB:B≤b)
  (hv:W.heap[b]?=some (.cells #[v] TT (0,0))) (ho:W.ownsRow B NT 6 v ns.length xs) (hn:NdsC W B ns xs) (hu:NdC W B nd u) (hg:W.grownBy W' v.ownBlock) (ho':W'.ownsRow B NT 6 v' (ns.length+1) (xs++u)):
  Tap TT NT (W'.setCell ⟨b,0,none⟩ v') B b (ns++[nd])∧Only [TT,NT] W (W'.setCell ⟨b,0,none⟩ v'):=by
 have hrow:∀ k,v.ownBlock=some k→∃ cs e fz,W.heap[k]?=some (.cells cs e fz)∧e∈[TT,NT]:=fun k hk=>by
  rcases ho.2 with ⟨rfl,_⟩|⟨g,cap,cur,rfl,_,hg2,_⟩
  ·simp [Value.ownBlock] at hk
  ·simp [Value.ownBlock] at hk
   subst hk
   exact ⟨_,_,_,hg2,by simp⟩
 have o1:Only [TT,NT] W W':=Only.grown hg hrow
 have hv1:W'.heap[b]?=some (.cells #[v] TT (0,0)):=by
  rw [hg.block b (heap_lt hv) (Ne.symm (owned_off hne hv ho))]
  exact hv
 have o2:Only [TT,NT] W' (W'.setCell ⟨b,0,none⟩ v'):=Only.set hv1 (by simp)
 have o3:Only [TT] W' (W'.setCell ⟨b,0,none⟩ v'):=Only.set hv1 (by simp)
 refine ⟨⟨hB,v',xs++u,?_,?_,?_⟩,o1.trans o2⟩
 ·rw [heap_setat hv1]
  rfl
 ·rw [List.length_append]
  exact owns_only ho' o3 (by simp;exact hne)
 ·exact ((hn.push hu).only o1 n1 n2).only o2 n1 n2
/-- What a walk reads of a tape. -/
theorem Tap.head {TT NT:TypeId} {W:World} {B b:Nat} {ns:List Nd} (h:Tap TT NT W B b ns):∃ p c xs,W.heap[b]?=some (.cells #[.slice p ns.length c] TT (0,0))∧W.ownsRow B NT 6 (.slice p ns.length c) ns.length xs∧NdsC W B ns xs∧ns.length≤c:=by
 obtain ⟨hb,v,xs,hv,ho,hn⟩:=h
 rcases ho.2 with ⟨rfl,h0⟩|⟨g,cap,cur,rfl,hbg,hg,hc,rest⟩
 ·rw [h0] at ho
  have hns:ns = []:=List.eq_nil_of_length_eq_zero h0
  subst hns
  exact ⟨none,0,xs,hv,ho,hn,Nat.le_refl _⟩
 ·exact ⟨_,_,xs,hv,ho,hn,hc⟩
theorem head_cell {W:World} {b:Nat} {v:Value} {e:TypeId} (h:W.heap[b]?=some (.cells #[v] e (0,0))):W.cell? ⟨b,0,none⟩=some v∧W.frozen? ⟨b,0,none⟩=false:=by
 unfold World.cell? World.frozen?
 simp [h]
/-- A node's cells, one by one. -/
theorem node_cells {NT:TypeId} {W:World} {B:Nat} {ns:List Nd} {p:Option Addr} {c n:Nat} {xs:List Value} (ho:W.ownsRow B NT 6 (.slice p n c) n xs) (hn:NdsC W B ns xs) (hl:ns.length=n) (i:Nat) (hi:i < n):
  ∃ q nd s t,p=some ⟨q,0,none⟩∧ns[i]?=some nd∧W.cell? ⟨q,i*6,none⟩=some (.int .i64 nd.op)∧W.cell? ⟨q,i*6+1,none⟩=some (.int .i64 nd.a)∧W.cell? ⟨q,i*6+2,none⟩=some (.int .i64 nd.b)∧W.cell? ⟨q,i*6+3,none⟩=some (.int .i64 nd.k)∧W.cell? ⟨q,i*6+4,none⟩=some s∧W.cell? ⟨q,i*6+5,none⟩=some t
   ∧ OwnK .i64 3 W B s nd.D∧OwnK .i64 61 W B t nd.X:=by
 have hnd:ns[i]?=some (ns[i]'(by omega)):=List.getElem?_eq_getElem _
 obtain ⟨s,t,e,hs,ht⟩:=hn.2 i _ hnd
 have hx:∀ j u,((xs.drop (i*6)).take 6)[j]?=some u→xs[i*6+j]?=some u:=fun j u h=>by
  rw [List.getElem?_take] at h
  split at h
  ·rw [List.getElem?_drop] at h
   exact h
  ·cases h
 rw [e] at hx
 rcases ho.2 with ⟨h0,h1⟩|⟨g,cap,cur,hv,hb,hg,rest⟩
 ·omega
 ·cases hv
  have hc:∀ j u,xs[j]?=some u→W.cell? ⟨g,j,none⟩=some u:=fun j u h=>by
   have:=ho.cells (g:=g) rfl j u h
   rw [addr_plus,Nat.zero_add] at this
   exact this
  exact ⟨g,_,s,t,rfl,hnd,hc _ _ (hx 0 _ rfl),hc _ _ (hx 1 _ rfl),hc _ _ (hx 2 _ rfl),hc _ _ (hx 3 _ rfl),hc _ _ (hx 4 _ rfl),hc _ _ (hx 5 _ rfl),hs,ht⟩
/-- A slice's type whose elements are nodes. -/
structure StT (P:Program) (t e:TypeId) (b:Nat):Prop where
 ht:P.underlying t=some (.slice e)
 hi:(P.info? e).map (fun i=>(i.zero.map fun z=>z.cells.size,i.size,i.bytes))=some (some 6,6,b)
/-- A literal's block of one node. -/
def LitS (e:TypeId) (B:Nat) (u:List Value) (v:Value) (W:World):Prop:=∃ g,v = .slice (some ⟨g,0,none⟩) 1 1∧W.heap[g]?=some (.cells u.toArray e (0,0))∧B≤g
theorem LitS.up {e:TypeId} {B:Nat} {u:List Value} {v:Value} {W W':World} (h:LitS e B u v W) (hB:Below W.heap.size W W'):LitS e B u v W':=by
 obtain ⟨g,e1,h1,h2⟩:=h
 exact ⟨g,e1,by rw [hB.block g (heap_lt h1)];exact h1,h2⟩
theorem LitS.grown {e:TypeId} {B:Nat} {u:List Value} {v:Value} {W W':World} {r:Option Nat} (h:LitS e B u v W) (hg:W.grownBy W' r) (hr:∀ k,r=some k→k < B):LitS e B u v W':=by
 obtain ⟨g,e1,h1,h2⟩:=h
 refine ⟨g,e1,?_,h2⟩
 rw [hg.block g (heap_lt h1) (fun e=>by have:=hr g e.symm;omega)]
 exact h1
/-- A row of nodes of one's own. -/
def OwnN (e:TypeId) (B n:Nat) (xs:List Value) (v:Value) (W:World):Prop:=W.ownsRow B e 6 v n xs
theorem OwnN.up {e:TypeId} {B n:Nat} {xs:List Value} {v:Value} {W W':World} (h:OwnN e B n xs v W) (hB:Below W.heap.size W W'):OwnN e B n xs v W':=owns_only (S:=[]) h (Only.of hB) (by simp)
theorem grown_up {a b c:World} {r:Option Nat} (h:a.grownBy b r) (h2:Below b.heap.size b c):a.grownBy c r:=⟨h2.os.trans h.os,h2.tape.trans h.tape,h2.output.trans h.output,Nat.le_trans h.size h2.size,fun k hk hr=>(h2.block k (Nat.lt_of_lt_of_le hk h.size)).trans (h.block k hk hr)⟩
theorem below_grown {a b:World} (r:Option Nat) (h:Below a.heap.size a b):a.grownBy b r:=⟨h.os,h.tape,h.output,h.size,fun k hk _=>h.block k hk⟩
theorem grown_trans {a b c:World} {r:Option Nat} (h:a.grownBy b r) (h2:b.grownBy c r):a.grownBy c r:=⟨h2.os.trans h.os,h2.tape.trans h.tape,h2.output.trans h.output,Nat.le_trans h.size h2.size,fun k hk hr=>(h2.block k (Nat.lt_of_lt_of_le hk h.size) hr).trans (h.block k hk hr)⟩
end Go.Proofs.YtiampagapgjedaaGreatDoor.Wd
