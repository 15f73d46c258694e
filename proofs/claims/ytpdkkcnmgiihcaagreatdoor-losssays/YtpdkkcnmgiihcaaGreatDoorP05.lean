/- Sums of products, exact however great they grow, that lie in four cells of a block: what exact.Sum's Add and Fix do. · Sums of numbers, exact: what matm.total hands back. · Sums of products, rounded once: what matm.Dot hands back. · Cuts of rows of numbers: s[i:j], s[i:], s[:j]. · Long division of two words by one, digit by digit: the plain arithmetic of it. Nothing of the program is named here. -/
import Derived.Test.YtpdkkcnmgiihcaaGreatDoorP04
import Derived.Test.YtpdkkcnmgiihcaaGreatDoorP01
import Derived.Test.YtpdkkcnmgiihcaaGreatDoorP02
import Derived.RowKit
import Derived.Laws.Bits64b
import Derived.Laws.BitsLemmas
import Derived.Lib.BitFns
import Derived.WalkKit
import Derived.Lib.ItoaNum
set_option linter.unusedVariables false
set_option linter.unusedSimpArgs false
set_option maxHeartbeats 16000000
set_option maxRecDepth 16000
namespace Go.Proofs.YtpdkkcnmgiihcaaGreatDoor.Wd
open Go.RowKit Fx
attribute [local go_sem] fld_hi fld_lo
theorem Hid.up_tz {w w1:World} (h:Hid (Tz w)) (hb:Below w.heap.size w w1):Hid (Tz w1):=h.out.up hb
/-- A number of 128 bits that lies in two cells of a block, from o on, which may be written. -/
def LieA (W:World) (b o:Nat) (x:Int):Prop:=
 b < W.heap.size∧W.cell? ⟨b,o,none⟩=some (.int .i64 (x / 18446744073709551616))∧W.cell? ⟨b,o+1,none⟩=some (.int .u64 (x % 18446744073709551616))∧W.frozen? ⟨b,o,none⟩=false∧W.frozen? ⟨b,o+1,none⟩=false
/-- All stands but the four cells of the block b from o on. -/
structure Near (b o:Nat) (W W':World):Prop where
 below:Below b W W'
 stay:Stay b W W'
 cell:∀ i,(i < o∨o+4≤i)→W'.cell? ⟨b,i,none⟩=W.cell? ⟨b,i,none⟩
 frozen:∀ i,W'.frozen? ⟨b,i,none⟩=W.frozen? ⟨b,i,none⟩
theorem Near.trans {b o:Nat} {A B C:World} (h:Near b o A B) (k:Near b o B C):Near b o A C:=
 ⟨h.below.trans k.below,h.stay.trans k.stay,fun i hi=>(k.cell i hi).trans (h.cell i hi),fun i=>(k.frozen i).trans (h.frozen i)⟩
/-- A sum of products, at most m of them, in four cells. -/
def SumAt (W:World) (b o m:Nat) (T:Int):Prop:=
 ∃ A B:Int,A*18446744073709551616+B=T∧-(4611686018427387904*(m:Int))≤A∧A≤4611686018427387904*(m:Int)∧0≤B∧B≤18446744073709551616*(m:Int)∧LieA W b o A∧LieA W b (o+2) B
end Go.Proofs.YtpdkkcnmgiihcaaGreatDoor.Wd
namespace Go.Proofs.YtpdkkcnmgiihcaaGreatDoor.Wd
open Go.RowKit Fx
attribute [local go_sem] fld_hi fld_lo
/-- The words that lie there. -/
theorem Lies.words {W:World} {b:Nat} {x h l:Int} (H:Lies W b x) (e:x=h*18446744073709551616+l) (l1:0≤l) (l2:l≤18446744073709551615):W.cell? ⟨b,0,none⟩=some (.int .i64 h)∧W.cell? ⟨b,1,none⟩=some (.int .u64 l):=by
 refine ⟨?_,?_⟩
 ·rw [H.2.1,show x / 18446744073709551616=h by omega]
 ·rw [H.2.2.1,show x % 18446744073709551616=l by omega]
theorem total_any (p:Option Addr) (n c:Nat) (x:List Int) (hx:RI x) (hn:n≤4096) (w:World) (hv:Nums .i64 w (.slice p n c) x):
  Calls Tryz.prog 157 #[.slice p n c] w fun e w'=>e = .returned (wd (totalI x))∧Below w.heap.size w w':=by
 obtain ⟨_,_,_,e4,HX⟩:=hv.lst
 cases e4
 have HS:Hid (totalI x=sumI (fun q=>x.getD q 0) n):=by show _=_;rw [totalI,HX.out.1]
 have HR:Hid (∀ k,k≤n→InW (sumI (fun q=>x.getD q 0) k)):=fun k hk=>by
  have h1:=sumI_rng (f:=fun q=>x.getD q 0) (B:=9223372036854775808) (by omega) k fun q _=>by have:=getD_inR hx q;unfold InR at this;omega
  unfold InW
  omega
 have HI:Hid (RI x):=hx
 have hn1:(n:Int)≤4096:=by omega
 obtain ⟨T,eT⟩:∃ T,totalI x=T:=⟨_,rfl⟩
 rw [eT] at HS ⊢
 clear hv hx eT
 haveI:Nonempty World:=⟨w⟩
 go_enter Tryz.func157,Tryz.ntmps157
 go_wp2_with fail
 go_loopg [8] n (fun g i wr=>∃ (k:Nat),k≤n∧g=n - k∧i = .int .i64 (k:Int)∧Hid (Lies wr w.heap.size 0)∧Hid (Lies wr (w.heap.size+1) (sumI (fun q=>x.getD q 0) k))∧Hid (Below w.heap.size w wr))
 case atStart=>
  refine ⟨0,by omega,by omega,rfl,?_,?_,show Below _ _ _ by go_grown⟩
  ·show Lies _ _ _
   unfold Lies
   simp [go_sem]
  ·show Lies _ _ _
   simp only [sumI]
   unfold Lies
   simp [go_sem]
 case round=>
  obtain ⟨k,hk,hg,rfl,L0,L1,HB⟩:=hrel
  obtain ⟨R1,hR1⟩:∃ R1:World,R1=wr:=⟨_,rfl⟩
  subst hR1
  by_cases hkn:k < n
  ·have hk':(k:Int) < (n:Int):=by omega
   obtain ⟨q,o,rfl,hc0⟩:=HX.out.2 k hkn
   have hc1:=cell_low hc0 HB.out
   have lt0:=wcell_lt hc1
   have hX:=getD_inR HI.out k
   have wS:=HR.out k hk
   have wT:=HR.out (k+1) (by omega)
   obtain ⟨S,eS⟩:∃ S,sumI (fun q=>x.getD q 0) k=S:=⟨_,rfl⟩
   have eT1:sumI (fun q=>x.getD q 0) (k+1)=S+x.getD k 0:=by rw [sumI,eS]
   rw [eT1] at wT
   obtain ⟨X,eX⟩:∃ X,x.getD k 0=X:=⟨_,rfl⟩
   rw [eX] at hc1 hX wT eT1
   rw [eS] at wS L1
   have HT1:Hid (sumI (fun q=>x.getD q 0) (k+1)=S+X):=eT1
   obtain ⟨sh,sl,es,s1,s2,s3,s4,Hs⟩:=words wS
   obtain ⟨xh,xl,exw,x1,x2,x3,x4,Hx⟩:=words (InR.w hX)
   obtain ⟨th,tl,et,t1,t2,t3,t4,Ht⟩:=words wT
   have cOf:∀ W:World,Calls Tryz.prog 185 #[.int .i64 X] W fun e w'=>e = .returned (.agg #[.int .i64 xh,.int .u64 xl])∧Below W.heap.size W w':=by
    intro W;have:=of_any X hX W;rw [exw] at this;exact this
   have cAd:∀ W:World,Calls Tryz.prog 184 #[.agg #[.int .i64 sh,.int .u64 sl],.agg #[.int .i64 xh,.int .u64 xl]] W fun e w'=>e = .returned (.agg #[.int .i64 th,.int .u64 tl])∧Below W.heap.size W w':=by
    intro W;have:=add_in S X wS (InR.w hX) wT W;rw [exw,es,et] at this;exact this
   obtain ⟨q0,q1⟩:=L1.out.words Hs.out s3 s4
   have lt1:=L1.out.1
   clear eS eX eT1 hc0 es exw et hX wS wT
   go_wp2_with fail
   refine flow 4 18 (by kernel_rfl) rfl rfl (by kernel_rfl) ?_
   apply Exists.intro
   refine ⟨?_,?_⟩
   ·intro F hF
    have hFc:=hF.cell
    have hFf:=hF.frozen
    simp only [List.take_succ_cons,List.take_zero,List.eraseIdx_cons_succ,List.eraseIdx_cons_zero]
    repeat (go_big_quiet_step (first|(go_at_call 185;with_reducible exact hF.call (cOf _))|(go_at_call 184;with_reducible exact hF.call (cAd _))))
    refine wpQuiet_nil ?_
    exact rfl
   ·intro W2 hW2
    simp only [List.drop_succ_cons,List.drop_zero]
    have M:=L1.out.up hW2
    have N0:Hid (Lies ((W2.setCell ⟨w.heap.size+1,0,none⟩ (.int .i64 th)).setCell ⟨w.heap.size+1,1,none⟩ (.int .u64 tl)) w.heap.size 0):=(L0.out.up hW2).off (by omega)
    have N1:Hid (Lies ((W2.setCell ⟨w.heap.size+1,0,none⟩ (.int .i64 th)).setCell ⟨w.heap.size+1,1,none⟩ (.int .u64 tl)) (w.heap.size+1) (S+X)):=M.set (by have:=Ht.out;omega) (by have:=Ht.out;omega)
    have B2:Hid (Below w.heap.size w ((W2.setCell ⟨w.heap.size+1,0,none⟩ (.int .i64 th)).setCell ⟨w.heap.size+1,1,none⟩ (.int .u64 tl))):=below_set2 (HB.out.trans (hW2.mono HB.out.size)) _ (by omega) _ _
    obtain ⟨g0,g1,g2,g3,g4⟩:=M
    clear hW2 cOf cAd q0 q1 lt1 L0 L1 HB
    go_wp2
    go_roundg (n - (k+1))
    case measure=>omega
    case rel=>exact ⟨k+1,by omega,rfl,by first|rfl|simp,N0,by rw [HT1.out];exact N1,B2⟩
  ·obtain rfl:k=n:=by omega
   have wS:=HR.out k hk
   rw [← HS.out] at L1 wS
   obtain ⟨sh,sl,es,s1,s2,s3,s4,Hs⟩:=words wS
   obtain ⟨q0,q1⟩:=L1.out.words Hs.out s3 s4
   obtain ⟨g0,g1,g2,g3,g4⟩:=L0.out
   have lt1:=L1.out.1
   have cf:=L0.out.set (y:=T) (yh:=sh) (yl:=sl) (by have:=Hs.out;omega) (by have:=Hs.out;omega)
   have BF:=below_set2 HB.out w.heap.size (Nat.le_refl _) (.int .i64 sh) (.int .u64 sl)
   obtain ⟨y0,y1⟩:=cf.words Hs.out s3 s4
   clear cf wS
   go_wp2
   exact bodyPost_ret (v:=.agg #[.int .i64 sh,.int .u64 sl]) (by simp [results,Tryz.results157,go_sem,y0,y1]) rfl ⟨by rw [es],BF⟩
end Go.Proofs.YtpdkkcnmgiihcaaGreatDoor.Wd
namespace Go.Proofs.YtpdkkcnmgiihcaaGreatDoor.Wd
open Go.RowKit Fx
end Go.Proofs.YtpdkkcnmgiihcaaGreatDoor.Wd
namespace Go.Proofs.YtpdkkcnmgiihcaaGreatDoor.Wd
open Go.RowKit
end Go.Proofs.YtpdkkcnmgiihcaaGreatDoor.Wd
namespace Go.Proofs.YtpdkkcnmgiihcaaGreatDoor.Kn
open Go.RowKit
variable {Y Y1 Y0 u v : Int}
/-- The dividend's next digit. -/
def dig (u v Y:Int):Int:=(u*4294967296+v) / Y
theorem dig_lo (hY:0 < Y):dig u v Y*Y≤u*4294967296+v:=Int.ediv_mul_le _ (by omega)
theorem dig_nonneg (hY:0 < Y) (hu:0≤u) (hv:0≤v):0≤dig u v Y:=Int.ediv_nonneg (by omega) (by omega)
theorem dig_lt (hY:0 < Y) (hu:u < Y) (hv:v < 4294967296):dig u v Y < 4294967296:=by
 unfold dig
 apply Int.ediv_lt_of_lt_mul hY
 omega
theorem dig_start (hY:0 < Y) (h1:0 < Y1) (h0:0≤Y0) (e:Y=Y1*4294967296+Y0) (hu:0≤u) (hv:0≤v) (hv':v < 4294967296):dig u v Y≤u / Y1:=by
 rw [Int.le_ediv_iff_mul_le h1]
 have h:=dig_lo (u:=u) (v:=v) hY
 have hd:=dig_nonneg (Y:=Y) hY hu hv
 have h0':0≤dig u v Y*Y0:=Int.mul_nonneg hd h0
 rw [e,Int.mul_add,← Int.mul_assoc] at h
 rw [← e] at h
 omega
theorem dig_ub (h1:2147483648≤Y1) (h0:Y0 < 4294967296) (e:Y=Y1*4294967296+Y0) (hu:u < Y):u / Y1≤4294967297:=by
 apply Int.le_of_lt_add_one
 apply Int.ediv_lt_of_lt_mul (by omega)
 omega
theorem dig_more (q r:Int) (hY:0 < Y) (hu:u < Y) (hv:v < 4294967296) (e:Y=Y1*4294967296+Y0) (hq:q*Y1+r=u) (h:4294967296≤q∨4294967296*r+v < q*Y0):dig u v Y < q:=by
 rcases h with h|h
 ·have:=dig_lt hY hu hv
  omega
 ·unfold dig
  apply Int.ediv_lt_of_lt_mul hY
  rw [e,Int.mul_add,← Int.mul_assoc]
  omega
theorem dig_stop (q r:Int) (hY:0 < Y) (e:Y=Y1*4294967296+Y0) (hq:q*Y1+r=u) (h:q*Y0≤4294967296*r+v) (hd:dig u v Y≤q):q=dig u v Y:=by
 apply Int.le_antisymm _ hd
 unfold dig
 rw [Int.le_ediv_iff_mul_le hY,e,Int.mul_add,← Int.mul_assoc]
 omega
theorem dig_far (q r:Int) (hY:0 < Y) (h0:0≤Y0) (h0':Y0 < 4294967296) (hv:0≤v) (e:Y=Y1*4294967296+Y0) (hq:q*Y1+r=u) (hr:4294967296≤r) (hq0:0≤q) (hq1:q≤4294967296) (hd:dig u v Y≤q):q=dig u v Y:=by
 apply dig_stop q r hY e hq _ hd
 have:q*Y0≤4294967296*Y0:=Int.mul_le_mul_of_nonneg_right hq1 h0
 omega
theorem wrap_sub_wrap (a b:Int):IntKind.u64.wrap (IntKind.u64.wrap a - IntKind.u64.wrap b)=IntKind.u64.wrap (a - b):=by
 simp only [IntKind.wrap_u64];omega
theorem wrap_add_wrap (a b:Int):IntKind.u64.wrap (IntKind.u64.wrap a+b)=IntKind.u64.wrap (a+b):=by
 simp only [IntKind.wrap_u64];omega
theorem wrap_id (a:Int) (h:0≤a) (h':a < 18446744073709551616):IntKind.u64.wrap a=a:=by
 simp only [IntKind.wrap_u64];omega
theorem dig_rem (hY:0 < Y) (hY':Y≤18446744073709551616):
  IntKind.u64.wrap (IntKind.u64.wrap (IntKind.u64.wrap (u*4294967296)+v) - IntKind.u64.wrap (dig u v Y*Y))=(u*4294967296+v) % Y:=by
 rw [wrap_add_wrap,wrap_sub_wrap]
 have h:=Int.emod_add_mul_ediv (u*4294967296+v) Y
 have e:u*4294967296+v - dig u v Y*Y=(u*4294967296+v) % Y:=by
  unfold dig
  rw [Int.mul_comm ((u*4294967296+v) / Y) Y]
  omega
 rw [e]
 have h1:=Int.emod_nonneg (u*4294967296+v) (show Y≠0 by omega)
 have h2:=Int.emod_lt_of_pos (u*4294967296+v) hY
 exact wrap_id _ h1 (by omega)
theorem start_rest (h1:0 < Y1) (h1':Y1 < 4294967296) (hu:0≤u) (hu':u < 18446744073709551616):
  IntKind.u64.wrap (u - IntKind.u64.wrap (u / Y1*Y1))=u % Y1:=by
 have h:=Int.emod_add_mul_ediv u Y1
 have a:=Int.emod_nonneg u (show Y1≠0 by omega)
 have b:=Int.emod_lt_of_pos u h1
 rw [Int.mul_comm] at h
 simp only [IntKind.wrap_u64]
 omega
theorem start_eq:u / Y1*Y1+u % Y1=u:=by
 have h:=Int.emod_add_mul_ediv u Y1
 rw [Int.mul_comm] at h
 omega
theorem dig_eq (u v Y:Int):u*4294967296+v=dig u v Y*Y+(u*4294967296+v) % Y:=by
 have h:=Int.emod_add_mul_ediv (u*4294967296+v) Y
 unfold dig
 rw [Int.mul_comm Y] at h
 omega
theorem maskI (a:Int) (h:0≤a) (h':a < 18446744073709551616):bits .and .u64 a 4294967295=a % 4294967296:=by
 have hw:∀ n:Int,0≤n→n < 2 ^ 64→IntKind.u64.wrap n=n:=fun n h0 h1=>by rw [IntKind.wrap_u64];omega
 exact bits_mask .u64 64 (by decide) hw 32 (by decide) a h (by omega)
theorem shift_of (y:Int) (h0:0 < y) (h1:y < 18446744073709551616):∃ s:Nat,s < 64∧Hid ((s:Int)=64 - (Lib.bitLen y.toNat:Int))∧9223372036854775808≤y*2 ^ s∧y*2 ^ s < 18446744073709551616:=by
 obtain ⟨n,rfl⟩:=Int.eq_ofNat_of_zero_le (show 0≤y by omega)
 have hb:=Lib.bitLenAux_bounds 64 n (by omega) (by omega)
 have hle:=Lib.bitLen_le n 64 (by omega) (by omega)
 change 1≤Lib.bitLen n∧2 ^ (Lib.bitLen n - 1)≤n∧n < 2 ^ Lib.bitLen n at hb
 refine ⟨64 - Lib.bitLen n,by omega,by show _=_;simp only [Int.toNat_natCast];omega,?_,?_⟩
 ·have e:2 ^ (Lib.bitLen n - 1)*2 ^ (64 - Lib.bitLen n)=9223372036854775808:=by
   rw [← Nat.pow_add,show Lib.bitLen n - 1+(64 - Lib.bitLen n)=63 by omega]
  have:=Nat.mul_le_mul_right (2 ^ (64 - Lib.bitLen n)) hb.2.1
  rw [e] at this
  have h2:=Int.ofNat_le.2 this
  rw [Int.natCast_mul,Int.natCast_pow] at h2
  exact h2
 ·have e:2 ^ Lib.bitLen n*2 ^ (64 - Lib.bitLen n)=18446744073709551616:=by
   rw [← Nat.pow_add,show Lib.bitLen n+(64 - Lib.bitLen n)=64 by omega]
  have:=Nat.mul_lt_mul_of_pos_right hb.2.2 (Nat.two_pow_pos (64 - Lib.bitLen n))
  rw [e] at this
  have h2:=Int.ofNat_lt.2 this
  rw [Int.natCast_mul,Int.natCast_pow] at h2
  exact h2
theorem shifted (hi lo y:Int) (s:Nat) (hh:hi < y) (h0:0 < hi) (hy:0 < y) (hs:s < 64) (hY:9223372036854775808≤y*2 ^ s∧y*2 ^ s < 18446744073709551616) (hl:0≤lo∧lo < 18446744073709551616):
  bits .or .u64 (IntKind.u64.wrap (hi*2 ^ s)) (lo / 2 ^ (64 - s))=hi*2 ^ s+lo / 2 ^ (64 - s)∧IntKind.u64.wrap (lo*2 ^ s)=lo*2 ^ s % 18446744073709551616∧
  0≤hi*2 ^ s+lo / 2 ^ (64 - s)∧hi*2 ^ s+lo / 2 ^ (64 - s) < y*2 ^ s∧
  (hi*18446744073709551616+lo)*2 ^ s=(hi*2 ^ s+lo / 2 ^ (64 - s))*18446744073709551616+lo*2 ^ s % 18446744073709551616:=by
 have hP:(0:Int) < 2 ^ s:=Int.pow_pos (by decide)
 have hT:(0:Int) < 2 ^ (64 - s):=Int.pow_pos (by decide)
 have hPT:(2:Int) ^ (64 - s)*2 ^ s=18446744073709551616:=by
  rw [← Int.pow_add,show 64 - s+s=64 by omega];rfl
 have hPT':(2:Int) ^ s*2 ^ (64 - s)=18446744073709551616:=by rw [Int.mul_comm];exact hPT
 have q0:0≤lo / 2 ^ (64 - s):=Int.ediv_nonneg hl.1 (by omega)
 have q1:lo / 2 ^ (64 - s) < 2 ^ s:=Int.ediv_lt_of_lt_mul hT (by rw [hPT'];exact hl.2)
 have hm:(hi+1)*2 ^ s≤y*2 ^ s:=Int.mul_le_mul_of_nonneg_right (by omega) (by omega)
 rw [Int.add_mul] at hm
 have hp:0≤hi*2 ^ s:=Int.mul_nonneg (by omega) (by omega)
 have hw:∀ n:Int,0≤n→n < 2 ^ 64→IntKind.u64.wrap n=n:=fun n h0 h1=>by rw [IntKind.wrap_u64];omega
 refine ⟨?_,by rw [IntKind.wrap_u64],by omega,by omega,?_⟩
 ·rw [wrap_id _ hp (by omega)]
  have hP64:(2:Int) ^ s≤2 ^ 64:=by
   rw [show (2:Int) ^ 64=18446744073709551616 from rfl,← hPT']
   have:(2:Int) ^ s*1≤2 ^ s*2 ^ (64 - s):=Int.mul_le_mul_of_nonneg_left (by omega) (by omega)
   omega
  exact bits_join .u64 64 (by decide) hw s _ _ hp (Int.mul_emod_left _ _) (by omega) q0 q1 (by omega)
 ·have hd:=Int.emod_add_mul_ediv lo (2 ^ (64 - s))
  have r0:=Int.emod_nonneg lo (show (2:Int) ^ (64 - s)≠0 by omega)
  have r1:=Int.emod_lt_of_pos lo hT
  have e:lo*2 ^ s=lo / 2 ^ (64 - s)*18446744073709551616+lo % 2 ^ (64 - s)*2 ^ s:=by
   rw [← hPT]
   have:lo*2 ^ s=(lo % 2 ^ (64 - s)+2 ^ (64 - s)*(lo / 2 ^ (64 - s)))*2 ^ s:=by rw [hd]
   rw [this,Int.add_mul,Int.mul_comm (2 ^ (64 - s)) (lo / 2 ^ (64 - s)),Int.mul_assoc]
   omega
  have e2:lo % 2 ^ (64 - s)*2 ^ s < 2 ^ (64 - s)*2 ^ s:=Int.mul_lt_mul_of_pos_right r1 hP
  have e3:0≤lo % 2 ^ (64 - s)*2 ^ s:=Int.mul_nonneg r0 (by omega)
  rw [hPT] at e2
  rw [Int.add_mul,Int.add_mul,Int.mul_assoc hi,Int.mul_comm 18446744073709551616 (2 ^ s),← Int.mul_assoc]
  omega
theorem whole (N y P Y U L Q1 Q0 R1 R0:Int) (hP:0 < P) (hY:Y=y*P) (hy:0 < y) (h0:0≤R0) (h1:R0 < Y)
  (hN:N*P=U*18446744073709551616+L) (e1:U*4294967296+L / 4294967296=Q1*Y+R1) (e2:R1*4294967296+L % 4294967296=Q0*Y+R0):
  N / y=Q1*4294967296+Q0∧R0 / P=N % y:=by
 have hA:N*P=(Q1*4294967296+Q0)*Y+R0:=by
  rw [Int.add_mul,Int.mul_assoc,Int.mul_comm 4294967296 Y,← Int.mul_assoc]
  omega
 have hR:R0=(N - (Q1*4294967296+Q0)*y)*P:=by
  rw [Int.sub_mul,hA,hY,Int.mul_assoc];omega
 have hd:R0 / P=N - (Q1*4294967296+Q0)*y:=by
  rw [hR];exact Int.mul_ediv_cancel _ (by omega)
 have p0:0≤N - (Q1*4294967296+Q0)*y:=by rw [← hd];exact Int.ediv_nonneg h0 (by omega)
 have p1:N - (Q1*4294967296+Q0)*y < y:=by
  rw [← hd];exact Int.ediv_lt_of_lt_mul hP (by rw [← hY];exact h1)
 have:=(Int.ediv_emod_unique (a:=N) (b:=y) (r:=N - (Q1*4294967296+Q0)*y) (q:=Q1*4294967296+Q0) hy).2 ⟨by rw [Int.mul_comm];omega,p0,p1⟩
 exact ⟨this.1,by rw [hd,this.2]⟩
end Go.Proofs.YtpdkkcnmgiihcaaGreatDoor.Kn
