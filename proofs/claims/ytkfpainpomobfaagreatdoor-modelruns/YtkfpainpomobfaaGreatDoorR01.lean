/- Tensors: what tens.Good, tens.Same, slic -/
import Derived.Test.YtkfpainpomobfaaGreatDoorR00
import Derived.Laws.Bits64b
import Derived.Laws.BitsLemmas
import Derived.Deep.AppendLies
import Derived.Deep.MidRow
import Derived.Lib.SlicesS
import Derived.Deep.RegionHeld3
set_option linter.unusedVariables false
set_option linter.unusedSimpArgs false
set_option maxHeartbeats 16000000
set_option maxRecDepth 16000
namespace Go.Proofs.YtkfpainpomobfaaGreatDoor.Wd
open Go.RowKit List World Nat
theorem l_5:NumT Tryz.prog 26 48 .i64 8:=⟨Tryz.underlying26,by kernel_rfl⟩
/-- A tensor: a shape, and as many numbers as that has. -/
abbrev isP (d x:List Int):Prop:=goodN (ntl d)/\x.length=a_f (ntl d)
theorem a_d {w A:World} {v:Value} {b o:Nat} (h:w.cell? ⟨b,o,none⟩=some v) (E:Bw w A):A.cell? ⟨b,o,none⟩=some v:=a_g E h
theorem l_6 (a b:Int):(a==b)=decide (a=b):=by
 by_cases h:a=b <;> simp [h]
theorem b_h (s t:Value) (d x:List Int) (hd:RI d) (w:World) (R:Nums .i64 w s d) (ht:Nums .i64 w t x):
  Calls Tryz.prog 89 #[.agg #[s,t]] w fun e J=>e = .returned (.bool (decide (isP d x)))/\Bw w J:=by
 have M:Hid (Nums .i64 w s d/\RI d):=⟨R,hd⟩
 obtain ⟨p,n,c,rfl,HA⟩:=R.lst;obtain ⟨p2,Z,c2,rfl,HB⟩:=ht.lst;have HL:Hid _:=HB.1;clear R ht hd;by_cases H:goodN (ntl d)
 ·have HG:Hid _:=H;obtain ⟨N,O⟩:∃ N,a_f (ntl d)=N:=⟨_,rfl⟩
  have er:decide (isP d x)=((Z:Int)==(N:Int)):=by
   rw [l_6];exact decide_eq_decide.2 ⟨fun h=>by have:=h.2;rw [HL.out,O] at this;omega,fun h=>⟨H,by rw [HL.out,O];omega⟩⟩
  rw [er];have HN:Hid (c_E (ntl d)=N):=by show _=_;rw [a_T H];exact O
  clear er O H;go_enter Tryz.func89,Tryz.ntmps89;go_wp2_with fail
  refine a_Q (fun A E=>?_);have L:Bw w A:=by rw [E];go_grown
  have I:A.cell? ⟨w.heap.size,0,none⟩=some (.slice p n c)/\A.cell? ⟨w.heap.size,1,none⟩=some (.slice p2 Z c2):=by rw [E];simp [go_sem]
  have x0:=I.1;have x1:=I.2;clear E I
  have V:∀ m,Calls Tryz.prog 114 #[.slice p n c] (A.drewN m) fun e J=>e = .returned (.bool true)/\J=A.drewN m:=fun m=>by
   have:=c_I _ d M.2 (A.drewN m) (M.1.up (a_i L m));rw [decide_eq_true HG.out] at this;exact this
  have cz:∀ m,Calls Tryz.prog 115 #[.slice p n c] (A.drewN m) fun e J=>e = .returned (.int .i64 (N:Int))/\J=A.drewN m:=fun m=>by
   have:=size_any _ d M.2 (A.drewN m) (M.1.up (a_i L m));rw [HN.out] at this;exact this
  go_quiet (first|exact Calls.quiet_of_same (V _)|exact Calls.quiet_of_same (cz _))
  go_wp2;go_ret;exact ⟨rfl,a_i L nq⟩
 ·rw [decide_eq_false (fun h:isP d x=>H h.1)];have HG:Hid _:=H;clear H;go_enter Tryz.func89,Tryz.ntmps89;go_wp2_with fail
  refine a_Q (fun A E=>?_);have L:Bw w A:=by rw [E];go_grown
  have I:A.cell? ⟨w.heap.size,0,none⟩=some (.slice p n c)/\A.cell? ⟨w.heap.size,1,none⟩=some (.slice p2 Z c2):=by rw [E];simp [go_sem]
  have x0:=I.1;have x1:=I.2;clear E I
  have V:∀ m,Calls Tryz.prog 114 #[.slice p n c] (A.drewN m) fun e J=>e = .returned (.bool false)/\J=A.drewN m:=fun m=>by
   have:=c_I _ d M.2 (A.drewN m) (M.1.up (a_i L m));rw [decide_eq_false HG.out] at this;exact this
  go_quiet (exact Calls.quiet_of_same (V _))
  go_wp2;go_ret;exact ⟨rfl,a_i L nq⟩
theorem c_6 (s t:Value) (d x:List Int) (hd:RI d) (w:World) (R:Nums .i64 w s d) (ht:Nums .i64 w t x):
  Calls Tryz.prog 42 #[.agg #[s,t]] w fun e J=>e = .returned (.bool (decide (isP d x)))/\Bw w J:=by
 have M:Hid (Nums .i64 w s d/\RI d):=⟨R,hd⟩
 obtain ⟨p,n,c,rfl,HA⟩:=R.lst;obtain ⟨p2,Z,c2,rfl,HB⟩:=ht.lst;have HL:Hid _:=HB.1;clear R ht hd;by_cases H:goodN (ntl d)
 ·have HG:Hid _:=H;obtain ⟨N,O⟩:∃ N,a_f (ntl d)=N:=⟨_,rfl⟩
  have er:decide (isP d x)=((Z:Int)==(N:Int)):=by
   rw [l_6];exact decide_eq_decide.2 ⟨fun h=>by have:=h.2;rw [HL.out,O] at this;omega,fun h=>⟨H,by rw [HL.out,O];omega⟩⟩
  rw [er];have HN:Hid (c_E (ntl d)=N):=by show _=_;rw [a_T H];exact O
  clear er O H;go_enter Tryz.func42,Tryz.ntmps42;go_wp2_with fail
  refine a_Q (fun A E=>?_);have L:Bw w A:=by rw [E];go_grown
  have I:A.cell? ⟨w.heap.size,0,none⟩=some (.slice p n c)/\A.cell? ⟨w.heap.size,1,none⟩=some (.slice p2 Z c2):=by rw [E];simp [go_sem]
  have x0:=I.1;have x1:=I.2;clear E I
  have V:∀ m,Calls Tryz.prog 65 #[.slice p n c] (A.drewN m) fun e J=>e = .returned (.bool true)/\J=A.drewN m:=fun m=>by
   have:=b_g _ d M.2 (A.drewN m) (M.1.up (a_i L m));rw [decide_eq_true HG.out] at this;exact this
  have cz:∀ m,Calls Tryz.prog 66 #[.slice p n c] (A.drewN m) fun e J=>e = .returned (.int .i64 (N:Int))/\J=A.drewN m:=fun m=>by
   have:=e_G _ d M.2 (A.drewN m) (M.1.up (a_i L m));rw [HN.out] at this;exact this
  go_quiet (first|exact Calls.quiet_of_same (V _)|exact Calls.quiet_of_same (cz _))
  go_wp2;go_ret;exact ⟨rfl,a_i L nq⟩
 ·rw [decide_eq_false (fun h:isP d x=>H h.1)];have HG:Hid _:=H;clear H;go_enter Tryz.func42,Tryz.ntmps42;go_wp2_with fail
  refine a_Q (fun A E=>?_);have L:Bw w A:=by rw [E];go_grown
  have I:A.cell? ⟨w.heap.size,0,none⟩=some (.slice p n c)/\A.cell? ⟨w.heap.size,1,none⟩=some (.slice p2 Z c2):=by rw [E];simp [go_sem]
  have x0:=I.1;have x1:=I.2;clear E I
  have V:∀ m,Calls Tryz.prog 65 #[.slice p n c] (A.drewN m) fun e J=>e = .returned (.bool false)/\J=A.drewN m:=fun m=>by
   have:=b_g _ d M.2 (A.drewN m) (M.1.up (a_i L m));rw [decide_eq_false HG.out] at this;exact this
  go_quiet (exact Calls.quiet_of_same (V _))
  go_wp2;go_ret;exact ⟨rfl,a_i L nq⟩
theorem c_m (v:Value) (l:List Int) (M:l.length<=1073741824) (w:World) (H:Nums .i64 w v l):
  Calls Tryz.prog 46 #[v] w fun e L=>∃ I,e = .returned I/\OwnK .i64 3 L w.heap.size I l/\Bw w L:=by
 have J:=fun (w:World) a n c=>Lib.run_eql_slice_nil (P:=Tryz.prog) w 22 3 a n c 0 0 Tryz.underlying22;have A:Hid (Nums .i64 w v l/\l.length<=1073741824):=⟨H,M⟩
 rcases H with ⟨rfl,rfl⟩|⟨ad,c,rfl,h⟩
 ·go_enter Tryz.func46,Tryz.ntmps46;go_wp2;go_ret;exact ⟨_,rfl,OwnK.nil _ _ _ _,Below.refl _ _⟩
 ·obtain ⟨n,E⟩:∃ n,l.length=n:=⟨_,rfl⟩
  have HE:Hid _:=E;rw [E] at A ⊢;clear h M E;have H5:Hid (OwnK .i64 3 (w.alloc (.cells #[] 3)) w.heap.size (.slice (some ⟨w.heap.size,0,none⟩) 0 0) []):=b_b w [] 0 rfl (by decide);have H6:Hid (Nums .i64 (w.alloc (.cells #[] 3)) (.slice (some ad) n c) l):=A.1.up (a_a w _);have Z:Hid (([]:List Int).length+l.length<=1073741824):=by show _<=_;rw [HE.out];simpa using A.2
  have H8:Hid (Bw w (w.alloc (.cells #[] 3))):=a_a w _;go_enter Tryz.func46,Tryz.ntmps46;go_wp2_with (at_builtin;refine a_x e_g (by decide) rfl (.tmp 5) (.tmp 6) rfl w.heap.size _ [] rfl H5.out _ l rfl H6.out Z.out (by simp) w H8.out ?_;intro R w0 V O)
  refine bodyPost_ret (v:=R) (by simp [results,Tryz.results46,go_sem]) rfl ⟨_,rfl,V.out,O⟩
theorem g_J (v:Value) (l:List Int) (M:l.length<=1073741824) (w:World) (H:Nums .i64 w v l):
  Calls Tryz.prog 47 #[v] w fun e L=>∃ I,e = .returned I/\OwnK .i64 48 L w.heap.size I l/\Bw w L:=by
 have J:=fun (w:World) a n c=>Lib.run_eql_slice_nil (P:=Tryz.prog) w 26 48 a n c 0 0 Tryz.underlying26;have A:Hid (Nums .i64 w v l/\l.length<=1073741824):=⟨H,M⟩
 rcases H with ⟨rfl,rfl⟩|⟨ad,c,rfl,h⟩
 ·go_enter Tryz.func47,Tryz.ntmps47;go_wp2;go_ret;exact ⟨_,rfl,OwnK.nil _ _ _ _,Below.refl _ _⟩
 ·obtain ⟨n,E⟩:∃ n,l.length=n:=⟨_,rfl⟩
  have HE:Hid _:=E;rw [E] at A ⊢;clear h M E;have H5:Hid (OwnK .i64 48 (w.alloc (.cells #[] 48)) w.heap.size (.slice (some ⟨w.heap.size,0,none⟩) 0 0) []):=b_b w [] 0 rfl (by decide);have H6:Hid (Nums .i64 (w.alloc (.cells #[] 48)) (.slice (some ad) n c) l):=A.1.up (a_a w _);have Z:Hid (([]:List Int).length+l.length<=1073741824):=by show _<=_;rw [HE.out];simpa using A.2
  have H8:Hid (Bw w (w.alloc (.cells #[] 48))):=a_a w _;go_enter Tryz.func47,Tryz.ntmps47;go_wp2_with (at_builtin;refine a_x l_5 (by decide) rfl (.tmp 5) (.tmp 6) rfl w.heap.size _ [] rfl H5.out _ l rfl H6.out Z.out (by simp) w H8.out ?_;intro R w0 V O)
  refine bodyPost_ret (v:=R) (by simp [results,Tryz.results47,go_sem]) rfl ⟨_,rfl,V.out,O⟩
theorem k_1 (s t s' t':Value) (d x d' H:List Int) (hd:d.length<=9223372036854775807) (hx:x.length<=9223372036854775807) (w:World) (hs:Nums .i64 w s d) (ht:Nums .i64 w t x) (L:Nums .i64 w s' d') (R:Nums .i64 w t' H):
  Calls Tryz.prog 14 #[.agg #[s,t],.agg #[s',t']] w fun e w'=>e = .returned (.bool (decide (d=d'/\x=H)))/\Bw w w':=by
 have O:=fun W (hW:Bw w W)=>e_H s s' d d' hd W (hs.up hW) (L.up hW);obtain ⟨p,n,c,rfl,HA⟩:=hs.lst;obtain ⟨p2,A,aa,rfl,V⟩:=ht.lst;obtain ⟨p3,n3,c3,rfl,HC⟩:=L.lst;obtain ⟨p4,n4,c4,rfl,HD⟩:=R.lst;rw [V.1] at hx;have af:(A:Int)<=9223372036854775807:=by omega
 clear hs ht L R hd HA HC;by_cases E:d=d'
 ·rw [decide_eq_true E] at O;have er:decide (d=d'/\x=H)=decide (x=H):=decide_eq_decide.2 ⟨fun h=>h.2,fun h=>⟨E,h⟩⟩;rw [er];obtain ⟨r,hr⟩:∃ r,decide (x=H)=r:=⟨_,rfl⟩
  have HR:Hid _:=hr;rw [hr];clear er hr E;go_enter Tryz.func14,Tryz.ntmps14;by_cases hn:A=n4
  ·subst hn;go_wp2_with fail
   refine (O _ ?_).mono ?_
   ·go_grown
   rintro e I ⟨rfl,m,hw⟩;have B1:Hid (Bw w I):=by rw [hw];exact a_i (by go_grown) m
   have X1:I.cell? ⟨w.heap.size,0,none⟩=some (.slice p n c)/\I.cell? ⟨w.heap.size,1,none⟩=some (.slice p2 A aa)/\I.cell? ⟨w.heap.size+1,0,none⟩=some (.slice p3 n3 c3)/\I.cell? ⟨w.heap.size+1,1,none⟩=some (.slice p4 A c4):=by rw [hw];simp [go_sem]
   obtain ⟨x1,x2,x3,x4⟩:=X1;clear hw O;go_wp2_with fail
   go_loopg [5] A (fun gg v wr=>∃ (k d:Nat),k<=A/\gg=A - k/\v = .int .i64 (k:Int)/\Hid (∀ i,i < k->x.getD i 0=H.getD i 0)/\wr=I.drewN d)
   case atStart=>exact ⟨0,0,by omega,by omega,rfl,fun i hi=>by omega,rfl⟩
   case round=>
    obtain ⟨k,d,hk,hg,rfl,Hx,rfl⟩:=hrel;by_cases J:k < A
    ·have ad:(k:Int) < (A:Int):=by omega
     obtain ⟨q,o,rfl,ca⟩:=V.2 k J;obtain ⟨q2,o2,rfl,cb⟩:=HD.2 k J;have ca:=a_d ca B1.out;have cb:=a_d cb B1.out;obtain ⟨Z,ex⟩:∃ Z,x.getD k 0=Z:=⟨_,rfl⟩
     obtain ⟨y,ey⟩:∃ y,H.getD k 0=y:=⟨_,rfl⟩
     have HE:Hid (x.getD k 0=Z/\H.getD k 0=y):=⟨ex,ey⟩
     rw [ex] at ca;rw [ey] at cb;clear ex ey;by_cases M:Z=y
     ·subst M
      have Hn:Hid (∀ i,i < k+1->x.getD i 0=H.getD i 0):=fun i hi=>by
       rcases Nat.lt_succ_iff_lt_or_eq.1 hi with h|rfl
       ·exact Hx.out i h
       ·rw [HE.1,HE.2]
      clear Hx;go_wp2;go_region
      all_goals
       go_wp2;go_roundg (A - (k+1))
      case measure=>omega
      case rel=>exact ⟨k+1,d+1,by omega,rfl,by first|rfl|simp,Hn,rfl⟩
     ·have ac:(Z != y)=true:=by simp [M]
      go_wp2;go_region
      all_goals go_wp2
      go_ret;rw [<- HR.out,decide_eq_false (q_C V.1 HD.1 J (by rw [HE.1,HE.2];exact M))];exact ⟨rfl,a_i B1.out (d+1)⟩
    ·obtain rfl:k=A:=by omega
     go_wp2;go_ret;rw [<- HR.out,decide_eq_true (l_U V.1 HD.1 Hx.out)];exact ⟨rfl,a_i B1.out d⟩
  ·have ae:((A:Int) != (n4:Int))=true:=by simp;omega
   have ab:¬ ((A:Int)=(n4:Int)):=by omega
   go_wp2_with fail
   refine (O _ ?_).mono ?_
   ·go_grown
   rintro e I ⟨rfl,m,rfl⟩;go_wp2;go_ret;rw [<- HR.out,decide_eq_false (fun e=>hn (by rw [<- V.1,<- HD.1,e]))];exact ⟨rfl,a_i (by go_grown) m⟩
 ·rw [decide_eq_false E] at O;rw [decide_eq_false (fun h:d=d'/\x=H=>E h.1)];clear E;go_enter Tryz.func14,Tryz.ntmps14;go_wp2_with fail
  refine (O _ ?_).mono ?_
  ·go_grown
  rintro e I ⟨rfl,m,rfl⟩;go_wp2;go_ret;exact ⟨rfl,a_i (by go_grown) m⟩
end Go.Proofs.YtkfpainpomobfaaGreatDoor.Wd
namespace Go.Proofs.YtkfpainpomobfaaGreatDoor.Fx
open Go.RowKit List World Nat
/-- What is beyond the ends is held there. -/
def hold (x:Int):Int:=if 9223372036854775807 < x then 9223372036854775807 else if x < -9223372036854775808 then -9223372036854775808 else x
/-- A quotient of sizes, rounded: to the nearest, of two that are as near to the even one. -/
def rq (n d:Nat):Nat:=if d < 2*(n % d)∨(2*(n % d)=d/\n / d % 2=1) then n / d+1 else n / d
def sg (b:Bool) (n:Nat):Int:=if b then -(n:Int) else n
def differ (a b:Int):Bool:=decide (a < 0) != decide (b < 0)
def mulI (a b:Int):Int:=hold (sg (differ a b) (rq (a.natAbs*b.natAbs) 4294967296))
def l_7 (a:Int):Int:=if a=0 then 0 else if a < 0 then -9223372036854775808 else 9223372036854775807
def k_2 (a b:Int):Int:=if b=0 then l_7 a else hold (sg (differ a b) (rq (a.natAbs*4294967296) b.natAbs))
def lim (b:Bool):Int:=if b then -9223372036854775808 else 9223372036854775807
/-- A quotient and its rest, rounded. -/
def nr (q r d:Nat):Nat:=if d < 2*r∨(2*r=d/\q % 2=1) then q+1 else q
def InR (a:Int):Prop:=-9223372036854775808<=a/\a<=9223372036854775807
theorem d_B {x:Int} (A:-9223372036854775808<=x) (E:x<=9223372036854775807):hold x=x:=by unfold hold;split <;> (try split) <;> omega
theorem e_7 {x:Int} (h:9223372036854775807<=x):hold x=9223372036854775807:=by unfold hold;split <;> (try split) <;> omega
theorem e_8 {x:Int} (h:x<=-9223372036854775808):hold x = -9223372036854775808:=by unfold hold;split <;> (try split) <;> omega
theorem b_6 (x:Int):-9223372036854775808<=hold x/\hold x<=9223372036854775807:=by unfold hold;split <;> (try split) <;> omega
/-- The sign of a bitwise operation's value is its highest bit. -/
theorem g_w (v:BitVec 64):IntKind.i64.wrap (v.toNat:Int) < 0↔v.msb=true:=by
 rw [IntKind.wrap_i64,BitVec.msb_eq_decide];have:=v.isLt;simp only [decide_eq_true_eq];omega
theorem e_L (a:Int) (A:-9223372036854775808<=a) (E:a<=9223372036854775807):(BitVec.ofInt 64 a).msb=decide (a < 0):=by
 rw [BitVec.msb_eq_decide,BitVec.toNat_ofInt];rw [Bool.eq_iff_iff];simp only [decide_eq_true_eq];omega
theorem g_K (v:BitVec 64):BitVec.ofInt 64 (IntKind.i64.wrap (v.toNat:Int))=v:=by
 apply BitVec.eq_of_toNat_eq;rw [BitVec.toNat_ofInt,IntKind.wrap_i64];have:=v.isLt;omega
theorem g_L (a b:Int):differ a b=true↔(a < 0/\0<=b)∨(0<=a/\b < 0):=by
 unfold differ;by_cases A:a < 0 <;> by_cases E:b < 0 <;> simp [A,E] <;> omega
theorem c_7 (a b c d:Int) (H:InR a) (hb:InR b) (E:InR c) (A:InR d):
  bits .and .i64 (bits .xor .i64 a b) (bits .xor .i64 c d) < 0↔((a < 0/\0<=b)∨(0<=a/\b < 0))/\((c < 0/\0<=d)∨(0<=c/\d < 0)):=by
 rw [<- g_L,<- g_L];show IntKind.i64.wrap ((BitVec.ofInt 64 (IntKind.i64.wrap ((BitVec.ofInt 64 a ^^^ BitVec.ofInt 64 b).toNat:Int)) &&& BitVec.ofInt 64 (IntKind.i64.wrap ((BitVec.ofInt 64 c ^^^ BitVec.ofInt 64 d).toNat:Int))).toNat:Int) < 0↔_;rw [g_w,g_K,g_K,BitVec.msb_and,BitVec.msb_xor,BitVec.msb_xor,e_L a H.1 H.2,e_L b hb.1 hb.2,e_L c E.1 E.2,e_L d A.1 A.2];unfold differ;cases decide (a < 0) <;> cases decide (b < 0) <;> cases decide (c < 0) <;> cases decide (d < 0) <;> simp
theorem c_n (n:Int):InR (wrap64 n):=by unfold InR wrap64;omega
theorem o_x (a b:Int) (E:InR a) (hb:InR b) (h:bits .and .i64 (bits .xor .i64 a (wrap64 (a+b))) (bits .xor .i64 b (wrap64 (a+b))) < 0):
  hold (a+b)=if a < 0 then -9223372036854775808 else 9223372036854775807:=by
 rw [c_7 a _ b _ E (c_n _) hb (c_n _)] at h;unfold InR at E hb;unfold wrap64 at h;by_cases A:a < 0
 ·rw [if_pos A,e_8];omega
 ·rw [if_neg A,e_7];omega
theorem o_y (a b:Int) (A:InR a) (hb:InR b) (h:0<=bits .and .i64 (bits .xor .i64 a (wrap64 (a+b))) (bits .xor .i64 b (wrap64 (a+b)))):
  wrap64 (a+b)=hold (a+b):=by
 have E:=mt (c_7 a _ b _ A (c_n (a+b)) hb (c_n (a+b))).2 (by omega);unfold InR at A hb;unfold wrap64 at E;unfold wrap64 hold
 split <;> (try split) <;> omega
theorem o_z (a b:Int) (A:InR a) (hb:InR b) (h:bits .and .i64 (bits .xor .i64 a b) (bits .xor .i64 a (wrap64 (a - b))) < 0):
  hold (a - b)=if a < 0 then -9223372036854775808 else 9223372036854775807:=by
 rw [c_7 a _ a _ A hb A (c_n _)] at h;unfold InR at A hb;unfold wrap64 at h;by_cases E:a < 0
 ·rw [if_pos E,e_8];omega
 ·rw [if_neg E,e_7];omega
theorem o_A (a b:Int) (A:InR a) (hb:InR b) (h:0<=bits .and .i64 (bits .xor .i64 a b) (bits .xor .i64 a (wrap64 (a - b)))):
  wrap64 (a - b)=hold (a - b):=by
 have E:=mt (c_7 a _ a _ A hb A (c_n (a - b))).2 (by omega);unfold InR at A hb;unfold wrap64 at E;unfold wrap64 hold
 split <;> (try split) <;> omega
theorem o_B (n d:Nat):nr (n / d) (n % d) d=rq n d:=rfl
theorem h_l (b:Bool) (n:Nat) (h:9223372036854775807 < n):lim b=hold (sg b n):=by
 cases b
 ·rw [e_7 (by unfold sg;simp;omega)];rfl
 ·rw [e_8 (by unfold sg;simp;omega)];rfl
theorem q_H (n:Nat) (h:n<=9223372036854775807):(n:Int)=hold (sg false n):=by
 rw [d_B (by simp [sg];try omega) (by simp [sg];try omega)];rfl
theorem l_8 (n:Nat) (h:n<=9223372036854775807):-(n:Int)=hold (sg true n):=by
 rw [d_B (by simp [sg];try omega) (by simp [sg];try omega)];rfl
theorem joinN (E A:Nat) (I:E < 4294967296) (J:A < 18446744073709551616):
  bits .or .u64 ((E:Int)*4294967296) ((A:Int) / 4294967296)=((E*4294967296+A / 4294967296:Nat):Int):=by
 have H:∀ n:Int,0<=n->n < 2 ^ 64->IntKind.u64.wrap n=n:=fun n L I=>by rw [IntKind.wrap_u64];omega
 rw [bits_join .u64 64 (by decide) H 32 _ _ (by omega) (by omega) (by omega) (by omega) (by omega) (by omega)];omega
theorem t_v (a:Nat) (A:a < 18446744073709551616):bits .and .u64 (a:Int) 4294967295=((a % 4294967296:Nat):Int):=by
 have h:=bits_and_u64_nat a 4294967295 A (by omega);have e:a &&& 4294967295=a % 4294967296:=and_two_pow_sub_one_eq_mod a 32;rw [e] at h;exact h
theorem q_I (E A:Nat):(E*18446744073709551616+A) / 4294967296=E*4294967296+A / 4294967296:=by omega
theorem q_J (E A:Nat):(E*18446744073709551616+A) % 4294967296=A % 4294967296:=by omega
theorem s_b (q r d:Nat):nr q r d<=q+1:=by unfold nr;split <;> omega
theorem t_w (q r d:Nat):q<=nr q r d:=by unfold nr;split <;> omega
theorem s_c (n d:Nat):n / d<=rq n d:=by rw [<- o_B];exact t_w _ _ _
theorem t_x (n d:Nat):rq n d<=n / d+1:=by rw [<- o_B];exact s_b _ _ _
theorem o_C (E A:Nat) (H:E < 2147483648) (I:A < 18446744073709551616):rq (E*18446744073709551616+A) 4294967296 < 18446744073709551616:=by
 have:=t_x (E*18446744073709551616+A) 4294967296;omega
/-- A product of 2^95 or more is beyond the ends. -/
theorem q_K (a b:Int) (x y:Nat) (E:a.natAbs=x) (A:b.natAbs=y) (h:2147483648<=x*y / 18446744073709551616):lim (differ a b)=mulI a b:=by
 unfold mulI;rw [E,A];have:=s_c (x*y) 4294967296;exact h_l _ _ (by omega)
theorem o_D (a b:Int) (x y:Nat) (H:a.natAbs=x) (I:b.natAbs=y) (E A:Nat) (J:E=x*y / 18446744073709551616) (L:A=x*y % 18446744073709551616):
  hold (sg (differ a b) (rq (E*18446744073709551616+A) 4294967296))=mulI a b:=by
 unfold mulI;rw [H,I,show E*18446744073709551616+A=x*y by omega]
theorem l_9 (a b:Int) (A:InR a) (hb:InR b) (h:bits .and .i64 (bits .xor .i64 a (wrap64 (a+b))) (bits .xor .i64 b (wrap64 (a+b))) < 0):
  lim (decide (a < 0))=hold (a+b):=by
 rw [o_x a b A hb h];unfold lim;by_cases h:a < 0 <;> simp [h]
theorem m_a (a b:Int) (A:InR a) (hb:InR b) (h:bits .and .i64 (bits .xor .i64 a b) (bits .xor .i64 a (wrap64 (a - b))) < 0):
  lim (decide (a < 0))=hold (a - b):=by
 rw [o_z a b A hb h];unfold lim;by_cases h:a < 0 <;> simp [h]
theorem o_E (a:Int) (h:¬ a=0):lim (decide (a < 0))=l_7 a:=by
 unfold l_7 lim;rw [if_neg h];by_cases h:a < 0 <;> simp [h]
theorem q_L (a b x y:Int) (E:(a.natAbs:Int)=x) (A:(b.natAbs:Int)=y) (hb:b≠0) (I:0 < y) (h:y<=x / 2147483648):lim (differ a b)=k_2 a b:=by
 unfold k_2;rw [if_neg hb];apply h_l;have:=s_c (a.natAbs*4294967296) b.natAbs
 have H:9223372036854775808<=a.natAbs*4294967296 / b.natAbs:=by
  rw [le_div_iff_mul_le (by omega)];omega
 omega
theorem o_F (a b x y:Int) (m:Nat) (E:(a.natAbs:Int)=x) (H:(b.natAbs:Int)=y) (hb:b≠0) (A:nr ((x*4294967296) / y).toNat ((x*4294967296) % y).toNat y.toNat=m):hold (sg (differ a b) m)=k_2 a b:=by
 unfold k_2;subst E H A;have c:(4294967296:Int)=((4294967296:Nat):Int):=rfl
 have I:((a.natAbs:Int)*4294967296 / (b.natAbs:Int)).toNat=a.natAbs*4294967296 / b.natAbs:=by
  rw [c,<- Int.natCast_mul,<- Int.natCast_ediv,Int.toNat_natCast]
 have J:((a.natAbs:Int)*4294967296 % (b.natAbs:Int)).toNat=a.natAbs*4294967296 % b.natAbs:=by
  rw [c,<- Int.natCast_mul,<- Int.natCast_emod,Int.toNat_natCast]
 rw [if_neg hb,<- o_B,I,J,Int.toNat_natCast]
theorem j_V (a b:Int):InR (mulI a b):=by unfold mulI;exact b_6 _
end Go.Proofs.YtkfpainpomobfaaGreatDoor.Fx
namespace Go.Proofs.YtkfpainpomobfaaGreatDoor.Wd
open Go.RowKit List World Nat
/-- make of no number, with room. -/
theorem e_M {P:Program} {t e:TypeId} {k:IntKind} {b:Nat} (T:NumT P t e k b) (I:b<=8) (w:World) {ops:Array Oper} {rest:List Oper} {o:Oper} {a:Act} {Q:Exit->Act->World->Prop}
  (hg:o.guard=none) (l c:Operand) (L:o.op=Op.makeSlice t l c) (O M:IntKind) (C:Int) (n:Nat) (hl:a.eval l = .int O 0) (hc:a.eval c = .int M C) (hC:C=(n:Int)) (V:n<=1073741824)
  (hK:∀ A,Hid (OwnK k e A w.heap.size (.slice (some ⟨w.heap.size,0,none⟩) 0 n) [])->Bw w A->wpList P ops Q rest (a.put o.dst (.slice (some ⟨w.heap.size,0,none⟩) 0 n)) A):
  wpList P ops Q (o :: rest) a w:=by
 obtain ⟨i0,hi,J,E,H⟩:=d_r T;have hm:=Nat.mul_le_mul I V;refine wpList_make_own w hg l c t L w.heap.size e i0 (.int k 0) 1 T.ht hi J E O M C n hl hc hC (by rw [H];omega) (by unfold maxLen;omega) (Nat.le_refl _) ?_;intro A R h2;exact hK A R (Below.grown (Below.refl _ _) h2 (Nat.le_refl _) (fun j Z=>by cases Z))
theorem m_b {d s:List Nat} (E:∀ x,x∈d->x<=4096) (H:∀ x,x∈s->x<=4096):∀ k a,a∈h_M d s k->a<=k*16777216
 | 0,a,h=>by simp [h_M] at h;omega
 | k+1,a,h=>by
  rw [h_M] at h;obtain ⟨b,hb,h⟩:=mem_flatMap.1 h;obtain ⟨n,I,rfl⟩:=mem_map.1 h;have L:=m_b E H k b hb;have O:=mem_range.1 I
  have M:d.getD k 0<=4096:=by
   rcases Nat.lt_or_ge k d.length with A|A
   ·rw [a_t d k 0 A];exact E _ (getElem_mem _)
   ·rw [h_c d k 0 A];omega
  have J:s.getD k 0<=4096:=by
   rcases Nat.lt_or_ge k s.length with A|A
   ·rw [a_t s k 0 A];exact H _ (getElem_mem _)
   ·rw [h_c s k 0 A];omega
  have:=Nat.mul_le_mul (show n<=4096 by omega) J;omega
theorem q_M (a b:List Nat):itl (a++b)=itl a++itl b:=by simp [itl]
theorem g_x (g:Nat->Nat) (i:Nat):(range (i+1)).map g=(range i).map g++[g i]:=by rw [range_succ,map_append];rfl
theorem m_c (l:List Nat) (f:Nat->List Nat) (j:Nat) (h:j < l.length):(l.take (j+1)).flatMap f=(l.take j).flatMap f++f (l.getD j 0):=by
 rw [take_succ_eq_append_getElem h,flatMap_append,a_t l j 0 h];simp
theorem j_W (u v:Value) (d s:List Nat) (hd:goodN d) (hs:s.length=d.length) (hb:∀ x,x∈s->x<=4096) (w:World) (hu:Nums .i64 w u (itl d)) (hv:Nums .i64 w v (itl s)):
  Calls Tryz.prog 184 #[u,v] w fun e w'=>∃ v',e = .returned v'/\OwnK .i64 3 w' w.heap.size v' (itl (f_Y d s))/\Bw w w':=by
 obtain ⟨p,n,c,rfl,HA⟩:=hu.lst;obtain ⟨p2,n2,c2,rfl,HB⟩:=hv.lst;have aa:d.length=n:=by rw [<- a_p d];exact HA.1
 obtain rfl:n2=n:=by rw [<- aa,<- hs,<- a_p s];exact HB.1.symm
 have hn:n2<=4:=by rw [<- aa];exact hd.1
 have aU:(n2:Int)<=4:=by omega
 have O:Hid (goodN d/\s.length=d.length/\(∀ x,x∈s->x<=4096)/\d.length=n2):=⟨hd,hs,hb,aa⟩
 obtain ⟨L,eL⟩:∃ L,itl (f_Y d s)=L:=⟨_,rfl⟩
 have HL:Hid (itl (f_Y d s)=L):=eL;have H5:Hid (OwnK .i64 3 (w.alloc (.cells #[.int .i64 0] 3)) w.heap.size (.slice (some ⟨w.heap.size,0,none⟩) 1 1) (itl (h_M d s 0))):=b_b w [0] 1 rfl (by decide);have H8:Hid (Bw w (w.alloc (.cells #[.int .i64 0] 3))):=a_a w _;rw [eL];clear eL hd hs hb aa hu hv;go_enter Tryz.func184,Tryz.ntmps184;go_wp2_with fail
 go_loopg [5,15] n2 (fun gg r i wr=>∃ (k:Nat),k<=n2/\gg=n2 - k/\i = .int .i64 (k:Int)/\Hid (OwnK .i64 3 wr w.heap.size r (itl (h_M d s k)))/\Hid (Bw w wr))
 case atStart=>exact ⟨0,by omega,by omega,by first|rfl|simp,H5,H8⟩
 case round=>
  obtain ⟨k,hk,hg,rfl,HO,hB⟩:=hrel;obtain ⟨J,az⟩:∃ J:World,J=wr:=⟨_,rfl⟩
  subst az;by_cases R:k < n2
  ·have aN:(k:Int) < (n2:Int):=by omega
   obtain ⟨q,o,rfl,ag⟩:=HA.2 k R;have E:=a_d ag hB.out;obtain ⟨q2,o2,rfl,aj⟩:=HB.2 k R;have H:=a_d aj hB.out;clear ag aj;obtain ⟨rp,N,rc,an,HR⟩:=HO.out.nums.lst;subst an;rw [a_K] at E H;obtain ⟨D,eD⟩:∃ D,d.getD k 0=D:=⟨_,rfl⟩
   obtain ⟨st,es⟩:∃ st,s.getD k 0=st:=⟨_,rfl⟩
   rw [eD] at E;rw [es] at H;obtain ⟨l,el⟩:∃ l,h_M d s k=l:=⟨_,rfl⟩
   have ae:=O.1.at k (by rw [O.2.2.2];exact R);rw [eD] at ae
   have aE:st<=4096:=by
    rw [<- es,a_t s k 0 (by rw [O.2.1,O.2.2.2];exact R)];exact O.2.2.1 _ (getElem_mem _)
   have hN:l.length=N:=by rw [<- el,<- a_p];exact HR.1
   have au:N*D<=4096:=by
    rw [<- hN,<- el,f_y d s k (by rw [O.2.2.2];omega),<- eD,a_t d k 0 (by rw [O.2.2.2];exact R),<- b_p d k (by rw [O.2.2.2];exact R)];exact Nat.le_trans (c_1 O.1.2.1 _) O.1.2.2
   have aq:(N:Int)*(D:Int)<=4096:=by rw [<- Int.natCast_mul];omega
   have ap:0<=(N:Int)*(D:Int):=by rw [<- Int.natCast_mul];omega
   have aL:N<=4096:=by
    have:=Nat.mul_le_mul (Nat.le_refl N) ae.1;omega
   have aI:(N:Int)<=4096:=by omega
   have aO:1<=(D:Int)/\(D:Int)<=4096:=by omega
   have aH:0<=(st:Int)/\(st:Int)<=4096:=by omega
   obtain ⟨f,ef⟩:∃ f:Nat->List Nat,(fun a=>(range D).map fun n=>a+n*st)=f:=⟨_,rfl⟩
   have V:Hid ((fun a=>(range D).map fun n=>a+n*st)=f/\h_M d s (k+1)=l.flatMap f/\h_M d s k=l/\l.length=N):=⟨ef,by rw [h_M,el,eD,es,ef],el,hN⟩
   have aG:Hid (∀ j,j < N->l.getD j 0<=67108864):=fun j hj=>by
    have aD:j < l.length:=by rw [V.2.2.2];exact hj
    have ai:l.getD j 0∈h_M d s k:=by
     rw [V.2.2.1,a_t l j 0 aD];exact getElem_mem _
    have:=m_b O.1.le O.2.2.1 k _ ai;omega
   obtain ⟨M,eM⟩:∃ M:Nat,N*D=M:=⟨_,rfl⟩
   have aw:(N:Int)*(D:Int)=(M:Int):=by rw [<- Int.natCast_mul,eM]
   have hM:M<=4096:=by omega
   have HM:Hid (N*D=M):=eM;clear eD es el hN ef au aq ap eM ae aE;go_wp2_with (at_make;refine e_M e_g (by decide) _ rfl (.const (.int .i64 0)) (.tmp 23) rfl .i64 .i64 _ M rfl rfl rfl (by omega) ?_;intro w1 ao B1)
   rw [show ([]:List Int)=itl ((l.take 0).flatMap f) by simp [itl]] at ao;have ax:Hid (J.cell? ⟨q2,o2+k,none⟩=some (.int .i64 (st:Int))):=H;clear E H HO aw;go_wp2_with fail
   go_loopg [8,27] N (fun gg r i wz=>∃ (j:Nat),j<=N/\gg=N - j/\i = .int .i64 (j:Int)/\Hid (OwnK .i64 3 wz J.heap.size r (itl ((l.take j).flatMap f)))/\Hid (Bw J wz))
   case atStart=>exact ⟨0,by omega,by omega,by first|rfl|simp,ao,B1⟩
   case round=>
    obtain ⟨j,hj,aP,rfl,ad,ab⟩:=hrel;obtain ⟨R1,aC⟩:∃ R1:World,R1=wr:=⟨_,rfl⟩
    subst aC;by_cases af:j < N
    ·have aS:(j:Int) < (N:Int):=by omega
     obtain ⟨q3,o3,rfl,ak⟩:=HR.2 j af;have E:=a_d ak ab.out;rw [a_K,V.2.2.1] at E;have ha:=aG.out j af;obtain ⟨I,ea⟩:∃ a,l.getD j 0=a:=⟨_,rfl⟩
     rw [ea] at E ha;have aB:Hid (l.getD j 0=I):=ea;have aJ:(I:Int)<=67108864:=by omega
     obtain ⟨A,eA⟩:∃ A,(l.take j).flatMap f=A:=⟨_,rfl⟩
     have hA:A.length=j*D:=by
      rw [<- eA,<- V.1,h_d,length_take,V.2.2.2,Nat.min_eq_left hj]
     have ah:A.length+D<=4096:=by
      have h1:=Nat.mul_le_mul (show j+1<=N by omega) (Nat.le_refl D);rw [HM.out,Nat.add_mul] at h1;omega
     have al:Hid ((l.take j).flatMap f=A/\A.length+D<=4096):=⟨eA,ah⟩
     rw [eA,show A=A++(range 0).map (fun n=>I+n*st) by simp] at ad;clear ea ak eA hA ah;go_wp2_with fail
     go_loopg [8,32] D (fun gg r i wy=>∃ (m:Nat),m<=D/\gg=D - m/\i = .int .i64 (m:Int)/\Hid (OwnK .i64 3 wy J.heap.size r (itl (A++(range m).map fun n=>I+n*st)))/\Hid (Bw J wy))
     case atStart=>exact ⟨0,by omega,by omega,by first|rfl|simp,ad,ab⟩
     case round=>
      obtain ⟨m,hm,aQ,rfl,am,ac⟩:=hrel;obtain ⟨R2,ay⟩:∃ R2:World,R2=wr:=⟨_,rfl⟩
      subst ay;by_cases aR:m < D
      ·have aM:(m:Int) < (D:Int):=by omega
       have aV:=a_d ax.out ac.out;obtain ⟨X,eX⟩:∃ X,I+m*st=X:=⟨_,rfl⟩
       have aF:m*st<=16777216:=Nat.mul_le_mul (show m<=4096 by omega) (show st<=4096 by omega);obtain ⟨Y,eY⟩:∃ Y,m*st=Y:=⟨_,rfl⟩
       have aX:(m:Int)*(st:Int)=(Y:Int):=by rw [<- Int.natCast_mul,eY]
       rw [eY] at eX aF;have aT:(Y:Int)<=16777216:=by omega
       have aW:(I:Int)+(Y:Int)=(X:Int):=by omega
       have HX:Hid (I+m*st=X):=by show _=_;rw [eY];exact eX
       have H6:Hid (OwnK .i64 3 (R2.alloc (.cells #[.int .i64 (X:Int)] 3)) J.heap.size u8 (itl (A++(range m).map fun n=>I+n*st))):=am.out.up (a_a R2 _);have av:Hid (Nums .i64 (R2.alloc (.cells #[.int .i64 (X:Int)] 3)) (.slice (some ⟨R2.heap.size,0,none⟩) 1 1) [(X:Int)]):=a_8 (k:=.i64) R2 [(X:Int)] 1 (0,0) rfl;have ar:Hid (Bw J (R2.alloc (.cells #[.int .i64 (X:Int)] 3))):=k_U ac.out _
       have aA:Hid ((itl (A++(range m).map fun n=>I+n*st)).length+[(X:Int)].length<=1073741824):=by
        show _<=_;rw [a_p,length_append,length_map,length_range,length_singleton];have:=al.2;omega
       clear eX eY;go_wp2_with (at_builtin;refine a_x e_g (by decide) rfl (.tmp 35) (.tmp 44) rfl J.heap.size _ _ rfl H6.out _ [(X:Int)] rfl av.out aA.out ar.size J ar.out ?_;intro v0 w0 H0 B0)
       have H7:Hid (OwnK .i64 3 w0 J.heap.size v0 (itl (A++(range (m+1)).map fun n=>I+n*st))):=by
        show OwnK _ _ _ _ _ _;rw [g_x,<- append_assoc,q_M,HX.out];exact H0.out
       go_roundg (D - (m+1))
       case measure=>omega
       case rel=>exact ⟨m+1,by omega,rfl,by first|rfl|simp,H7,B0⟩
      ·obtain rfl:m=D:=by omega
       have H7:Hid (OwnK .i64 3 R2 J.heap.size u8 (itl ((l.take (j+1)).flatMap f))):=by
        show OwnK _ _ _ _ _ _;rw [m_c l f j (by rw [V.2.2.2];exact af),al.1,aB.out,<- V.1];exact am.out
       go_wp2;go_roundg (N - (j+1))
       case measure=>omega
       case rel=>exact ⟨j+1,by omega,rfl,by first|rfl|simp,H7,ac⟩
    ·obtain rfl:j=N:=by omega
     have H7:Hid (OwnK .i64 3 R1 w.heap.size u8 (itl (h_M d s (k+1)))):=by
      show OwnK _ _ _ _ _ _;rw [V.2.1];have:=ad.out;rw [take_of_length_le (by rw [V.2.2.2];exact Nat.le_refl _)] at this;exact this.low hB.size
     have H9:Hid (Bw w R1):=a_c hB.out ab.out;go_wp2;go_roundg (n2 - (k+1))
     case measure=>omega
     case rel=>exact ⟨k+1,by omega,rfl,by first|rfl|simp,H7,H9⟩
  ·obtain rfl:k=n2:=by omega
   have Z:=HO.out;have hw:=HL.out;unfold f_Y at hw;rw [O.2.2.2] at hw;rw [hw] at Z;have V:Hid (OwnK .i64 3 J w.heap.size _ L/\Bw w J):=⟨Z,hB.out⟩
   clear Z hw;go_wp2;go_ret;exact ⟨_,rfl,V.out⟩
theorem q_N (l:List Nat) (j x:Nat):itl (l.set j x)=(itl l).set j (x:Int):=by unfold itl;rw [map_set]
theorem g_M (u v:Value) (d big:List Nat) (hd:goodN d) (hb:goodN big) (hl:d.length<=big.length) (w:World) (hu:Nums .i64 w u (itl d)) (hv:Nums .i64 w v (itl big)):
  Calls Tryz.prog 174 #[u,v] w fun e w'=>∃ v',e = .returned v'/\OwnK .i64 3 w' w.heap.size v' (itl (c_v d big))/\Bw w w':=by
 have cs:∀ W,Bw w W->Calls Tryz.prog 183 #[u] W fun e w'=>∃ v',e = .returned v'/\OwnK .i64 3 w' W.heap.size v' (itl (a_C d))/\Bw W w':=fun W hW=>by
  have:=f_T u (itl d) (e_I hd.le) W (hu.up hW);rw [show c_3 (itl d)=itl (a_C d) by unfold c_3;rw [a_n,if_pos hd]] at this;exact this
 have aj:Hid (Nums .i64 w u (itl d)/\Nums .i64 w v (itl big)):=⟨hu,hv⟩
 obtain ⟨p,n,c,rfl,HA⟩:=hu.lst;obtain ⟨p2,A,c2,rfl,HB⟩:=hv.lst;have R:d.length=n:=by rw [<- a_p d];exact HA.1
 have H:big.length=A:=by rw [<- a_p big];exact HB.1
 have hn:n<=A:=by omega
 have aC:A<=4:=by rw [<- H];exact hb.1
 have aA:(n:Int)<=(A:Int):=by omega
 have ap:(A:Int)<=4:=by omega
 have I:Hid (goodN d/\goodN big/\d.length=n/\big.length=A):=⟨hd,hb,R,H⟩
 obtain ⟨L,eL⟩:∃ L,itl (c_v d big)=L:=⟨_,rfl⟩
 have HL:Hid (itl (f_Y big (c_j d A n))=L):=by show _=_;rw [<- eL,<- H,<- R];rfl
 obtain ⟨Z,ay⟩:∃ Z,A - n=Z:=⟨_,rfl⟩
 have aq:(A:Int) - (n:Int)=(Z:Int):=by omega
 have aD:Z<=4:=by omega
 rw [eL];clear eL hd hb hl R H hu hv;go_enter Tryz.func174,Tryz.ntmps174;go_wp2_with (at_make;refine a_F e_g (by decide) _ rfl (.tmp 10) (.tmp 10) rfl .i64 .i64 A A A rfl rfl rfl rfl (by omega) w.heap.size w (Nat.le_refl _) (Below.refl _ _) ?_;intro w1 HO B0 B1;clear B0)
 rw [show replicate A (0:Int)=itl (c_j d A 0) by unfold itl c_j;rw [map_replicate];rfl] at HO;refine (cs w1 B1).mono ?_;rintro e w2 ⟨vs,rfl,J,M⟩;obtain ⟨p3,E,c3,rfl,ab⟩:=J.nums.lst;obtain rfl:E=n:=by rw [<- ab.1,a_p,c_a,I.2.2.1]
 have HS:Hid (OwnK .i64 3 w2 w1.heap.size (.slice p3 E c3) (itl (a_C d))):=J;have an:Hid (OwnK .i64 3 w2 w.heap.size (.slice (some ⟨w.heap.size,0,none⟩) A A) (itl (c_j d A 0))):=HO.out.up M;have am:Hid (Bw w w2):=a_c B1 M;have Hg:Hid (w.heap.size < w1.heap.size):=HO.size;clear J M HO B1 cs ab;go_wp2_with fail
 go_loopg [20] E (fun gg i wr=>∃ (k:Nat),k<=E/\gg=E - k/\i = .int .i64 (k:Int)/\Hid (OwnK .i64 3 wr w.heap.size (.slice (some ⟨w.heap.size,0,none⟩) A A) (itl (c_j d A k)))/\Hid (Bw w wr)/\Hid (Stay w.heap.size w2 wr))
 case atStart=>exact ⟨0,by omega,by omega,by first|rfl|simp,an,am,Stay.refl _ _⟩
 case round=>
  obtain ⟨k,hk,hg,rfl,HR,V,hS⟩:=hrel;by_cases O:k < E
  ·have av:(k:Int) < (E:Int):=by omega
   have ak:=(HS.out.nums.stay hS.out (HS.out.off Hg.out)).lst;obtain ⟨p4,n4,c4,e4,ad⟩:=ak;cases e4;obtain ⟨q,o,rfl,aa⟩:=ad.2 k O;obtain ⟨q2,o2,rfl,ag⟩:=HA.2 k O;have ac:=a_d ag V.out;rw [a_K] at aa ac;obtain ⟨st,es⟩:∃ st,(a_C d).getD k 0=st:=⟨_,rfl⟩
   obtain ⟨D,eD⟩:∃ D,d.getD k 0=D:=⟨_,rfl⟩
   rw [es] at aa;rw [eD] at ac;have HE:Hid ((a_C d).getD k 0=st/\d.getD k 0=D):=⟨es,eD⟩
   have ae:=e_0 I.1 k;rw [es] at ae;have au:(st:Int)<=4096:=by omega
   have hD:=I.1.at k (by rw [I.2.2.1];exact O);rw [eD] at hD;have aw:1<=(D:Int)/\(D:Int)<=4096:=by omega
   clear es eD ag ad ae;by_cases h1:1 < D
   ·have ao:(1:Int) < (D:Int):=by omega
    obtain ⟨j,ej⟩:∃ j,Z+k=j:=⟨_,rfl⟩
    have az:(Z:Int)+(k:Int)=(j:Int):=by omega
    have hj:j < A:=by omega
    have ax:(j:Int) < (A:Int):=by omega
    have Hj:Hid (A - d.length+k=j):=by show _=_;rw [I.2.2.1];omega
    obtain ⟨ar,aB⟩:=HR.cell (by rw [a_p,c_u]) j hj
    have H2:Hid (OwnK .i64 3 (wr.setCell ⟨w.heap.size,j,none⟩ (.int .i64 (st:Int))) w.heap.size (.slice (some ⟨w.heap.size,0,none⟩) A A) (itl (c_j d A (k+1)))):=by
     have:=HR.out.store (by rw [a_p,c_u]) j (st:Int);rw [<- q_N,<- HE.1,<- Hj.out] at this;show OwnK _ _ _ _ _ _;rw [c_j,if_pos (by rw [HE.2];exact h1),<- HE.1,<- Hj.out];exact this
    have al:Hid (Bw w (wr.setCell ⟨w.heap.size,j,none⟩ (.int .i64 (st:Int)))):=V.setCell (p:=⟨w.heap.size,j,none⟩) (Nat.le_refl _) _;have ai:Hid (Stay w.heap.size w2 (wr.setCell ⟨w.heap.size,j,none⟩ (.int .i64 (st:Int)))):=hS.out.set _ _;clear ej;go_wp2;go_roundg (E - (k+1))
    case measure=>omega
    case rel=>exact ⟨k+1,by omega,rfl,by first|rfl|simp,H2,al,ai⟩
   ·have ao:(D:Int)<=1:=by omega
    have H2:Hid (OwnK .i64 3 wr w.heap.size (.slice (some ⟨w.heap.size,0,none⟩) A A) (itl (c_j d A (k+1)))):=by
     show OwnK _ _ _ _ _ _;rw [c_j,if_neg (by rw [HE.2];exact h1)];exact HR.out
    go_wp2;go_roundg (E - (k+1))
    case measure=>omega
    case rel=>exact ⟨k+1,by omega,rfl,by first|rfl|simp,H2,V,hS⟩
  ·obtain rfl:k=E:=by omega
   have cw:=j_W _ _ big (c_j d A k) I.2.1 (by rw [c_u,I.2.2.2]) (h_f I.1 A k) wr (aj.2.up V.out) HR.out.nums;rw [HL.out] at cw;go_wp2_with fail
   refine cw.mono ?_;rintro e w5 ⟨v5,rfl,h5,af⟩;have HF:Hid (OwnK .i64 3 w5 w.heap.size v5 L/\Bw w w5):=⟨h5.low V.size,a_c V.out af⟩
   clear h5 af cw;go_wp2;go_ret;exact ⟨_,rfl,HF.out⟩
theorem a_b {W:World} {b o:Nat} {v:Value} (h:W.cell? ⟨b,o,none⟩=some v):b < W.heap.size:=c_T (a:=⟨b,o,none⟩) h
/-- A struct of two values in a block, that may be stored into. -/
def Cel (W:World) (b:Nat) (s t:Value):Prop:=W.cell? ⟨b,0,none⟩=some s/\W.cell? ⟨b,1,none⟩=some t/\W.frozen? ⟨b,0,none⟩=false/\W.frozen? ⟨b,1,none⟩=false
theorem Cel.up {W W':World} {b:Nat} {s t:Value} (h:Cel W b s t) (A:Bw W W'):Cel W' b s t:=by
 have hb:=a_b h.1;refine ⟨a_d h.1 A,a_d h.2.1 A,?_,?_⟩
 ·rw [A.frozen (p:=⟨b,0,none⟩) hb];exact h.2.2.1
 ·rw [A.frozen (p:=⟨b,1,none⟩) hb];exact h.2.2.2
theorem Cel.stay {g:Nat} {W W':World} {b:Nat} {s t:Value} (h:Cel W b s t) (A:Stay g W W') (E:b≠g):Cel W' b s t:=by
 have hb:=a_b h.1;refine ⟨A.cell h.1 E,A.cell h.2.1 E,?_,?_⟩
 ·rw [A.frozen hb E];exact h.2.2.1
 ·rw [A.frozen hb E];exact h.2.2.2
theorem e_W {V A:World} {b:Nat} {s t:Value} (h:V=A) (E:V.cell? ⟨b,0,none⟩=some s/\V.cell? ⟨b,1,none⟩=some t/\V.frozen? ⟨b,0,none⟩=false/\V.frozen? ⟨b,1,none⟩=false):Hid (Cel A b s t):=h ▸ E
theorem p_0 {w V A:World} (h:V=A) (E:Bw w V):Hid (Bw w A):=h ▸ E
theorem set_same {W:World} {p:Addr} {x v:Value} (h:W.cell? p=some v):(W.setCell p x).cell? p=some x:=cell?_setCell_same _ _ _ h
theorem set_off {W:World} {b i j:Nat} {x:Value} (A:j≠i):(W.setCell ⟨b,i,none⟩ x).cell? ⟨b,j,none⟩=W.cell? ⟨b,j,none⟩:=cell?_setCell_other _ _ _ _ (by simp;try omega)
/-- The struct, stored. -/
abbrev set2 (W:World) (b:Nat) (s t:Value):World:=(W.setCell ⟨b,0,none⟩ s).setCell ⟨b,1,none⟩ t
theorem Cel.set {W:World} {b:Nat} {s t:Value} (h:Cel W b s t) (E A:Value):Cel (set2 W b E A) b E A:=by
 refine ⟨?_,?_,?_,?_⟩
 ·show ((W.setCell ⟨b,0,none⟩ E).setCell ⟨b,1,none⟩ A).cell? ⟨b,0,none⟩=_;rw [set_off (by omega)];exact set_same h.1
 ·exact set_same (by rw [set_off (by omega)];exact h.2.1)
 ·simp [h.2.2.1]
 ·simp [h.2.2.2]
theorem Stay.set2 {g:Nat} (W:World) (s t:Value):Stay g W (set2 W g s t):=((Stay.refl g W).set 0 s).set 1 t
theorem OwnK.off_new {k:IntKind} {e:TypeId} {W:World} {B g:Nat} {v:Value} {l:List Int} (h:OwnK k e W B v l) (L:W.heap.size<=g):Off g v:=by
 intro O n c A;rcases h.2 with ⟨E,_⟩|⟨q,J,I,E,M,H,_⟩
 ·rw [E] at A;cases A
 ·rw [E] at A;cases A
  have:q < W.heap.size:=by
   rcases Nat.lt_or_ge q W.heap.size with h|h
   ·exact h
   ·rw [Array.getElem?_eq_none h] at H;cases H
  show q≠g;omega
/-- What a call answers: a tensor in memory of its own. -/
def TRes (W:World) (B:Nat) (v:Value) (D X:List Int):Prop:=∃ s t,v = .agg #[s,t]/\OwnK .i64 3 W B s D/\OwnK .i64 48 W B t X
theorem TRes.none (W:World) (B:Nat):TRes W B (.agg #[.slice none 0 0,.slice none 0 0]) [] []:=⟨_,_,rfl,OwnK.nil _ _ _ _,OwnK.nil _ _ _ _⟩
theorem TRes.up {W W':World} {B:Nat} {v:Value} {D X:List Int} (h:TRes W B v D X) (A:Bw W W'):TRes W' B v D X:=by
 obtain ⟨s,t,e,E,H⟩:=h;exact ⟨s,t,e,E.up A,H.up A⟩
theorem TRes.low {W:World} {B A:Nat} {v:Value} {D X:List Int} (h:TRes W B v D X) (E:A<=B):TRes W A v D X:=by
 obtain ⟨s,t,e,H,I⟩:=h;exact ⟨s,t,e,H.low E,I.low E⟩
theorem TRes.set {W:World} {B b:Nat} {s t:Value} {D X:List Int} (A:OwnK .i64 3 W B s D) (E:OwnK .i64 48 W B t X) (hb:b < B):TRes (set2 W b s t) B (.agg #[s,t]) D X:=
 ⟨s,t,rfl,A.stay (Stay.set2 W s t) (A.off hb),E.stay (Stay.set2 W s t) (E.off hb)⟩
theorem a_q {w W:World} (h:Bw w W) (b:Nat) (hb:w.heap.size<=b) (x y:Value):Bw w (set2 W b x y):=b_1 h b hb x y
theorem r_2 {w A W:World} {b:Nat} {s t J M:Value} {D X:List Int} (I:Hid (Cel A b J M)) (E:Hid (Bw w A)) (L:Bw A W) (V:OwnK .i64 3 W A.heap.size s D) (R:OwnK .i64 48 W A.heap.size t X) (hb:w.heap.size<=b):Hid (TRes (set2 W b s t) w.heap.size (.agg #[s,t]) D X/\Bw w (set2 W b s t))/\W.cell? ⟨b,0,none⟩=some J/\W.cell? ⟨b,1,none⟩=some M/\W.frozen? ⟨b,0,none⟩=false/\W.frozen? ⟨b,1,none⟩=false/\(set2 W b s t).cell? ⟨b,0,none⟩=some s/\(set2 W b s t).cell? ⟨b,1,none⟩=some t:=by
 have H:=I.out.up L;have O:=H.set s t;exact ⟨⟨(TRes.set V R (a_b I.1)).low E.size,a_q (a_c E L) _ hb _ _⟩,H.1,H.2.1,H.2.2.1,H.2.2.2,O.1,O.2.1⟩
theorem i_M {w A:World} {a b c d:Value} (h:(w.alloc (.cells #[a,b] 50)).alloc (.cells #[c,d] 50)=A):Hid (Bw w A)/\Hid (Cel A w.heap.size a b)/\Hid (Cel A (w.heap.size+1) c d):=⟨p_0 (w:=w) h (by go_grown),e_W h (by simp [go_sem]),e_W h (by simp [go_sem])⟩
theorem s_d {w A:World} {a b c d e f:Value} (h:((w.alloc (.cells #[a,b] 50)).alloc (.cells #[c,d] 50)).alloc (.cells #[e,f] 50)=A):Hid (Bw w A)/\Hid (Cel A w.heap.size a b)/\Hid (Cel A (w.heap.size+1) c d)/\Hid (Cel A (w.heap.size+2) e f):=⟨p_0 (w:=w) h (by go_grown),e_W h (by simp [go_sem]),e_W h (by simp [go_sem]),e_W h (by simp [go_sem])⟩
theorem t_y {w A:World} {a b c d e f:Value} (h:((w.alloc (.cells #[a,b] 50)).alloc (.cells #[c,d] 50)).alloc (.cells #[e,f] 50)=A):Hid (Bw w A)/\Hid (Cel A w.heap.size a b)/\Hid (Cel A (w.heap.size+1) c d)/\Hid (Cel A (w.heap.size+1+1) e f):=⟨p_0 (w:=w) h (by go_grown),e_W h (by simp [go_sem]),e_W h (by simp [go_sem]),e_W h (by simp [go_sem])⟩
theorem i_N {w H W:World} {b:Nat} {s t:Value} (I:Hid (Cel H b s t)) (J:Bw w W) (L:Bw H W) (hb:w.heap.size<=b):Bw w (set2 W b (.slice none 0 0) (.slice none 0 0))/\W.cell? ⟨b,0,none⟩=some s/\W.cell? ⟨b,1,none⟩=some t/\W.frozen? ⟨b,0,none⟩=false/\W.frozen? ⟨b,1,none⟩=false/\(set2 W b (.slice none 0 0) (.slice none 0 0)).cell? ⟨b,0,none⟩=some (.slice none 0 0)/\(set2 W b (.slice none 0 0) (.slice none 0 0)).cell? ⟨b,1,none⟩=some (.slice none 0 0):=by
 have A:=I.out.up L;have E:=A.set (.slice none 0 0) (.slice none 0 0);exact ⟨a_q J _ hb _ _,A.1,A.2.1,A.2.2.1,A.2.2.2,E.1,E.2.1⟩
/-- Both spread and reckoned, number by number. -/
def c_8 (d x d' y:List Int):Int:=if isP d x/\isP d' y then b_c d d' else 1
def d_l (d x d' y:List Int):List Int:=if isP d x/\isP d' y then b_t d d' else []
def d_m (op:Int->Int->Int) (d x d' y:List Int):List Int:=
 if (isP d x/\isP d' y)/\b_c d d'=0 then (range (a_f (ntl (b_t d d')))).map fun i=>op (x.getD (c_d (ntl d) (ntl (b_t d d')) i) 0) (y.getD (c_d (ntl d') (ntl (b_t d d')) i) 0) else []
theorem f_6 {op:Int->Int->Int} {d x d' y:List Int} (h:¬ (isP d x/\isP d' y)):c_8 d x d' y=1/\d_l d x d' y = []/\d_m op d x d' y = []:=⟨if_neg h,if_neg h,if_neg fun A=>h A.1⟩
theorem m_d {a b:List Int} (h:b_c a b≠0):b_t a b = []:=by
 unfold b_t;rw [if_neg];rintro ⟨E,H,A,I⟩;apply h;unfold b_c;rw [if_pos ⟨E,H⟩,if_pos A,if_pos I]
theorem j_X {op:Int->Int->Int} {d x d' y:List Int} (h:isP d x/\isP d' y) (A:b_c d d'≠0):c_8 d x d' y=b_c d d'/\d_l d x d' y = []/\d_m op d x d' y = []:=
 ⟨if_pos h,by unfold d_l;rw [if_pos h];exact m_d A,if_neg fun E=>A E.2⟩
/-- Both fit: what stands where. -/
structure Joint (d x d' y:List Int) (a b J:List Nat):Prop where
 da:d=itl a
 db:d'=itl b
 ga:goodN a
 gb:goodN b
 gJ:goodN J
 jn:b_t d d'=itl J
 je:b_c d d'=0
 lx:x.length=a_f a
 ly:y.length=a_f b
 fa:b_R a J
 ja:joinN a J=J
 fb:b_R b J
 jb:joinN b J=J
theorem q_O {d x d' y:List Int} (h:isP d x/\isP d' y) (L:b_c d d'=0):∃ a b J,Joint d x d' y a b J:=by
 obtain ⟨R,Z,H,I⟩:=g_G L;obtain ⟨a,A,rfl⟩:=b_u R;obtain ⟨b,E,rfl⟩:=b_u Z;rw [a_n,a_n] at H I;have V:=(c_U A E H I).1;have M:=h.1.2;have O:=h.2.2;rw [a_n] at M O;refine ⟨a,b,joinN a b,rfl,rfl,A,E,I,V,L,M,O,?_,?_,?_,?_⟩
 ·rw [e_X];exact f_K A.2.1 E.2.1 H
 ·rw [d_P,f_L]
 ·rw [e_X,d_P a b];exact f_K E.2.1 A.2.1 ((e_X _ _).1 H)
 ·rw [d_P b,d_P a b,f_L]
theorem Joint.E {op:Int->Int->Int} {d x d' y:List Int} {a b J:List Nat} (h:Joint d x d' y a b J):c_8 d x d' y=0/\d_l d x d' y=itl J/\d_m op d x d' y=(range (a_f J)).map fun i=>op (x.getD (c_d a J i) 0) (y.getD (c_d b J i) 0):=by
 have hp:isP d x/\isP d' y:=by
  rw [h.da,h.db];unfold isP;rw [a_n,a_n];exact ⟨⟨h.ga,h.lx⟩,h.gb,h.ly⟩
 refine ⟨?_,?_,?_⟩
 ·unfold c_8;rw [if_pos hp];exact h.je
 ·unfold d_l;rw [if_pos hp];exact h.jn
 ·unfold d_m;rw [if_pos ⟨hp,h.je⟩,h.jn,a_n];rw [h.da,h.db,a_n,a_n]
/-- A tensor that can be read. -/
def Tn (D X:List Int) (v:Value) (W:World):Prop:=∃ p n c p2 n2 c2,v = .agg #[.slice p n c,.slice p2 n2 c2]/\Nums .i64 W (.slice p n c) D/\Nums .i64 W (.slice p2 n2 c2) X
theorem Tn.up {D X:List Int} {v:Value} {W W':World} (h:Tn D X v W) (A:Bw W W'):Tn D X v W':=by
 obtain ⟨p,n,c,L,J,I,e,E,H⟩:=h;exact ⟨p,n,c,L,J,I,e,E.up A,H.up A⟩
/-- No more than an int tells. -/
def Few (l:List Int):Prop:=l.length<=9223372036854775807
theorem o_G {D X D' X':List Int} {v H:Value} {W:World} (h:Tn D X v W) (R:Tn D' X' H W) (M:Few D) (I:Few X):
  Calls Tryz.prog 14 #[v,H] W fun e w'=>e = .returned (.bool (decide (D=D'/\X=X')))/\Bw W w':=by
 obtain ⟨p,n,c,p2,n2,c2,rfl,J,Z⟩:=h;obtain ⟨p',n',c',V,L,O,rfl,A,E⟩:=R;exact k_1 _ _ _ _ D X D' X' M I W J Z A E
theorem RowN.riI {w:World} {p:Option Addr} {n c:Nat} {z:Nat->Int} (h:RowN .i64 w p n c z):RI (o_j n z):=fun y A=>bounds_i64 (h.wf y A)
/-- A cell for a tensor, newly made. -/
def NewC (B:Nat) (v:Value) (W:World):Prop:=∃ b,v = .pointer (some ⟨b,0,none⟩)/\W.heap[b]?=some (.cells #[.slice none 0 0,.slice none 0 0] 50 (0,0))/\B<=b
theorem a_k {W:World} {b:Nat} {o:Obj} (h:W.heap[b]?=some o):b < W.heap.size:=by
 rcases Nat.lt_or_ge b W.heap.size with A|A
 ·exact A
 ·rw [Array.getElem?_eq_none A] at h;cases h
theorem NewC.up {B:Nat} {v:Value} {W W':World} (h:NewC B v W) (H:Bw W W'):NewC B v W':=by
 obtain ⟨b,e,A,E⟩:=h;exact ⟨b,e,by rw [H.block b (a_k A)];exact A,E⟩
theorem c_x {W:World} {b:Nat} {s t:Value} {e:TypeId} (h:W.heap[b]?=some (.cells #[s,t] e (0,0))):Cel W b s t:=by
 refine ⟨?_,?_,?_,?_⟩
 ·unfold cell?;simp [h]
 ·unfold cell?;simp [h]
 ·unfold frozen?;simp [h]
 ·unfold frozen?;simp [h]
theorem OwnK.off_type {k:IntKind} {e J:TypeId} {W:World} {B b:Nat} {v:Value} {l:List Int} {L:Array Value} {R:Nat×Nat} (h:OwnK k e W B v l) (hb:W.heap[b]?=some (.cells L J R)) (H:e≠J):Off b v:=by
 intro ad n c A;rcases h.2 with ⟨E,_⟩|⟨q,O,M,E,Z,V,_⟩
 ·rw [E] at A;cases A
 ·rw [E] at A;cases A;intro I;have I:=I;subst I;rw [V] at hb
  injection hb with hb
  injection hb with _ h5 _
  exact H h5
/-- A tensor's copy. -/
def OwnT (B:Nat) (D X:List Int) (v:Value) (W:World):Prop:=∃ p n c p2 n2 c2,v = .agg #[.slice p n c,.slice p2 n2 c2]/\OwnK .i64 3 W B (.slice p n c) D/\OwnK .i64 48 W B (.slice p2 n2 c2) X
theorem OwnT.up {B:Nat} {D X:List Int} {v:Value} {W W':World} (h:OwnT B D X v W) (A:Bw W W'):OwnT B D X v W':=by
 obtain ⟨p,n,c,L,J,I,e,E,H⟩:=h;exact ⟨p,n,c,L,J,I,e,E.up A,H.up A⟩
/-- A literal's row. -/
def LitN (l:List Int) (v:Value) (W:World):Prop:=∃ g,v = .slice (some ⟨g,0,none⟩) l.length l.length/\Nums .i64 W v l
theorem LitN.up {l:List Int} {v:Value} {W W':World} (h:LitN l v W) (E:Bw W W'):LitN l v W':=by
 obtain ⟨g,e,A⟩:=h;exact ⟨g,e,A.up E⟩
/-- A tensor's two literals. -/
def TupP (B:Nat) (D X:List Int) (E:Int) (v:Value) (W:World):Prop:=∃ u,v = .tuple #[u,.int .i64 E]/\OwnT B D X u W
theorem TupP.up {B:Nat} {D X:List Int} {E:Int} {v:Value} {W W':World} (h:TupP B D X E v W) (H:Bw W W'):TupP B D X E v W':=by
 obtain ⟨u,e,A⟩:=h;exact ⟨u,e,A.up H⟩
theorem TRes.own {W:World} {B:Nat} {v:Value} {D X:List Int} (h:TRes W B v D X):OwnT B D X v W:=by
 obtain ⟨s,t,rfl,A,E⟩:=h;obtain ⟨p,n,c,rfl,_⟩:=A.nums.lst;obtain ⟨I,J,H,rfl,_⟩:=E.nums.lst;exact ⟨p,n,c,I,J,H,rfl,A,E⟩
/-- A slice has room for what it holds. -/
theorem OwnK.cap {k:IntKind} {e:TypeId} {W:World} {B n c:Nat} {p:Option Addr} {l:List Int} (h:OwnK k e W B (.slice p n c) l):n<=c:=by
 rcases h.2 with ⟨A,_⟩|⟨q,H,E,A,L,J,I,_⟩
 ·cases A;exact Nat.le_refl _
 ·cases A;exact I
theorem OwnK.obj {k:IntKind} {e:TypeId} {W:World} {B g n c:Nat} {l:List Int} (h:OwnK k e W B (.slice (some ⟨g,0,none⟩) n c) l):∃ E J,W.heap[g]?=some (.cells E e J):=by
 rcases h.2 with ⟨A,_⟩|⟨q,I,H,A,M,L,_⟩
 ·cases A
 ·cases A;exact ⟨_,_,L⟩
theorem t_j {A E:Nat}:goodN (ntl [(A:Int),(E:Int)])↔1<=A/\1<=E/\A*E<=4096:=by
 have H:ntl [(A:Int),(E:Int)] = [A,E]:=a_n [A,E];rw [H];constructor
 ·intro h;exact ⟨h.2.1 _ (by simp),h.2.1 _ (by simp),by have:=h.2.2;simpa [a_f] using this⟩
 ·rintro ⟨a,b,c⟩;exact ⟨by simp,fun y I=>by simp at I;omega,by simpa [a_f] using c⟩
theorem g_N {a b:Nat} (E:a<=4096) (hb:b<=4096):RI [(a:Int),(b:Int)]:=fun q A=>by
 simp at A;omega
theorem d_C {a b:Nat} (h:a*b<=4096) (A:1<=a) (hb:1<=b):a<=4096/\b<=4096:=⟨by have:=mul_le_mul_left a hb;omega,by have:=mul_le_mul_right b A;omega⟩
theorem h_m {l:List Int} (h:(l.all fun y=>decide (-9223372036854775808<=y/\y<=9223372036854775807))=true):RI l:=fun y A=>by
 have:=all_eq_true.1 h y A;simpa using this
theorem b_G {d x:List Int} (h:isP d x) (J:d.length=2):∃ A E:Nat,d = [(A:Int),(E:Int)]/\x.length=A*E/\1<=A/\1<=E/\A*E<=4096:=by
 obtain ⟨a,H,rfl⟩:=b_u h.1;have I:=h.2;rw [a_n] at I;rw [a_p] at J
 match a,J with
 | [A,E],_=>
  have e:a_f [A,E]=A*E:=by simp [a_f]
  rw [e] at I;refine ⟨A,E,rfl,I,H.2.1 _ (by simp),H.2.1 _ (by simp),?_⟩;have:=H.2.2;rw [e] at this;exact this
theorem e_l {d x:List Int} (h:isP d x) (L:d.length=3):∃ A H E:Nat,d = [(A:Int),(H:Int),(E:Int)]/\x.length=A*H*E/\1<=A/\1<=H/\1<=E/\A*H*E<=4096:=by
 obtain ⟨a,I,rfl⟩:=b_u h.1;have J:=h.2;rw [a_n] at J;rw [a_p] at L
 match a,L with
 | [A,H,E],_=>
  have e:a_f [A,H,E]=A*H*E:=by simp [a_f,Nat.mul_assoc]
  rw [e] at J;refine ⟨A,H,E,rfl,J,I.2.1 _ (by simp),I.2.1 _ (by simp),I.2.1 _ (by simp),?_⟩;have:=I.2.2;rw [e] at this;exact this
theorem c_9 (a b:Nat):a_f (ntl [(a:Int),(b:Int)])=a*b:=by rw [show ntl [(a:Int),(b:Int)] = [a,b] from a_n [a,b]];simp [a_f]
end Go.Proofs.YtkfpainpomobfaaGreatDoor.Wd
namespace Go.Proofs.YtkfpainpomobfaaGreatDoor.Wd
open Go.RowKit Fx List World Nat
/-- Blocks of other types than these stand. -/
def Only (S:List TypeId) (W W':World):Prop:=W.heap.size<=W'.heap.size/\∀ k,k < W.heap.size->(∀ cs e fz,W.heap[k]?=some (.cells cs e fz)->e∉S)->W'.heap[k]?=W.heap[k]?
theorem Only.refl (S:List TypeId) (W:World):Only S W W:=⟨Nat.le_refl _,fun _ _ _=>rfl⟩
theorem Only.trans {S:List TypeId} {a b c:World} (h:Only S a b) (A:Only S b c):Only S a c:=⟨Nat.le_trans h.1 A.1,fun k E hp=>by
 have e:=h.2 k E hp;rw [A.2 k (Nat.lt_of_lt_of_le E h.1) (by rw [e];exact hp),e]⟩
theorem Only.of {S:List TypeId} {a b:World} (h:Bw a b):Only S a b:=⟨h.size,fun k A _=>h.block k A⟩
theorem Only.more {S A:List TypeId} {a b:World} (h:Only S a b) (E:∀ e,e∈S->e∈A):Only A a b:=⟨h.1,fun k L hp=>h.2 k L fun J e H he I=>hp J e H he (E e I)⟩
theorem Only.keep {S:List TypeId} {a b:World} (h:Only S a b) {k:Nat} {H:Array Value} {e:TypeId} {E:Nat×Nat} (A:a.heap[k]?=some (.cells H e E)) (he:e∉S):b.heap[k]?=some (.cells H e E):=by
 rw [h.2 k (a_k A) (fun L M J I=>by rw [A] at I;cases I;exact he)];exact A
theorem Only.grown {S:List TypeId} {a b:World} {A:Option Nat} (h:a.grownBy b A) (J:∀ k,A=some k->∃ H e E,a.heap[k]?=some (.cells H e E)/\e∈S):Only S a b:=⟨h.size,fun k L hp=>h.block k L fun e=>by
 obtain ⟨H,O,E,I,M⟩:=J k e.symm;exact hp H O E I M⟩
theorem a_1 (W:World) (b o:Nat) (x:Value) (k:Nat) (h:k≠b):(W.setCell ⟨b,o,none⟩ x).heap[k]?=W.heap[k]?:=by
 unfold setCell;simp [Array.getElem?_modify,Ne.symm h]
theorem a_l {W:World} {b o:Nat} {x:Value} {E:Array Value} {e:TypeId} {A:Nat×Nat} (h:W.heap[b]?=some (.cells E e A)):(W.setCell ⟨b,o,none⟩ x).heap[b]?=some (.cells (E.setIfInBounds o x) e A):=by
 unfold setCell;simp [Array.getElem?_modify,h]
theorem Only.set {S:List TypeId} {W:World} {b o:Nat} {x:Value} {H:Array Value} {e:TypeId} {E:Nat×Nat} (h:W.heap[b]?=some (.cells H e E)) (he:e∈S):Only S W (W.setCell ⟨b,o,none⟩ x):=⟨by simp,fun k I hp=>a_1 W b o x k fun A=>by
 subst A;exact hp H e E h he⟩
theorem OwnK.only {k:IntKind} {e:TypeId} {S:List TypeId} {W W':World} {B:Nat} {v:Value} {l:List Int} (h:OwnK k e W B v l) (L:Only S W W') (he:e∉S):OwnK k e W' B v l:=by
 refine ⟨h.1,?_⟩;rcases h.2 with J|⟨g,E,A,H,hb,I,rest⟩
 ·exact .inl J
 ·exact .inr ⟨g,E,A,H,hb,L.keep I he,rest⟩
/-- A node, as the document has it. -/
structure Nd where
 op:Int
 a:Int
 b:Int
 k:Int
 D:List Int
 X:List Int
/-- A node's six cells. -/
def NdC (W:World) (B:Nat) (nd:Nd) (u:List Value):Prop:=∃ s t,u = [.int .i64 nd.op,.int .i64 nd.a,.int .i64 nd.b,.int .i64 nd.k,s,t]/\OwnK .i64 3 W B s nd.D/\OwnK .i64 48 W B t nd.X
def NdsC (W:World) (B:Nat) (ns:List Nd) (xs:List Value):Prop:=xs.length=ns.length*6/\∀ i nd,ns[i]?=some nd->NdC W B nd ((xs.drop (i*6)).take 6)
theorem NdC.only {S:List TypeId} {W W':World} {B:Nat} {nd:Nd} {u:List Value} (h:NdC W B nd u) (A:Only S W W') (H:3∉S) (I:48∉S):NdC W' B nd u:=by
 obtain ⟨s,t,e,E,J⟩:=h;exact ⟨s,t,e,E.only A H,J.only A I⟩
theorem NdsC.only {S:List TypeId} {W W':World} {B:Nat} {ns:List Nd} {A:List Value} (h:NdsC W B ns A) (I:Only S W W') (H:3∉S) (J:48∉S):NdsC W' B ns A:=⟨h.1,fun i nd E=>(h.2 i nd E).only I H J⟩
theorem NdC.len {W:World} {B:Nat} {nd:Nd} {u:List Value} (h:NdC W B nd u):u.length=6:=by
 obtain ⟨s,t,rfl,_⟩:=h;rfl
theorem NdC.one {W:World} {B:Nat} {nd:Nd} {u:List Value} (h:NdC W B nd u):∀ x∈u,x.oneCell'=true:=by
 obtain ⟨s,t,rfl,E,H⟩:=h;obtain ⟨_,_,_,rfl,_⟩:=E.nums.lst;obtain ⟨_,_,_,rfl,_⟩:=H.nums.lst;intro x A;simp only [mem_cons,not_mem_nil,or_false] at A;rcases A with rfl|rfl|rfl|rfl|rfl|rfl <;> rfl
theorem NdsC.push {W:World} {B:Nat} {ns:List Nd} {J:List Value} {nd:Nd} {u:List Value} (h:NdsC W B ns J) (I:NdC W B nd u):NdsC W B (ns++[nd]) (J++u):=by
 have L:=I.len;refine ⟨by rw [length_append,length_append,h.1,L];simp;omega,fun i x A=>?_⟩;by_cases E:i < ns.length
 ·rw [getElem?_append_left E] at A;have:=h.2 i x A;rw [drop_append_of_le_length (by rw [h.1];omega),take_append_of_le_length (by rw [length_drop,h.1];omega)];exact this
 ·rw [getElem?_append_right (by omega)] at A
  obtain H:i=ns.length:=by
   rcases Nat.eq_or_lt_of_le (Nat.le_of_not_lt E) with e|e
   ·exact e.symm
   ·rw [getElem?_eq_none (by simp;omega)] at A;cases A
  subst H;rw [Nat.sub_self] at A;cases A;rw [<- h.1,drop_left,take_of_length_le (by omega)];exact I
theorem NdsC.nil (W:World) (B:Nat):NdsC W B [] []:=⟨rfl,fun i nd h=>by simp at h⟩
/-- A tape: a block with one cell, the row of its nodes. -/
def Tap (TT NT:TypeId) (W:World) (B b:Nat) (ns:List Nd):Prop:=B<=b/\∃ v xs,W.heap[b]?=some (.cells #[v] TT (0,0))/\W.ownsRow B NT 6 v ns.length xs/\NdsC W B ns xs
theorem a_z {S:List TypeId} {W W':World} {B n s:Nat} {e:TypeId} {v:Value} {H:List Value} (h:W.ownsRow B e s v n H) (M:Only S W W') (he:e∉S):W'.ownsRow B e s v n H:=by
 refine ⟨h.1,?_⟩;rcases h.2 with L|⟨g,E,A,I,hb,J,rest⟩
 ·exact .inl L
 ·exact .inr ⟨g,E,A,I,hb,M.keep J he,rest⟩
theorem Tap.only {TT NT:TypeId} {S:List TypeId} {W W':World} {B b:Nat} {ns:List Nd} (h:Tap TT NT W B b ns) (A:Only S W W') (I:TT∉S) (M:NT∉S) (L:3∉S) (O:48∉S):Tap TT NT W' B b ns:=by
 obtain ⟨hb,v,R,H,E,J⟩:=h;exact ⟨hb,v,R,A.keep H I,a_z E A M,J.only A L O⟩
theorem Tap.up {TT NT:TypeId} {W W':World} {B b:Nat} {ns:List Nd} (h:Tap TT NT W B b ns) (A:Bw W W'):Tap TT NT W' B b ns:=h.only (S:=[]) (Only.of A) (by simp) (by simp) (by simp) (by simp)
theorem Tap.new {TT NT:TypeId} {W:World} {B:Nat} (A:B<=W.heap.size):Tap TT NT (W.alloc (.cells #[.slice none 0 0] TT)) B W.heap.size []:=
 ⟨A,_,[],heap_alloc_new W _,ownsRow_nil _ _ _ _,NdsC.nil _ _⟩
theorem b_U {TT NT:TypeId} (A:NT≠TT) {W:World} {B b n s:Nat} {v H:Value} {L:List Value} (hb:W.heap[b]?=some (.cells #[H] TT (0,0))) (h:W.ownsRow B NT s v n L):v.ownBlock≠some b:=by
 rcases h.2 with ⟨rfl,_⟩|⟨g,J,I,rfl,_,E,_⟩
 ·simp [Value.ownBlock]
 ·intro e;simp [Value.ownBlock] at e;subst e;rw [hb] at E;cases E;exact A rfl
/-- A node more: the row was made longer, then the tape's cell was written. -/
theorem Tap.push {TT NT:TypeId} (H:NT≠TT) (Z:3∉[TT,NT]) (n2:48∉[TT,NT]) {W W':World} {B b:Nat} {ns:List Nd} {v E:Value} {J u:List Value} {nd:Nd} (hB:B<=b)
  (O:W.heap[b]?=some (.cells #[v] TT (0,0))) (V:W.ownsRow B NT 6 v ns.length J) (hn:NdsC W B ns J) (hu:NdC W B nd u) (hg:W.grownBy W' v.ownBlock) (L:W'.ownsRow B NT 6 E (ns.length+1) (J++u)):
  Tap TT NT (W'.setCell ⟨b,0,none⟩ E) B b (ns++[nd])/\Only [TT,NT] W (W'.setCell ⟨b,0,none⟩ E):=by
 have I:∀ k,v.ownBlock=some k->∃ cs e fz,W.heap[k]?=some (.cells cs e fz)/\e∈[TT,NT]:=fun k R=>by
  rcases V.2 with ⟨rfl,_⟩|⟨g,aa,ab,rfl,_,M,_⟩
  ·simp [Value.ownBlock] at R
  ·simp [Value.ownBlock] at R;subst R;exact ⟨_,_,_,M,by simp⟩
 have o1:Only [TT,NT] W W':=Only.grown hg I
 have A:W'.heap[b]?=some (.cells #[v] TT (0,0)):=by
  rw [hg.block b (a_k O) (Ne.symm (b_U H O V))];exact O
 have o2:Only [TT,NT] W' (W'.setCell ⟨b,0,none⟩ E):=Only.set A (by simp);have o3:Only [TT] W' (W'.setCell ⟨b,0,none⟩ E):=Only.set A (by simp);refine ⟨⟨hB,E,J++u,?_,?_,?_⟩,o1.trans o2⟩
 ·rw [a_l A];rfl
 ·rw [length_append];exact a_z L o3 (by simp;exact H)
 ·exact ((hn.push hu).only o1 Z n2).only o2 Z n2
/-- What a walk reads of a tape. -/
theorem Tap.head {TT NT:TypeId} {W:World} {B b:Nat} {ns:List Nd} (h:Tap TT NT W B b ns):∃ p c A,W.heap[b]?=some (.cells #[.slice p ns.length c] TT (0,0))/\W.ownsRow B NT 6 (.slice p ns.length c) ns.length A/\NdsC W B ns A/\ns.length<=c:=by
 obtain ⟨hb,v,A,I,E,J⟩:=h;rcases E.2 with ⟨rfl,L⟩|⟨g,O,M,rfl,V,Z,R,rest⟩
 ·rw [L] at E;have H:ns = []:=eq_nil_of_length_eq_zero L;subst H;exact ⟨none,0,A,I,E,J,Nat.le_refl _⟩
 ·exact ⟨_,_,A,I,E,J,R⟩
theorem a_P {W:World} {b:Nat} {v:Value} {e:TypeId} (h:W.heap[b]?=some (.cells #[v] e (0,0))):W.cell? ⟨b,0,none⟩=some v/\W.frozen? ⟨b,0,none⟩=false:=by
 unfold cell? frozen?;simp [h]
/-- A node's cells, one by one. -/
theorem b_x {NT:TypeId} {W:World} {B:Nat} {ns:List Nd} {p:Option Addr} {c n:Nat} {H:List Value} (J:W.ownsRow B NT 6 (.slice p n c) n H) (O:NdsC W B ns H) (hl:ns.length=n) (i:Nat) (hi:i < n):
  ∃ q nd s t,p=some ⟨q,0,none⟩/\ns[i]?=some nd/\W.cell? ⟨q,i*6,none⟩=some (.int .i64 nd.op)/\W.cell? ⟨q,i*6+1,none⟩=some (.int .i64 nd.a)/\W.cell? ⟨q,i*6+2,none⟩=some (.int .i64 nd.b)/\W.cell? ⟨q,i*6+3,none⟩=some (.int .i64 nd.k)/\W.cell? ⟨q,i*6+4,none⟩=some s/\W.cell? ⟨q,i*6+5,none⟩=some t
   /\ OwnK .i64 3 W B s nd.D/\OwnK .i64 48 W B t nd.X:=by
 have I:ns[i]?=some (ns[i]'(by omega)):=getElem?_eq_getElem _;obtain ⟨s,t,e,M,V⟩:=O.2 i _ I
 have A:∀ j u,((H.drop (i*6)).take 6)[j]?=some u->H[i*6+j]?=some u:=fun j u h=>by
  rw [getElem?_take] at h
  split at h
  ·rw [getElem?_drop] at h;exact h
  ·cases h
 rw [e] at A;rcases J.2 with ⟨h0,h1⟩|⟨g,L,Z,R,hb,hg,rest⟩
 ·omega
 ·cases R
  have E:∀ j u,H[j]?=some u->W.cell? ⟨g,j,none⟩=some u:=fun j u h=>by
   have:=J.cells (g:=g) rfl j u h;rw [a_r,Nat.zero_add] at this;exact this
  exact ⟨g,_,s,t,rfl,I,E _ _ (A 0 _ rfl),E _ _ (A 1 _ rfl),E _ _ (A 2 _ rfl),E _ _ (A 3 _ rfl),E _ _ (A 4 _ rfl),E _ _ (A 5 _ rfl),M,V⟩
/-- A slice's type whose elements are nodes. -/
structure StT (P:Program) (t e:TypeId) (b:Nat):Prop where
 ht:P.underlying t=some (.slice e)
 hi:(P.info? e).map (fun i=>(i.zero.map fun z=>z.cells.size,i.size,i.bytes))=some (some 6,6,b)
/-- append of one node that a literal holds. -/
theorem u_x {P:Program} {t e:TypeId} {b:Nat} (T:StT P t e b) (hb:b<=128) (R:TypeId) (W:World) (B:Nat) (v:Value) (n:Nat) (M:List Value) (ho:W.ownsRow B e 6 v n M) (g:Nat) (u:List Value) (hg:W.heap[g]?=some (.cells u.toArray e (0,0))) (hu:u.length=6) (V:∀ x∈u,x.oneCell'=true) (hn:n+1<=1073741824) (Z:B<=W.heap.size):
  ∃ L A J,(Builtin.append_ #[t,t] R #[v,.slice (some ⟨g,0,none⟩) 1 1]).run P W = .ok (.slice (some ⟨L,0,none⟩) (n+1) A) J/\J.ownsRow B e 6 (.slice (some ⟨L,0,none⟩) (n+1) A) (n+1) (M++u)/\W.grownBy J v.ownBlock:=by
 have H:=T.hi;cases h:P.info? e with
 | none=>rw [h] at H;cases H
 | some i=>
  rw [h] at H;simp only [Option.map_some,Option.some.injEq,Prod.mk.injEq] at H;obtain ⟨I,hs,O⟩:=H;cases E:i.zero with
  | none=>rw [E] at I;cases I
  | some z=>
   rw [E] at I;simp only [Option.map_some,Option.some.injEq] at I;have hm:(n+1)*b<=1073741824*128:=Nat.mul_le_mul hn hb
   obtain ⟨L,A,J,hr,h2,h3,_,_⟩:=run_append_lies (P:=P) W t R B e i z 6 b T.ht h E hs O I (by decide) v n M ho ⟨g,0,none⟩ 1 1 u (by omega) (fun j x hj=>by
    rw [a_r,Nat.zero_add];unfold cell?;simpa [hg] using hj) V (by omega) (by unfold maxLen;omega) (by omega) Z _ rfl
   exact ⟨L,A,J,hr,h2,h3⟩
/-- A literal's block of one node. -/
def LitS (e:TypeId) (B:Nat) (u:List Value) (v:Value) (W:World):Prop:=∃ g,v = .slice (some ⟨g,0,none⟩) 1 1/\W.heap[g]?=some (.cells u.toArray e (0,0))/\B<=g
theorem LitS.up {e:TypeId} {B:Nat} {u:List Value} {v:Value} {W W':World} (h:LitS e B u v W) (I:Bw W W'):LitS e B u v W':=by
 obtain ⟨g,E,A,H⟩:=h;exact ⟨g,E,by rw [I.block g (a_k A)];exact A,H⟩
theorem LitS.grown {e:TypeId} {B:Nat} {u:List Value} {v:Value} {W W':World} {r:Option Nat} (h:LitS e B u v W) (J:W.grownBy W' r) (E:∀ k,r=some k->k < B):LitS e B u v W':=by
 obtain ⟨g,H,A,I⟩:=h;refine ⟨g,H,?_,I⟩;rw [J.block g (a_k A) (fun e=>by have:=E g e.symm;omega)];exact A
/-- A row of nodes of one's own. -/
def OwnN (e:TypeId) (B n:Nat) (xs:List Value) (v:Value) (W:World):Prop:=W.ownsRow B e 6 v n xs
theorem OwnN.up {e:TypeId} {B n:Nat} {A:List Value} {v:Value} {W W':World} (h:OwnN e B n A v W) (E:Bw W W'):OwnN e B n A v W':=a_z (S:=[]) h (Only.of E) (by simp)
theorem d_U {a b c:World} {r:Option Nat} (h:a.grownBy b r) (A:Bw b c):a.grownBy c r:=⟨A.os.trans h.os,A.tape.trans h.tape,A.output.trans h.output,Nat.le_trans h.size A.size,fun k E H=>(A.block k (Nat.lt_of_lt_of_le E h.size)).trans (h.block k E H)⟩
theorem a_B {a b:World} (r:Option Nat) (h:Bw a b):a.grownBy b r:=⟨h.os,h.tape,h.output,h.size,fun k A _=>h.block k A⟩
theorem b_2 {a b c:World} {r:Option Nat} (h:a.grownBy b r) (A:b.grownBy c r):a.grownBy c r:=⟨A.os.trans h.os,A.tape.trans h.tape,A.output.trans h.output,Nat.le_trans h.size A.size,fun k H E=>(A.block k (Nat.lt_of_lt_of_le H h.size) E).trans (h.block k H E)⟩
end Go.Proofs.YtkfpainpomobfaaGreatDoor.Wd
namespace Go.Proofs.YtkfpainpomobfaaGreatDoor.Wd
open Go.RowKit List World Nat
/-- A slice of layers. -/
def LyR (L:TypeId) (W:World) (p:Option Addr) (n:Nat) (ls:List Ly):Prop:=ls.length=n/\∀ i,i < n->∃ q o,p=some ⟨q,o,none⟩/\W.cell? ⟨q,o+i*3,none⟩=some (.string (lyA ls i).1)/\W.cell? ⟨q,o+i*3+1,none⟩=some (.int .i64 (lyA ls i).2.1)/\W.cell? ⟨q,o+i*3+2,none⟩=some (.int .i64 (lyA ls i).2.2)
theorem LyR.up {L:TypeId} {W W':World} {p:Option Addr} {n:Nat} {ls:List Ly} (h:LyR L W p n ls) (A:Bw W W'):LyR L W' p n ls:=⟨h.1,fun i E=>by
 obtain ⟨q,o,e,H,J,I⟩:=h.2 i E;exact ⟨q,o,e,a_g A H,a_g A J,a_g A I⟩⟩
def Kz (w:World):Prop:=∀ i,i < 5->w.cell? ⟨0,i*4,none⟩=some (.string (b_N i))/\w.cell? ⟨0,i*4+1,none⟩=some (.int .i64 (b_Z i))/\w.cell? ⟨0,i*4+2,none⟩=some (.int .i64 (c_h i))/\w.cell? ⟨0,i*4+3,none⟩=some (.int .i64 (c_R i))
theorem Hid.up_kz {w A:World} (h:Hid (Kz w)) (hb:Bw w A):Hid (Kz A):=fun i E=>by
 obtain ⟨I,J,H,L⟩:=h.out i E;exact ⟨a_g hb I,a_g hb J,a_g hb H,a_g hb L⟩
theorem i_4 (r:Int) (w:World):Calls Tryz.prog 52 #[.int .i32 r] w fun e O=>e = .returned (.bool (r==32 || r==9 || r==10))/\O=w:=by
 obtain ⟨z,A⟩:∃ z,(r==32 || r==9 || r==10)=z:=⟨_,rfl⟩
 have E:Hid ((r==32 || r==9 || r==10)=z):=A;rw [A];clear A;go_enter Tryz.func52,Tryz.ntmps52;by_cases H:r=32
 ·subst H;go_wp2;go_ret;exact ⟨by rw [<- E.out];rfl,rfl⟩
 have L:(r==32)=false:=by simpa using H
 by_cases I:r=9
 ·subst I;go_wp2;go_ret;exact ⟨by rw [<- E.out];rfl,rfl⟩
 have M:(r==9)=false:=by simpa using I
 have J:Hid ((r==32)=false/\(r==9)=false):=⟨L,M⟩
 go_wp2;go_ret;exact ⟨by rw [<- E.out,J.1,J.2];rfl,rfl⟩
theorem e_9 (v t:Int) (w:World):Calls Tryz.prog 85 #[.int .i64 v,.int .i64 t] w fun e L=>e = .returned (.bool (decide (1<=v/\v<=t)))/\L=w:=by
 obtain ⟨z,A⟩:∃ z,decide (1<=v/\v<=t)=z:=⟨_,rfl⟩
 have E:Hid (decide (1<=v/\v<=t)=z):=A;rw [A];clear A;go_enter Tryz.func85,Tryz.ntmps85;by_cases H:1<=v
 ·by_cases I:v<=t
  ·go_wp2;go_ret;exact ⟨by rw [<- E.out,decide_eq_true ⟨H,I⟩];rfl,rfl⟩
  ·have M:t < v:=by omega
   go_wp2;go_ret;exact ⟨by rw [<- E.out,decide_eq_false fun h=>by omega];rfl,rfl⟩
 ·have J:v < 1:=by omega
  go_wp2;go_ret;exact ⟨by rw [<- E.out,decide_eq_false fun h=>by omega];rfl,rfl⟩
theorem g_O (l:List Int) (x:Int):a_o (l++[x])=a_o l*x:=by simp [a_o]
/-- Sides so small that their product can't run over. -/
def k_3 (l:List Int):Prop:=l.length<=4/\∀ k,k<=l.length->-9223372036854775808<=a_o (l.take k)/\a_o (l.take k)<=9223372036854775807
theorem d_D (v:Value) (l:List Int) (M:k_3 l) (w:World) (hv:Nums .i64 w v l):
  Calls Tryz.prog 24 #[v] w fun e w'=>e = .returned (.int .i64 (a_o l))/\w'=w:=by
 obtain ⟨p,n,c,rfl,J⟩:=hv.lst;have HL:Hid (k_3 l):=M;have ab:(n:Int)<=4:=by have:=M.1;rw [J.1] at this;omega
 obtain ⟨r,L⟩:∃ r:Int,a_o l=r:=⟨_,rfl⟩
 have HR:Hid (a_o l=r):=L;rw [L];clear L hv M;go_enter Tryz.func24,Tryz.ntmps24;go_wp2_with fail
 go_loopg [3,8] n (fun gg u v wr=>∃ (k:Nat) (x:Int),k<=n/\gg=n - k/\u = .int .i64 x/\v = .int .i64 (k:Int)/\Hid (x=a_o (l.take k))/\wr=w)
 case atStart=>exact ⟨0,1,by omega,by omega,rfl,rfl,rfl,rfl⟩
 case round=>
  obtain ⟨k,x,hk,hg,rfl,rfl,V,rfl⟩:=hrel;by_cases H:k < n
  ·have aa:(k:Int) < (n:Int):=by omega
   obtain ⟨q,o,rfl,A⟩:=J.2 k H;have E:k < l.length:=by rw [J.1];exact H
   obtain ⟨y,O⟩:∃ y,l.getD k 0=y:=⟨_,rfl⟩
   rw [O] at A
   have I:x*y=a_o (l.take (k+1)):=by
    rw [take_add_one,getElem?_eq_getElem E,Option.toList_some,g_O,V.out,<- O,getD_eq_getElem?_getD,getElem?_eq_getElem E];rfl
   have R:=HL.2 (k+1) (by omega);rw [<- I] at R;obtain ⟨m,Z⟩:∃ m,x*y=m:=⟨_,rfl⟩
   rw [Z] at R I;have Hn:Hid (m=a_o (l.take (k+1))):=I;clear O E I;go_wp2;go_roundg (n - (k+1))
   case measure=>omega
   case rel=>exact ⟨k+1,m,by omega,rfl,by first|rfl|simp [Z],by first|rfl|simp,Hn,rfl⟩
  ·obtain rfl:k=n:=by omega
   go_wp2;go_ret;rw [<- HR.out,V.out,take_of_length_le (by rw [J.1];exact Nat.le_refl _)];exact ⟨rfl,rfl⟩
theorem o_H (v:Value) (l:List Int) (J:k_3 l) (w:World) (A:Nums .i64 w v l):
  Calls Tryz.prog 60 #[v] w fun e I=>e = .returned (.bool (decide (4096 < a_o l)))/\I=w:=by
 have E:=d_D v l J w A;obtain ⟨r,H⟩:∃ r:Int,a_o l=r:=⟨_,rfl⟩
 rw [H] at E ⊢;clear H A;go_enter Tryz.func60,Tryz.ntmps60;go_wp2_with fail
 refine E.mono ?_;rintro e L ⟨rfl,rfl⟩;go_wp2;go_ret;exact ⟨rfl,rfl⟩
theorem InOk.smal {d:List Int} (h:InOk d):k_3 d:=by
 refine ⟨by rcases h with ⟨x,rfl,h⟩|⟨x,y,rfl,A,H⟩ <;> simp,fun k E=>?_⟩;rcases h with ⟨x,rfl,h⟩|⟨x,y,rfl,A,H⟩
 ·rcases (show k=0∨k=1 by simp at E;omega) with rfl|rfl <;> simp [a_o] <;> omega
 ·have:=a_S A H;rcases (show k=0∨k=1∨k=2 by simp at E;omega) with rfl|rfl|rfl <;> simp [a_o] <;> omega
theorem m_e (s:ByteArray) (k:Nat) (A:k < 5) (h:b_N k=s):a_m s=k:=by
 subst h;rcases (show k=0∨k=1∨k=2∨k=3∨k=4 by omega) with rfl|rfl|rfl|rfl|rfl <;> decide +kernel
theorem q_P (s:ByteArray) (h:∀ k,k < 5->b_N k≠s):a_m s=5:=by
 rcases c_Q s with ⟨e,_⟩|⟨e,_⟩|⟨e,_⟩|⟨e,_⟩|⟨e,_⟩|⟨_,e⟩
 ·exact absurd e.symm (h 0 (by omega))
 ·exact absurd e.symm (h 1 (by omega))
 ·exact absurd e.symm (h 2 (by omega))
 ·exact absurd e.symm (h 3 (by omega))
 ·exact absurd e.symm (h 4 (by omega))
 ·exact e
def kArr:Array Value:=#[.string (b_N 0),.int .i64 (b_Z 0:Nat),.int .i64 (c_h 0),.int .i64 (c_R 0),.string (b_N 1),.int .i64 (b_Z 1:Nat),.int .i64 (c_h 1),.int .i64 (c_R 1),.string (b_N 2),.int .i64 (b_Z 2:Nat),.int .i64 (c_h 2),.int .i64 (c_R 2),.string (b_N 3),.int .i64 (b_Z 3:Nat),.int .i64 (c_h 3),.int .i64 (c_R 3),.string (b_N 4),.int .i64 (b_Z 4:Nat),.int .i64 (c_h 4),.int .i64 (c_R 4)]
theorem o_I {w:World} (h:Kz w):w.rangeAt 0 0 kArr.toList:=by
 intro j v A;have R:j < 20:=(List.getElem?_eq_some_iff.1 A).1;rw [Nat.zero_add];have I:∃ i,i < 5/\(j=i*4∨j=i*4+1∨j=i*4+2∨j=i*4+3):=⟨j / 4,by omega,by omega⟩
 obtain ⟨i,H,E⟩:=I;obtain ⟨O,J,M,L⟩:=h i H;rcases (show i=0∨i=1∨i=2∨i=3∨i=4 by omega) with rfl|rfl|rfl|rfl|rfl <;> rcases E with rfl|rfl|rfl|rfl <;> first|exact O.trans A|exact J.trans A|exact M.trans A|exact L.trans A
theorem m_f {x y:ByteArray} (h:x≠y):(x.toList==y.toList)=false:=(Lib.bytes_beq_false_iff x y).2 h
theorem q_Q (k:Nat) (A:k < 5):∀ W,(Instr.index 140 (.agg kArr) (.int .i64 (k:Int))).run Tryz.prog W = .ok (.agg #[.string (b_N k),.int .i64 (b_Z k:Nat),.int .i64 (c_h k),.int .i64 (c_R k)]) W:=by
 intro W;rcases (show k=0∨k=1∨k=2∨k=3∨k=4 by omega) with rfl|rfl|rfl|rfl|rfl <;> kernel_rfl
theorem j_Y {W U:World} {b:Nat} {t:TypeId} {L R V O J I E H:Value} (h:W.heap[b]?=some (.cells #[L,R,V,O] t (0,0))) (e:(((W.setCell ⟨b,0,none⟩ J).setCell ⟨b,1,none⟩ I).setCell ⟨b,2,none⟩ E).setCell ⟨b,3,none⟩ H=U):
  U.cell? ⟨b,0,none⟩=some J/\U.cell? ⟨b,1,none⟩=some I/\U.cell? ⟨b,2,none⟩=some E/\U.cell? ⟨b,3,none⟩=some H/\∀ w,Below b w W->Below b w U:=by
 have A:U.heap[b]?=some (.cells #[J,I,E,H] t (0,0)):=by
  rw [<- e,a_l (a_l (a_l (a_l h)))];rfl
 refine ⟨by simp [cell?,A],by simp [cell?,A],by simp [cell?,A],by simp [cell?,A],fun w M=>?_⟩;rw [<- e];exact (((M.setCell (Nat.le_refl _) _).setCell (Nat.le_refl _) _).setCell (Nat.le_refl _) _).setCell (Nat.le_refl _) _
theorem f_a (s:ByteArray) (w:World) (hK:Hid (Kz w)):
  Calls Tryz.prog 49 #[.string s] w fun e w'=>e = .returned (.tuple #[.agg #[.string (b_N (a_m s)),.int .i64 (b_Z (a_m s)),.int .i64 (c_h (a_m s)),.int .i64 (c_R (a_m s))],.bool (decide (a_m s < 5))])/\Bw w w':=by
 obtain ⟨z,I⟩:∃ z,a_m s=z:=⟨_,rfl⟩
 have HZ:Hid (a_m s=z):=I;obtain ⟨zb,eb⟩:∃ zb,decide (z < 5)=zb:=⟨_,rfl⟩
 have J:Hid (decide (z < 5)=zb):=eb;rw [I,eb];clear I eb;go_enter Tryz.func49,Tryz.ntmps49;have hz:=a_h (hK.out 0 (by omega)).1;have Z:(w.alloc (.cells #[.string ⟨#[]⟩,.int .i64 0,.int .i64 0,.int .i64 0] 110)).rangeAt 0 0 kArr.toList:=o_I (Hid.up_kz hK (a_a w _)).out;have ac:Hid ((w.alloc (.cells #[.string ⟨#[]⟩,.int .i64 0,.int .i64 0,.int .i64 0] 110)).rangeAt 0 0 kArr.toList):=Z;clear Z;obtain ⟨KA,O⟩:∃ KA:Array Value,kArr.toList.toArray=KA:=⟨_,rfl⟩
 have HQ:Hid (kArr=KA):=O;go_wp2_with (refine wpList_load_mid rfl 140 (.global 0) rfl _ 0 rfl _ _ ac.out Tryz.underlying140 rfl (by kernel_rfl) ?_;rw [O];clear O)
 generalize L:alloc _ _=W0;have ag:Hid (Bw w W0):=by rw [<- L];exact a_a w _
 have R:Hid (W0.heap[w.heap.size]?=some (.cells #[.string ⟨#[]⟩,.int .i64 0,.int .i64 0,.int .i64 0] 110 (0,0))/\w.heap.size < W0.heap.size):=by
  show _/\_;rw [<- L];exact ⟨Array.getElem?_push_size,by simp⟩
 clear L ac
 go_loopg [7] 5 (fun gg v wr=>∃ (k:Nat),k<=5/\gg=5 - k/\v = .int .i64 (k:Int)/\Hid (∀ i,i < k->b_N i≠s)/\Hid (Bw W0 wr))
 case atStart=>exact ⟨0,by omega,by omega,rfl,fun i hi=>by omega,Below.refl _ _⟩
 case round=>
  obtain ⟨k,hk,hg,rfl,Hx,HB⟩:=hrel;have H2:=R.1;rw [<- HB.block _ R.2] at H2
  obtain ⟨⟨c0,f0⟩,⟨c1,f1⟩,⟨c2,f2⟩,⟨c3,f3⟩⟩:(wr.cell? ⟨w.heap.size,0,none⟩=some (.string ⟨#[]⟩)/\wr.frozen? ⟨w.heap.size,0,none⟩=false)/\(wr.cell? ⟨w.heap.size,1,none⟩=some (.int .i64 0)/\wr.frozen? ⟨w.heap.size,1,none⟩=false)/\(wr.cell? ⟨w.heap.size,2,none⟩=some (.int .i64 0)/\wr.frozen? ⟨w.heap.size,2,none⟩=false)/\(wr.cell? ⟨w.heap.size,3,none⟩=some (.int .i64 0)/\wr.frozen? ⟨w.heap.size,3,none⟩=false):=by
   simp [cell?,frozen?,H2]
  have ai:=a_h c0;have ab:Hid (Bw w wr):=a_c ag HB;have H3:Hid (wr.heap[w.heap.size]?=some (.cells #[.string ⟨#[]⟩,.int .i64 0,.int .i64 0,.int .i64 0] 110 (0,0))):=H2;clear H2;by_cases h5:k=5
  ·subst h5;have I:=q_P s fun k hk=>Hx.out k hk;rw [HZ.out] at I;subst I;have M:=J.out;subst M;go_wp2;generalize hU:setCell _ _ _=U;obtain ⟨u0,u1,u2,u3,af⟩:=j_Y H3.out hU;exact bodyPost_ret (v:=.tuple #[.agg #[.string ⟨#[]⟩,.int .i64 0,.int .i64 0,.int .i64 0],.bool false]) (by simp [results,Tryz.results49,go_sem,u0,u1,u2,u3]) rfl ⟨rfl,af w ab⟩
  have ad:=q_Q k (by omega);rw [HQ.out] at ad;have aj:(k:Int) < 5:=by omega
  by_cases hs:b_N k=s
  ·subst hs;have I:=m_e _ k (by omega) rfl;have ae:k < 5:=by omega
   rw [HZ.out] at I;subst I;have M:true=zb:=(decide_eq_true ae).symm.trans J.out;subst M;clear HZ J;go_wp2;generalize hV:setCell _ _ _=V;obtain ⟨u0,u1,u2,u3,ah⟩:=j_Y H3.out hV;have aa:=a_h u0;exact bodyPost_ret (v:=.tuple #[.agg #[.string (b_N z),.int .i64 (b_Z z:Nat),.int .i64 (c_h z),.int .i64 (c_R z)],.bool true]) (by simp [results,Tryz.results49,go_sem,u0,u1,u2,u3,aa]) rfl ⟨rfl,(ah w ab).alloc (Nat.le_of_lt aa) _⟩
  ·have ak:=m_f hs
   have Hn:Hid (∀ i,i < k+1->b_N i≠s):=fun i hi=>by
    rcases Nat.lt_succ_iff_lt_or_eq.1 hi with h|rfl
    ·exact Hx.out i h
    ·exact hs
   go_wp2;go_roundg (5 - (k+1))
   case measure=>omega
   case rel=>exact ⟨k+1,by omega,rfl,by first|rfl|simp,Hn,k_U HB _⟩
theorem h_4 {d:List Int} (A:d.length≠1) (E:d.length≠2):e_w d=false:=by
 match d with
 | []=>rfl
 | [x]=>simp at A
 | [x,y]=>simp at E
 | x :: y :: z :: r=>rfl
theorem j_Z (v t:Int) (q:Bool) (A:decide (1<=v/\v<=t)=q) (w:World):Calls Tryz.prog 85 #[.int .i64 v,.int .i64 t] w fun e E=>e = .returned (.bool q)/\E=w:=by
 rw [<- A];exact e_9 v t w
theorem k_4 (v:Value) (d:List Int) (w:World) (Z:Nums .i64 w v d):
  Calls Tryz.prog 55 #[v] w fun e w'=>e = .returned (.bool (e_w d))/\w'=w:=by
 obtain ⟨p,n,c,rfl,E⟩:=Z.lst;obtain ⟨r,J⟩:∃ r:Bool,e_w d=r:=⟨_,rfl⟩
 have I:Hid _:=J;rw [J];clear J Z;go_enter Tryz.func55,Tryz.ntmps55;by_cases O:n=1
 ·subst O;obtain ⟨q,o,rfl,L⟩:=E.2 0 (by omega)
  obtain ⟨x,rfl⟩:∃ x,d = [x]:=by
   have:=E.1
   match d with
   | [x]=>exact ⟨x,rfl⟩
  simp only [getD_cons_zero,Nat.add_zero] at L;go_wp2_with fail
  refine (j_Z _ _ r I.out _).mono ?_;rintro e R ⟨rfl,rfl⟩;go_wp2;go_ret;exact ⟨rfl,rfl⟩
 have g1:((n:Int)==1)=false:=by simpa using (show (n:Int)≠1 by omega)
 by_cases V:n=2
 ·subst V;obtain ⟨q,o,rfl,L⟩:=E.2 0 (by omega);obtain ⟨q',o',e,c1⟩:=E.2 1 (by omega);cases e
  obtain ⟨x,y,rfl⟩:∃ x y,d = [x,y]:=by
   have:=E.1
   match d with
   | [x,y]=>exact ⟨x,y,rfl⟩
  simp only [getD_cons_zero,getD_cons_succ,Nat.add_zero] at L c1;go_wp2_with fail
  refine (e_9 _ _ _).mono ?_;rintro e R ⟨rfl,rfl⟩;by_cases H:1<=x/\x<=64
  ·rw [decide_eq_true H];go_wp2_with fail
   refine (e_9 _ _ _).mono ?_;rintro e R ⟨rfl,rfl⟩;obtain ⟨M,A⟩:∃ M,decide (1<=y/\y<=64)=M:=⟨_,rfl⟩
   have HQ:Hid _:=A;rw [A];clear A;go_wp2;go_ret;refine ⟨?_,rfl⟩;rw [<- I.out];show _=Ending.returned (Value.bool (decide ((1<=x/\x<=64)/\1<=y/\y<=64)));rw [show decide ((1<=x/\x<=64)/\1<=y/\y<=64)=M by rw [<- HQ.out];exact decide_eq_decide.2 ⟨fun h=>h.2,fun h=>⟨H,h⟩⟩];rfl
  ·rw [decide_eq_false H];have HX:Hid _:=H;clear H;go_wp2;go_ret;refine ⟨?_,rfl⟩;rw [<- I.out];show _=Ending.returned (Value.bool (decide ((1<=x/\x<=64)/\1<=y/\y<=64)));rw [decide_eq_false fun h=>HX.out h.1];rfl
 have g2:((n:Int)==2)=false:=by simpa using (show (n:Int)≠2 by omega)
 go_wp2;go_ret;refine ⟨?_,rfl⟩;rw [<- I.out,h_4 (by rw [E.1];exact O) (by rw [E.1];exact V)];rfl
/-- Is one of a layer's two numbers as its kind asks? -/
def chk (kd:Nat) (a b:Int) (k:Nat):Bool:=if k < b_Z kd then decide (1<=(if k=0 then a else b)/\(if k=0 then a else b)<=(if k=0 then c_h kd else c_R kd)) else decide ((if k=0 then a else b)=0)
theorem q_R (l:Ly):decide (a_L l)=(decide (a_m l.1 < 5) && chk (a_m l.1) l.2.1 l.2.2 0 && chk (a_m l.1) l.2.1 l.2.2 1):=by
 unfold chk;rw [Bool.eq_iff_iff];simp only [decide_eq_true_eq,Bool.and_eq_true,if_true,if_neg (show ¬ (1:Nat)=0 by omega)];unfold a_L
 split <;> split <;> simp [and_assoc]
theorem h_n (s:ByteArray) (a b:Int) (w:World) (hK:Hid (Kz w)):
  Calls Tryz.prog 56 #[.agg #[.string s,.int .i64 a,.int .i64 b]] w fun e w'=>e = .returned (.bool (decide (a_L (s,a,b))))/\Bw w w':=by
 obtain ⟨r,er⟩:∃ r:Bool,decide (a_L (s,a,b))=r:=⟨_,rfl⟩
 have HR:Hid ((decide (a_m s < 5) && chk (a_m s) a b 0 && chk (a_m s) a b 1)=r):=(q_R (s,a,b)).symm.trans er;rw [er];clear er;go_enter Tryz.func56,Tryz.ntmps56;go_wp2_with fail
 generalize Z:alloc _ _=W0;have ad:Hid (Bw w W0):=by rw [<- Z];exact a_a w _
 have ab:Hid (W0.cell? ⟨w.heap.size,1,none⟩=some (.int .i64 a)/\W0.cell? ⟨w.heap.size,2,none⟩=some (.int .i64 b)):=by show _/\_;rw [<- Z];simp [go_sem]
 clear Z;refine (f_a s W0 (Hid.up_kz hK ad)).mono ?_;rintro e w1 ⟨rfl,M⟩;obtain ⟨z,ez⟩:∃ z,a_m s=z:=⟨_,rfl⟩
 rw [ez] at HR ⊢;have ag:Hid _:=a_c ad M;have C1:=a_g M ab.1;have C2:=a_g M ab.2;have am:=a_h C1;by_cases h5:z < 5
 case neg=>
  rw [decide_eq_false h5];rw [decide_eq_false h5] at HR;go_wp2;go_ret;rw [<- HR.out];exact ⟨rfl,k_U ag _⟩
 rw [decide_eq_true h5];rw [decide_eq_true h5] at HR;obtain ⟨R,aa⟩:∃ R,b_Z z=R:=⟨_,rfl⟩
 obtain ⟨tA,eA⟩:∃ x,c_h z=x:=⟨_,rfl⟩
 obtain ⟨tB,eB⟩:∃ x,c_R z=x:=⟨_,rfl⟩
 have HZ:Hid (b_Z z=R/\c_h z=tA/\c_R z=tB):=⟨aa,eA,eB⟩
 rw [aa,eA,eB];clear aa eA eB ez M;go_wp2_with fail
 generalize ae:alloc _ _=W2;have ac:Hid (Bw w W2):=by rw [<- ae];exact k_U ag _
 obtain ⟨d1,d2,d3,d4⟩:W2.cell? ⟨w1.heap.size,0,none⟩=some (.string (b_N z))/\W2.cell? ⟨w1.heap.size,1,none⟩=some (.int .i64 (R:Int))/\W2.cell? ⟨w1.heap.size,2,none⟩=some (.int .i64 tA)/\W2.cell? ⟨w1.heap.size,3,none⟩=some (.int .i64 tB):=by rw [<- ae];simp [go_sem]
 clear ae C1 C2 ab ad d1
 go_loopg [20] 2 (fun gg v wr=>∃ (k:Nat),k<=2/\gg=2 - k/\v = .int .i64 (k:Int)/\Hid (∀ i,i < k->chk z a b i=true)/\wr=W2)
 case atStart=>exact ⟨0,by omega,by omega,rfl,fun i hi=>by omega,rfl⟩
 case round=>
  obtain ⟨k,hk,hg,rfl,Hx,rfl⟩:=hrel;rcases (show k=2∨k=0∨k=1 by omega) with rfl|J
  ·go_wp2;go_ret;rw [<- HR.out,Hx.out 0 (by omega),Hx.out 1 (by omega)];exact ⟨rfl,ac⟩
  obtain ⟨x,ex⟩:∃ x,(if k=0 then a else b)=x:=⟨_,rfl⟩
  obtain ⟨t,et⟩:∃ x,(if k=0 then tA else tB)=x:=⟨_,rfl⟩
  have H:Hid (chk z a b k=if k < R then decide (1<=x/\x<=t) else decide (x=0)):=by
   show _=_;unfold chk;rw [HZ.1,HZ.2.1,HZ.2.2,ex,et]
  have ak:∀ W,(Instr.index 108 (.agg #[.int .i64 a,.int .i64 b]) (.int .i64 (k:Int))).run Tryz.prog W = .ok (.int .i64 x) W:=by
   intro W;rcases J with rfl|rfl
   ·rw [if_pos rfl] at ex;subst ex;kernel_rfl
   ·rw [if_neg (by omega)] at ex;subst ex;kernel_rfl
  have dk:wr.cell? ⟨w1.heap.size,2+k,none⟩=some (.int .i64 t):=by
   rcases J with rfl|rfl
   ·rw [if_pos rfl] at et;subst et;exact d3
   ·rw [if_neg (by omega)] at et;subst et;exact d4
  have al:(k:Int) < 2:=by omega
  have I:Hid (chk z a b k=true->∀ i,i < k+1->chk z a b i=true):=fun h i hi=>by
   rcases Nat.lt_succ_iff_lt_or_eq.1 hi with h2|rfl
   ·exact Hx.out i h2
   ·exact h
  have V:Hid (chk z a b k=false->r=false):=fun h=>by
   rw [<- HR.out];rcases J with rfl|rfl <;> simp [h]
  have ai:Hid _:=J;clear ex et d3 d4 J HZ;by_cases hc:k < R
  ·have ah:(k:Int) < (R:Int):=by omega
   rw [if_pos hc] at H;go_wp2_with fail
   obtain ⟨qb,af⟩:∃ qb,decide (1<=x/\x<=t)=qb:=⟨_,rfl⟩
   refine (j_Z _ _ qb af _).mono ?_;rintro e w2 ⟨rfl,rfl⟩;rw [af] at H;clear af;cases qb with
   | false=>
    have er:=V.out H.out;subst er;go_wp2;go_ret;exact ⟨rfl,ac⟩
   | true=>
    have Hn:=I.out H.out;have HN:Hid _:=Hn;clear Hn I;go_wp2;go_roundg (2 - (k+1))
    case measure=>omega
    case rel=>exact ⟨k+1,by omega,rfl,by first|rfl|simp,HN,rfl⟩
  ·have ah:(R:Int)<=(k:Int):=by omega
   rw [if_neg hc] at H;by_cases O:x=0
   ·rw [decide_eq_true O] at H;have HN:Hid _:=I.out H.out;clear I;subst O;go_wp2;go_roundg (2 - (k+1))
    case measure=>omega
    case rel=>exact ⟨k+1,by omega,rfl,by first|rfl|simp,HN,rfl⟩
   ·rw [decide_eq_false O] at H;have er:=V.out H.out;subst er;have aj:(x != 0)=true:=by simpa using O
    go_wp2;go_ret;exact ⟨rfl,ac⟩
theorem j_0 {ls:List Ly} {f:Ly->Bool} {n:Nat} (H:ls.length=n) (h:∀ i,i < n->f (lyA ls i)=true):ls.all f=true:=by
 rw [all_eq_true];intro l E;obtain ⟨i,A,rfl⟩:=getElem_of_mem E;have:=h i (by omega);unfold lyA at this;rw [getD_eq_getElem?_getD,getElem?_eq_getElem A] at this;exact this
theorem m_h {ls:List Ly} {f:Ly->Bool} {i:Nat} (A:i < ls.length) (h:f (lyA ls i)=false):ls.all f=false:=by
 rw [all_eq_false];exact ⟨_,d_p A,by rw [h];simp⟩
theorem g_y (p p2:Option Addr) (n c A R:Nat) (d:List Int) (ls:List Ly) (ad:A<=1073741824) (w:World) (hK:Hid (Kz w)) (h1:Nums .i64 w (.slice p n c) d) (h2:LyR 0 w p2 A ls):
  Calls Tryz.prog 35 #[.agg #[.slice p n c,.slice p2 A R]] w fun e w'=>e = .returned (.bool (b_O d ls))/\Bw w w':=by
 obtain ⟨r,I⟩:∃ r:Bool,b_O d ls=r:=⟨_,rfl⟩
 have HR:Hid (b_O d ls=r):=I;rw [I];clear I;have HL:Hid (LyR 0 w p2 A ls):=h2;clear h2;go_enter Tryz.func35,Tryz.ntmps35;go_wp2_with fail
 generalize L:alloc _ _=W0;have J:Hid (Bw w W0):=by rw [<- L];exact a_a w _
 have C1:W0.cell? ⟨w.heap.size,1,none⟩=some (.slice p2 A R):=by rw [<- L];simp [go_sem]
 clear L;obtain ⟨qi,E⟩:∃ q,e_w d=q:=⟨_,rfl⟩
 have ci:=k_4 _ d W0 (h1.up J);rw [E] at ci;refine ci.mono ?_;rintro e w1 ⟨rfl,rfl⟩;cases qi with
 | false=>
  have I:r=false:=by rw [<- HR.out];unfold b_O;rw [E];rfl
  subst I;clear E ci h1;go_wp2;go_ret;exact ⟨rfl,J⟩
 | true=>
  have HF:Hid (b_O d ls=ls.all fun l=>decide (a_L l)):=by show _=_;unfold b_O;rw [E];rfl
  clear E ci h1;go_wp2_with fail
  go_loopg [12] A (fun gg v wr=>∃ (k:Nat),k<=A/\gg=A - k/\v = .int .i64 (k:Int)/\Hid (∀ i,i < k->decide (a_L (lyA ls i))=true)/\Hid (Bw w wr))
  case atStart=>exact ⟨0,by omega,by omega,rfl,fun i hi=>by omega,J⟩
  case round=>
   obtain ⟨k,hk,hg,rfl,Hx,HB⟩:=hrel;by_cases aa:k < A
   ·have ae:(k:Int) < (A:Int):=by omega
    obtain ⟨q,o,rfl,c0,c1,R⟩:=(HL.out.up HB).2 k aa;obtain ⟨l,V⟩:∃ l,lyA ls k=l:=⟨_,rfl⟩
    obtain ⟨s,a,b⟩:=l;rw [V] at c0 c1 R;have ac:=a_h c0;go_wp2_with fail
    generalize M:alloc _ _=W2;have Z:Hid (Bw w W2):=by rw [<- M];exact k_U HB _
    clear M;obtain ⟨ql,H⟩:∃ q,decide (a_L (s,a,b))=q:=⟨_,rfl⟩
    have cl:=h_n s a b W2 (Hid.up_kz hK Z);rw [H] at cl;refine cl.mono ?_;rintro e w3 ⟨rfl,ab⟩;have O:Hid _:=a_c Z ab;clear cl ab c0 c1 R ac;cases ql with
    | false=>
     have I:r=false:=by rw [<- HR.out,HF.out];exact m_h (i:=k) (by rw [HL.1];exact aa) (by rw [V];exact H)
     subst I;clear V H;go_wp2;go_ret;exact ⟨rfl,O⟩
    | true=>
     have HN:Hid (∀ i,i < k+1->decide (a_L (lyA ls i))=true):=fun i hi=>by
      rcases Nat.lt_succ_iff_lt_or_eq.1 hi with h2|rfl
      ·exact Hx.out i h2
      ·rw [V];exact H
     clear V H;go_wp2;go_roundg (A - (k+1))
     case measure=>omega
     case rel=>exact ⟨k+1,by omega,rfl,by first|rfl|simp,HN,O⟩
   ·obtain rfl:k=A:=by omega
    have I:r=true:=by rw [<- HR.out,HF.out];exact j_0 HL.1 Hx.out
    subst I;go_wp2;go_ret;exact ⟨rfl,HB⟩
/-- A slice of slices of numbers. -/
def RdS (W:World) (p:Option Addr) (n:Nat) (S:List (List Int)):Prop:=S.length=n/\∀ i,i < n->∃ q o a b c,p=some ⟨q,o,none⟩/\W.cell? ⟨q,o+i,none⟩=some (.slice a b c)/\Nums .i64 W (.slice a b c) (shA S i)
theorem RdS.up {W W':World} {p:Option Addr} {n:Nat} {S:List (List Int)} (h:RdS W p n S) (A:Bw W W'):RdS W' p n S:=⟨h.1,fun i E=>by
 obtain ⟨q,o,a,b,c,e,H,I⟩:=h.2 i E;exact ⟨q,o,a,b,c,e,a_g A H,I.up A⟩⟩
/-- A slice of slices of the call's own. -/
def OwnS (W:World) (B:Nat) (v:Value) (S:List (List Int)):Prop:=∃ vs,W.ownsRow B 22 1 v S.length vs/\∀ i,i < S.length->∃ a b c,vs[i]?=some (.slice a b c)/\OwnK .i64 3 W B (.slice a b c) (shA S i)
theorem OwnS.only {Q:List TypeId} {W W':World} {B:Nat} {v:Value} {S:List (List Int)} (h:OwnS W B v S) (A:Only Q W W') (H:22∉Q) (J:3∉Q):OwnS W' B v S:=by
 obtain ⟨vs,I,M⟩:=h
 exact ⟨vs,a_z I A H,fun i E=>by
  obtain ⟨a,b,c,e,L⟩:=M i E;exact ⟨a,b,c,e,L.only A J⟩⟩
theorem OwnS.up {W W':World} {B:Nat} {v:Value} {S:List (List Int)} (h:OwnS W B v S) (A:Bw W W'):OwnS W' B v S:=h.only (Q:=[]) (Only.of A) (by simp) (by simp)
theorem OwnS.low {W:World} {B J:Nat} {v:Value} {S:List (List Int)} (h:OwnS W B v S) (H:J<=B):OwnS W J v S:=by
 obtain ⟨vs,I,Z⟩:=h
 refine ⟨vs,⟨I.1,?_⟩,fun i L=>by
  obtain ⟨a,b,c,e,R⟩:=Z i L;exact ⟨a,b,c,e,R.low H⟩⟩
 rcases I.2 with h|⟨g,E,A,O,V,M⟩
 ·exact .inl h
 ·exact .inr ⟨g,E,A,O,Nat.le_trans H V,M⟩
theorem OwnS.nil (W:World) (B:Nat):OwnS W B (.slice none 0 0) []:=⟨[],⟨rfl,.inl ⟨rfl,rfl⟩⟩,fun i A=>by simp at A⟩
theorem OwnS.rd {W:World} {B:Nat} {v:Value} {S:List (List Int)} (h:OwnS W B v S):∃ p c,v = .slice p S.length c/\RdS W p S.length S:=by
 obtain ⟨vs,I,M⟩:=h;have A:=I;rcases I.2 with ⟨rfl,O⟩|⟨g,E,J,rfl,V,Z,R⟩
 ·exact ⟨none,0,by rw [O],rfl,fun i H=>by omega⟩
 ·refine ⟨_,E,rfl,rfl,fun i H=>?_⟩;obtain ⟨a,b,c,e,L⟩:=M i H;refine ⟨g,0,a,b,c,rfl,?_,L.nums⟩;have:=ownsRow.cells A rfl i _ e;rw [a_r] at this;exact this
def ParR (S:List (List Int)) (v:Value) (W:World):Prop:=∃ p c,v = .slice p S.length c/\RdS W p S.length S/\OwnS W 0 v S
theorem ParR.up {S:List (List Int)} {v:Value} {W W':World} (h:ParR S v W) (A:Bw W W'):ParR S v W':=by
 obtain ⟨p,c,e,h,E⟩:=h;exact ⟨p,c,e,h.up A,E.up A⟩
theorem ParR.of {S:List (List Int)} {v:Value} {W:World} (h:OwnS W 0 v S):ParR S v W:=by
 obtain ⟨p,c,e,A⟩:=h.rd;exact ⟨p,c,e,A,h⟩
theorem ParR.nil (W:World):ParR [] (.slice none 0 0) W:=ParR.of (OwnS.nil W 0)
/-- A literal of numbers, of the call's own. -/
def LitO (l:List Int) (v:Value) (W:World):Prop:=∃ g,v = .slice (some ⟨g,0,none⟩) l.length l.length/\OwnK .i64 3 W 0 v l
theorem LitO.up {l:List Int} {v:Value} {W W':World} (h:LitO l v W) (A:Bw W W'):LitO l v W':=by
 obtain ⟨g,e,h⟩:=h;exact ⟨g,e,h.up A⟩
theorem LitO.new (W:World) (l:List Int) (n:Nat) (h:l.length=n) (A:n<=1073741824):LitO l (.slice (some ⟨W.heap.size,0,none⟩) n n) (W.alloc (.cells (a_N .i64 l).toArray 3)):=⟨_,by rw [h],(b_b W l n h A).low (zero_le _)⟩
theorem ParR.one {W:World} {a:List Int} {g:Nat} (h:OwnK .i64 3 W 0 (.slice (some ⟨g,0,none⟩) a.length a.length) a):ParR [a] (.slice (some ⟨W.heap.size,0,none⟩) 1 1) (W.alloc (.cells #[.slice (some ⟨g,0,none⟩) a.length a.length] 22)):=by
 refine ParR.of ⟨[.slice (some ⟨g,0,none⟩) a.length a.length],⟨rfl,.inr ⟨W.heap.size,1,#[.slice (some ⟨g,0,none⟩) a.length a.length],rfl,zero_le _,Array.getElem?_push_size,Nat.le_refl _,by unfold maxLen;omega,rfl,rfl⟩⟩,fun i A=>?_⟩;obtain rfl:i=0:=by simp at A;omega
 exact ⟨_,_,_,rfl,h.up (a_a W _)⟩
theorem ParR.two {W:World} {a b:List Int} {g A:Nat} (h:OwnK .i64 3 W 0 (.slice (some ⟨g,0,none⟩) a.length a.length) a) (H:OwnK .i64 3 W 0 (.slice (some ⟨A,0,none⟩) b.length b.length) b):ParR [a,b] (.slice (some ⟨W.heap.size,0,none⟩) 2 2) (W.alloc (.cells #[.slice (some ⟨g,0,none⟩) a.length a.length,.slice (some ⟨A,0,none⟩) b.length b.length] 22)):=by
 refine ParR.of ⟨[.slice (some ⟨g,0,none⟩) a.length a.length,.slice (some ⟨A,0,none⟩) b.length b.length],⟨rfl,.inr ⟨W.heap.size,2,#[.slice (some ⟨g,0,none⟩) a.length a.length,.slice (some ⟨A,0,none⟩) b.length b.length],rfl,zero_le _,Array.getElem?_push_size,Nat.le_refl _,by unfold maxLen;omega,rfl,rfl⟩⟩,fun i E=>?_⟩;rcases (show i=0∨i=1 by simp at E;omega) with rfl|rfl
 ·exact ⟨_,_,_,rfl,h.up (a_a W _)⟩
 ·exact ⟨_,_,_,rfl,H.up (a_a W _)⟩
theorem kts (s:ByteArray):(s.toList == [100,101,110,115,101])=decide (a_m s=0)/\(s.toList == [99,111,110,118])=decide (a_m s=1)/\(s.toList == [112,111,111,108])=decide (a_m s=2)/\(s.toList == [98,101,110,100])=decide (a_m s=3)/\(s.toList == [115,107,105,112])=decide (a_m s=4):=by
 have k:∀ j,j < 5->(s.toList==(b_N j).toList)=decide (a_m s=j):=fun j H=>by
  by_cases h:s=b_N j
  ·rw [(Lib.bytes_beq_iff _ _).2 h,decide_eq_true (m_e s j H h.symm)]
  ·rw [m_f h,decide_eq_false fun e=>h (by rw [<- e];exact (e_v s (by omega)).symm)]
 have E:(b_N 0).toList = [100,101,110,115,101]:=by first|decide +kernel|simp [b_N,f_m]
 have I:(b_N 1).toList = [99,111,110,118]:=by first|decide +kernel|simp [b_N,i_P]
 have J:(b_N 2).toList = [112,111,111,108]:=by first|decide +kernel|simp [b_N,i_Q]
 have L:(b_N 3).toList = [98,101,110,100]:=by first|decide +kernel|simp [b_N,i_R]
 have A:(b_N 4).toList = [115,107,105,112]:=by first|decide +kernel|simp [b_N,d_5]
 rw [<- E,<- I,<- J,<- L,<- A];exact ⟨k 0 (by omega),k 1 (by omega),k 2 (by omega),k 3 (by omega),k 4 (by omega)⟩
theorem d_a (s:ByteArray):s=d_5↔a_m s=4:=⟨fun h=>by rw [h];decide +kernel,fun h=>by rw [<- e_v s (by omega),h];rfl⟩
theorem h_o {k:IntKind} {e:TypeId} (W:World) (l:List Int) (n g B:Nat) (h:l.length=n) (A:n<=1073741824) (H:W.heap.size=g) (E:B<=g):OwnK k e (W.alloc (.cells (a_N k l).toArray e)) B (.slice (some ⟨g,0,none⟩) n n) l:=by
 subst H;exact (b_b W l n h A).low E
/-- What outOf hands back. -/
def OutR (x:Option (List Int)) (B:Nat) (v:Value) (W:World):Prop:=match x with
 | none=>v = .tuple #[.slice none 0 0,.bool false]
 | some o=>∃ p n c,v = .tuple #[.slice p n c,.bool true]/\OwnK .i64 3 W B (.slice p n c) o
theorem OutR.up {x:Option (List Int)} {B:Nat} {v:Value} {W W':World} (h:OutR x B v W) (A:Bw W W'):OutR x B v W':=by
 cases x with
 | none=>exact h
 | some o=>
  obtain ⟨p,n,c,e,h⟩:=h;exact ⟨p,n,c,e,h.up A⟩
theorem m_i (s:ByteArray) (a b:Int) (d:List Int) (hl:a_L (s,a,b)) (hd:InOk d) (p:Option Addr) (n c:Nat) (w:World) (hv:Nums .i64 w (.slice p n c) d):
  Calls Tryz.prog 58 #[.agg #[.string s,.int .i64 a,.int .i64 b],.slice p n c] w fun e w'=>∃ v',e = .returned v'/\OutR (c_S (s,a,b) d) w.heap.size v' w'/\Bw w w':=by
 obtain ⟨x,L⟩:∃ x,c_S (s,a,b) d=x:=⟨_,rfl⟩
 rw [L];have HV:Hid (Nums .i64 w (.slice p n c) d):=hv;obtain ⟨_,_,_,e,V⟩:=hv.lst;cases e;clear hv;unfold c_S at L;obtain ⟨Z,t1,t2,t3,t4⟩:=kts s;have ci:Hid (∀ W,Bw w W->Calls Tryz.prog 46 #[.slice p n c] W fun e w'=>∃ v',e = .returned v'/\OwnK .i64 3 w' W.heap.size v' d/\Bw W w'):=fun W hW=>c_m _ d (by have:=hd.smal.1;omega) W (HV.out.up hW);rcases a_s hl with ⟨-,k,h1,h2⟩|⟨-,k,h1,h2⟩|⟨-,k,h1,h2⟩|⟨-,k,h1,h2⟩|⟨-,k,h1,h2⟩ <;> simp only [] at k h1 h2 <;> rw [k] at L Z t1 t2 t3 t4
 ·replace Z:=Z.trans (show decide ((0:Nat)=0)=true from rfl);rw [if_pos rfl] at L;subst L;clear t1 t2 t3 t4 k hl V;go_enter Tryz.func58,Tryz.ntmps58;go_wp2;go_ret2;exact ⟨_,rfl,⟨_,_,_,rfl,h_o (k:=.i64) (e:=3) _ [a] 1 _ _ rfl (by decide) (by simp) (by omega)⟩,by go_grown⟩
 ·replace Z:=Z.trans (show decide ((1:Nat)=0)=false from rfl);replace t1:=t1.trans (show decide ((1:Nat)=1)=true from rfl);rw [if_neg (by decide),if_pos rfl] at L;clear t2 t3 t4 k hl ci;rcases hd with ⟨y,rfl,hy⟩|⟨y,z,rfl,hy,hz⟩
  ·have hn:n=1:=V.1.symm;subst hn;rw [if_neg (by simp)] at L;subst L;go_enter Tryz.func58,Tryz.ntmps58;go_wp2;generalize A:alloc _ _=J;have ad:Bw w J:=by rw [<- A];exact a_a w _
   obtain ⟨b1,b2⟩:J.cell? ⟨w.heap.size,1,none⟩=some (.int .i64 a)/\J.cell? ⟨w.heap.size,2,none⟩=some (.int .i64 b):=by rw [<- A];simp [go_sem]
   have H:Hid (Bw w J):=ad;clear A ad;go_quiet (fail)
   go_wp2;go_ret2;exact ⟨_,rfl,rfl,a_i H _⟩
  ·have hn:n=2:=V.1.symm;subst hn;obtain ⟨q,o,rfl,c0⟩:=V.2 0 (by omega);obtain ⟨q',o',e,M⟩:=V.2 1 (by omega);cases e;simp only [getD_cons_zero,getD_cons_succ,Nat.add_zero] at c0 M;have hq:=a_h M;simp only [length_cons,length_nil,getD_cons_zero,getD_cons_succ] at L;by_cases ab:b<=z
   ·rw [if_pos ⟨trivial,ab⟩] at L;subst L;clear V HV c0;go_enter Tryz.func58,Tryz.ntmps58;go_wp2;generalize A:alloc _ _=J;have H:Hid (Bw w J):=by rw [<- A];exact a_a w _
    obtain ⟨b1,b2⟩:J.cell? ⟨w.heap.size,1,none⟩=some (.int .i64 a)/\J.cell? ⟨w.heap.size,2,none⟩=some (.int .i64 b):=by rw [<- A];simp [go_sem]
    replace M:=a_g H M;clear A;go_quiet (fail)
    go_wp2;generalize R:drewN _ _=W1;have aa:Hid (Bw w W1):=by rw [<- R];exact a_i H _
    obtain ⟨d1,d2,d3⟩:W1.cell? ⟨w.heap.size,1,none⟩=some (.int .i64 a)/\W1.cell? ⟨w.heap.size,2,none⟩=some (.int .i64 b)/\W1.cell? ⟨q,o+1,none⟩=some (.int .i64 z):=by rw [<- R];exact ⟨b1,b2,M⟩
    clear R b1 b2 M;go_region
    all_goals
     go_wp2;go_ret2;exact ⟨_,rfl,⟨_,_,_,rfl,h_o (k:=.i64) (e:=3) _ [a,z - b+1] 2 _ _ rfl (by decide) (by simp) aa.size⟩,by have:=aa.out;exact (k_U this _).trans ⟨rfl,rfl,rfl,Nat.le_refl _,fun _ _=>rfl⟩⟩
   ·rw [if_neg fun h=>ab h.2] at L;subst L;clear V HV c0;have ae:z < b:=by omega
    go_enter Tryz.func58,Tryz.ntmps58;go_wp2;generalize A:alloc _ _=J;have H:Hid (Bw w J):=by rw [<- A];exact a_a w _
    obtain ⟨b1,b2⟩:J.cell? ⟨w.heap.size,1,none⟩=some (.int .i64 a)/\J.cell? ⟨w.heap.size,2,none⟩=some (.int .i64 b):=by rw [<- A];simp [go_sem]
    replace M:=a_g H M;clear A;go_quiet (fail)
    go_wp2;go_ret2;exact ⟨_,rfl,rfl,a_i H _⟩
 ·replace Z:=Z.trans (show decide ((2:Nat)=0)=false from rfl);replace t1:=t1.trans (show decide ((2:Nat)=1)=false from rfl);replace t2:=t2.trans (show decide ((2:Nat)=2)=true from rfl);rw [if_neg (by decide),if_neg (by decide),if_pos rfl] at L;clear t3 t4 k hl ci h2;rcases hd with ⟨y,rfl,hy⟩|⟨y,z,rfl,hy,hz⟩
  ·have hn:n=1:=V.1.symm;subst hn;rw [if_neg (by simp)] at L;subst L;go_enter Tryz.func58,Tryz.ntmps58;go_wp2;generalize A:alloc _ _=J;have ad:Bw w J:=by rw [<- A];exact a_a w _
   obtain ⟨b1,b2⟩:J.cell? ⟨w.heap.size,1,none⟩=some (.int .i64 a)/\J.cell? ⟨w.heap.size,2,none⟩=some (.int .i64 b):=by rw [<- A];simp [go_sem]
   have H:Hid (Bw w J):=ad;clear A ad;go_quiet (fail)
   go_wp2;go_ret2;exact ⟨_,rfl,rfl,a_i H _⟩
  ·have hn:n=2:=V.1.symm;subst hn;obtain ⟨q,o,rfl,c0⟩:=V.2 0 (by omega);obtain ⟨q',o',e,M⟩:=V.2 1 (by omega);cases e;simp only [getD_cons_zero,getD_cons_succ,Nat.add_zero] at c0 M;have hq:=a_h M;simp only [length_cons,length_nil,getD_cons_zero,getD_cons_succ] at L;by_cases ab:a<=z
   ·rw [if_pos ⟨trivial,ab⟩] at L;subst L;clear V HV;obtain ⟨qq,af⟩:∃ qq,Int.tdiv z a=qq:=⟨_,rfl⟩
    have ag:a≠0:=by omega
    have ah:0<=qq/\qq<=64:=by
     rw [<- af,Int.tdiv_eq_ediv_of_nonneg (by omega)];exact ⟨Int.ediv_nonneg (by omega) (by omega),by have:=Int.ediv_le_self a (a:=z) (by omega);omega⟩
    rw [af];go_enter Tryz.func58,Tryz.ntmps58;go_wp2;generalize A:alloc _ _=J;have H:Hid (Bw w J):=by rw [<- A];exact a_a w _
    replace c0:=a_g H c0;obtain ⟨b1,b2⟩:J.cell? ⟨w.heap.size,1,none⟩=some (.int .i64 a)/\J.cell? ⟨w.heap.size,2,none⟩=some (.int .i64 b):=by rw [<- A];simp [go_sem]
    replace M:=a_g H M;clear A;go_quiet (fail)
    go_wp2;generalize R:drewN _ _=W1;have aa:Hid (Bw w W1):=by rw [<- R];exact a_i H _
    obtain ⟨d1,d2,d3,d4⟩:W1.cell? ⟨w.heap.size,1,none⟩=some (.int .i64 a)/\W1.cell? ⟨w.heap.size,2,none⟩=some (.int .i64 b)/\W1.cell? ⟨q,o+1,none⟩=some (.int .i64 z)/\W1.cell? ⟨q,o,none⟩=some (.int .i64 y):=by rw [<- R];exact ⟨b1,b2,M,c0⟩
    clear R b1 b2 M c0;go_region
    all_goals
     go_wp2;go_ret2;exact ⟨_,rfl,⟨_,_,_,rfl,h_o (k:=.i64) (e:=3) _ [y,qq] 2 _ _ rfl (by decide) (by simp) aa.size⟩,by have:=aa.out;exact (k_U this _).trans ⟨rfl,rfl,rfl,Nat.le_refl _,fun _ _=>rfl⟩⟩
   ·rw [if_neg fun h=>ab h.2] at L;subst L;clear V HV c0;have ae:z < a:=by omega
    go_enter Tryz.func58,Tryz.ntmps58;go_wp2;generalize A:alloc _ _=J;have H:Hid (Bw w J):=by rw [<- A];exact a_a w _
    obtain ⟨b1,b2⟩:J.cell? ⟨w.heap.size,1,none⟩=some (.int .i64 a)/\J.cell? ⟨w.heap.size,2,none⟩=some (.int .i64 b):=by rw [<- A];simp [go_sem]
    replace M:=a_g H M;clear A;go_quiet (fail)
    go_wp2;go_ret2;exact ⟨_,rfl,rfl,a_i H _⟩
 ·replace Z:=Z.trans (show decide ((3:Nat)=0)=false from rfl);replace t1:=t1.trans (show decide ((3:Nat)=1)=false from rfl);replace t2:=t2.trans (show decide ((3:Nat)=2)=false from rfl);rw [if_neg (by decide),if_neg (by decide),if_neg (by decide)] at L;subst L;clear t3 t4 k hl V;go_enter Tryz.func58,Tryz.ntmps58;go_wp2_with fail
  generalize A:alloc _ _=J;have H:Hid (Bw w J):=by rw [<- A];exact a_a w _
  clear A;refine (ci.out J H).mono ?_;rintro e w1 ⟨v1,rfl,O,ac⟩;obtain ⟨pa,na,ca,rfl,_⟩:=O.nums.lst;have HO:Hid (OwnK .i64 3 w1 J.heap.size (.slice pa na ca) d/\Bw J w1):=⟨O,ac⟩
  clear O ac ci;go_wp2;go_ret2;exact ⟨_,rfl,⟨_,_,_,rfl,HO.1.low H.size⟩,a_c H HO.2⟩
 ·replace Z:=Z.trans (show decide ((4:Nat)=0)=false from rfl);replace t1:=t1.trans (show decide ((4:Nat)=1)=false from rfl);replace t2:=t2.trans (show decide ((4:Nat)=2)=false from rfl);rw [if_neg (by decide),if_neg (by decide),if_neg (by decide)] at L;subst L;clear t3 t4 k hl V;go_enter Tryz.func58,Tryz.ntmps58;go_wp2_with fail
  generalize A:alloc _ _=J;have H:Hid (Bw w J):=by rw [<- A];exact a_a w _
  clear A;refine (ci.out J H).mono ?_;rintro e w1 ⟨v1,rfl,O,ac⟩;obtain ⟨pa,na,ca,rfl,_⟩:=O.nums.lst;have HO:Hid (OwnK .i64 3 w1 J.heap.size (.slice pa na ca) d/\Bw J w1):=⟨O,ac⟩
  clear O ac ci;go_wp2;go_ret2;exact ⟨_,rfl,⟨_,_,_,rfl,HO.1.low H.size⟩,a_c H HO.2⟩
theorem d_E (s:ByteArray) (a b:Int) (d:List Int) (hl:a_L (s,a,b)) (hd:InOk d) (E:a_m s=1->d.length=2) (p:Option Addr) (n c:Nat) (w:World) (hv:Nums .i64 w (.slice p n c) d):
  Calls Tryz.prog 38 #[.agg #[.string s,.int .i64 a,.int .i64 b],.slice p n c] w fun e w'=>∃ v',e = .returned v'/\ParR (b_L (s,a,b) d) v' w'/\Bw w w':=by
 haveI:Nonempty World:=⟨w⟩
 obtain ⟨x,H⟩:∃ x,b_L (s,a,b) d=x:=⟨_,rfl⟩
 rw [H];have HV:Hid (Nums .i64 w (.slice p n c) d):=hv;obtain ⟨_,_,_,e,HC⟩:=hv.lst;cases e;clear hv;unfold b_L at H;obtain ⟨L,R,-,-,-⟩:=kts s;rcases (show a_m s=0∨a_m s=1∨(a_m s≠0/\a_m s≠1) by omega) with k|k|⟨k,k'⟩
 ·rw [k] at H L R;replace L:=L.trans (show decide ((0:Nat)=0)=true from rfl);rw [if_pos rfl] at H;simp only [] at H;obtain ⟨r,er⟩:∃ r,a_o d=r:=⟨_,rfl⟩
  have cs:Hid (∀ W,Bw w W->Calls Tryz.prog 24 #[.slice p n c] W fun e w'=>e = .returned (.int .i64 r)/\w'=W):=fun W hW=>by
   rw [<- er];exact d_D _ d hd.smal W (HV.out.up hW)
  rw [er] at H;subst H;clear R k hl HC E hd er;go_enter Tryz.func38,Tryz.ntmps38;go_wp2;generalize A:alloc _ _=W0;have J:Hid (Bw w W0):=by rw [<- A];exact a_a w _
  have b1:W0.cell? ⟨w.heap.size,1,none⟩=some (.int .i64 a):=by rw [<- A];simp [go_sem]
  have hz:=a_h b1;clear A;refine rel [⟨4,13,LitO [a,r]⟩,⟨7,16,LitO [a]⟩,⟨8,17,ParR [[a,r],[a]]⟩] 9 29 (by kernel_rfl) rfl rfl (by kernel_rfl) (by rfl) ?_ ?_
  ·exact upC (fun _ _ _=>LitO.up) (upC (fun _ _ _=>LitO.up) (upC (fun _ _ _=>ParR.up) upN))
  apply Exists.intro;refine ⟨fun x=>?_,?_,?_⟩
  ·simp only [take_succ_cons,take_zero]
   iterate 3
    apply c_w;rfl;rfl
    ·intro F hF hf K hK hFc hFf
     go_big_quiet_op
     exact hK
    (try simp only [a_v])
   apply c_w;rfl;rfl
   ·intro F hF hf K hK hFc hFf
    go_big_quiet_op
    first|exact hK|(apply Exists.intro;refine ⟨fun _=>?_,?_⟩;(· exact hF.same (cs.out _ (a_c J (hF.below _))));exact hK)
   (try simp only [a_v])
   refine c_g rfl rfl ?_ ?_
   ·intro F hF hf d hFc hFf;simp [a_j,a_e,go_sem];exact ⟨LitO.new (F d) [a,r] 2 rfl (by decide),a_a _ _⟩
   iterate 2
    (try simp only [a_v])
    apply c_w;rfl;rfl
    ·intro F hF hf K hK hFc hFf
     go_big_quiet_op
     exact hK
   (try simp only [a_v])
   refine c_g rfl rfl ?_ ?_
   ·intro F hF hf d hFc hFf;simp [a_j,a_e,go_sem];exact ⟨LitO.new (F d) [a] 1 rfl (by decide),a_a _ _⟩
   (try simp only [a_v])
   refine c_g rfl rfl ?_ ?_
   ·intro F hF hf d hFc hFf;have h9:=hf _ mS (by rfl) d;have h8:=hf _ (mC mS) (by rfl) d;obtain ⟨g9,V,O⟩:=h9;obtain ⟨g8,e8,n8⟩:=h8;simp only [] at V O e8 n8;rw [V] at O;rw [e8] at n8;simp [a_j,a_e,go_sem,V,e8];exact ⟨ParR.two O n8,a_a _ _⟩
   (try simp only [a_v])
   refine b_A ?_;exact rfl
  ·exact fun x=>rfl
  ·intro w9 xs I hf;simp only [drop_succ_cons,drop_zero];have M:=hf _ (mC (mC mS));simp only [] at M;have Z:Hid (ParR [[a,r],[a]] (xs 8) w9/\Bw w w9):=⟨M,a_c J I⟩
   obtain ⟨p7,c7,e7,_⟩:=M;generalize xs 8=v8 at Z e7 ⊢;subst e7;clear hf I cs b1;go_wp2;go_ret;exact ⟨_,rfl,Z.out⟩
 ·rw [k] at H L R;replace L:=L.trans (show decide ((1:Nat)=0)=false from rfl);replace R:=R.trans (show decide ((1:Nat)=1)=true from rfl);rw [if_neg (by decide),if_pos rfl] at H;simp only [] at H
  obtain ⟨y,z,rfl⟩:∃ y z,d = [y,z]:=by
   have:=E k
   match d with
   | [y,z]=>exact ⟨y,z,rfl⟩
  have hn:=HC.1.symm;subst hn;obtain ⟨q,o,rfl,c0⟩:=HC.2 0 (by omega);simp only [getD_cons_zero,Nat.add_zero] at c0 H;subst H;clear HC HV E k hd hl;go_enter Tryz.func38,Tryz.ntmps38;go_wp2;generalize A:alloc _ _=W0;have J:Hid (Bw w W0):=by rw [<- A];exact a_a w _
  have b1:W0.cell? ⟨w.heap.size,1,none⟩=some (.int .i64 a):=by rw [<- A];simp [go_sem]
  have b2:W0.cell? ⟨w.heap.size,2,none⟩=some (.int .i64 b):=by rw [<- A];simp [go_sem]
  replace c0:=a_g J c0;have hz:=a_h b1;have aa:=a_h c0;clear A;refine rel [⟨7,27,LitO [a,y,b]⟩,⟨8,28,ParR [[a,y,b]]⟩] 9 29 (by kernel_rfl) rfl rfl (by kernel_rfl) (by rfl) ?_ ?_
  ·exact upC (fun _ _ _=>LitO.up) (upC (fun _ _ _=>ParR.up) upN)
  apply Exists.intro;refine ⟨fun x=>?_,?_,?_⟩
  ·simp only [take_succ_cons,take_zero]
   iterate 7
    apply c_w;rfl;rfl
    ·intro F hF hf K hK hFc hFf
     go_big_quiet_op
     exact hK
    (try simp only [a_v])
   refine c_g rfl rfl ?_ ?_
   ·intro F hF hf d hFc hFf;simp [a_j,a_e,go_sem];exact ⟨LitO.new (F d) [a,y,b] 3 rfl (by decide),a_a _ _⟩
   (try simp only [a_v])
   refine c_g rfl rfl ?_ ?_
   ·intro F hF hf d hFc hFf;have h9:=hf _ mS (by rfl) d;obtain ⟨g9,V,O⟩:=h9;simp only [] at V O;rw [V] at O;simp [a_j,a_e,go_sem,V];exact ⟨ParR.one O,a_a _ _⟩
   (try simp only [a_v])
   refine b_A ?_;exact rfl
  ·exact fun x=>rfl
  ·intro w9 xs I hf;simp only [drop_succ_cons,drop_zero];have M:=hf _ (mC mS);simp only [] at M;have Z:Hid (ParR [[a,y,b]] (xs 8) w9/\Bw w w9):=⟨M,a_c J I⟩
   obtain ⟨p7,c7,e7,_⟩:=M;generalize xs 8=v8 at Z e7 ⊢;subst e7;clear hf I b1 b2 c0;go_wp2;go_ret;exact ⟨_,rfl,Z.out⟩
 ·replace L:=L.trans (decide_eq_false k);replace R:=R.trans (decide_eq_false k');rw [if_neg k,if_neg k'] at H;subst H;clear k k' hl hd E HC HV;go_enter Tryz.func38,Tryz.ntmps38;go_wp2;go_ret;exact ⟨_,rfl,ParR.nil _,a_a w _⟩
end Go.Proofs.YtkfpainpomobfaaGreatDoor.Wd
