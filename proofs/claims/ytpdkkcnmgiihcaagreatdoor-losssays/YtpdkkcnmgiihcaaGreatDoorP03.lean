/- Tensors: what tens.Scale and tens.Reshape hand back. · Plain arithmetic of numbers of 128 bits with a sign: two words stand for a number. Nothing of the program is named here. · What the functions of package wide hand back, for all numbers: sums, differences, products. What the functions of package wide hand back: the sign, products, a number held. -/
import Derived.Test.YtpdkkcnmgiihcaaGreatDoorP02
import Derived.Test.YtpdkkcnmgiihcaaGreatDoorP01
import Derived.Lib.TrailingZeros
import Derived.Test.YtpdkkcnmgiihcaaGreatDoorProg
import Derived.Shelf.Spec.BitsCarry
import Derived.Shelf.Spec.TrailingZeros
import Derived.WalkKit
import Derived.ProofKit
import Derived.WalkSpells
import Derived.Handy
import Derived.Deep.RegionWith
set_option linter.unusedVariables false
set_option linter.unusedSimpArgs false
set_option maxHeartbeats 16000000
set_option maxRecDepth 16000
namespace Go.Proofs.YtpdkkcnmgiihcaaGreatDoor.Wd
open Go.RowKit
def scaleE (d x:List Int):Int:=if isP d x then 0 else 1
def scaleD (d x:List Int):List Int:=if isP d x then d else []
def scaleV (d x:List Int) (k:Int):List Int:=if isP d x then x.map fun y=>Fx.mulI y k else []
def shpE (d x d':List Int):Int:=if isP d x∧goodN (ntl d') then if prodN (ntl d')=x.length then 0 else 4 else 1
def shpD (d x d':List Int):List Int:=if (isP d x∧goodN (ntl d'))∧prodN (ntl d')=x.length then d' else []
def shpV (d x d':List Int):List Int:=if (isP d x∧goodN (ntl d'))∧prodN (ntl d')=x.length then x else []
theorem tscale_any (p p2:Option Addr) (n c n2 c2:Nat) (d x:List Int) (hd:RI d) (hx:RI x) (K:Int) (hK:Fx.InR K) (w:World) (h1:Nums .i64 w (.slice p n c) d) (h2:Nums .i64 w (.slice p2 n2 c2) x):
  Calls Tryz.prog 103 #[.agg #[.slice p n c,.slice p2 n2 c2],.int .i64 K] w fun e w'=>∃ v',e = .returned (.tuple #[v',.int .i64 (scaleE d x)])∧TRes w' w.heap.size v' (scaleD d x) (scaleV d x K)∧Below w.heap.size w w':=by
 have cA:=fun W (hW:Below w.heap.size w W)=>tgood_any _ _ d x hd W (h1.up hW) (h2.up hW)
 by_cases hp:isP d x
 ·rw [decide_eq_true hp] at cA
  unfold scaleE scaleD scaleV
  rw [if_pos hp,if_pos hp,if_pos hp]
  obtain ⟨V,eV⟩:∃ V,(x.map fun y=>Fx.mulI y K)=V:=⟨_,rfl⟩
  rw [eV]
  have HN:Hid (Nums .i64 w (.slice p n c) d∧Nums .i64 w (.slice p2 n2 c2) x):=⟨h1,h2⟩
  obtain ⟨_,_,_,e4,HX⟩:=h2.lst
  cases e4
  have hlen:x.length≤4096:=by rw [hp.2];exact hp.1.2.2
  rw [HX.out.1] at hlen
  have hlen':(n2:Int)≤4096:=by omega
  have HV:Hid ((x.map fun y=>Fx.mulI y K)=V∧V.length=n2∧isP d x∧RI x∧Fx.InR K∧x.length=n2):=⟨eV,by rw [← eV,List.length_map];exact HX.out.1,hp,hx,hK,HX.out.1⟩
  clear eV h1 h2 hd hx hp hK
  go_enter Tryz.func103,Tryz.ntmps103
  go_wp2_with fail
  generalize hW0:World.alloc _ _=W0
  have HB0:=hidB (w:=w) hW0 (by go_grown)
  have XA:Hid (Cel W0 w.heap.size (.slice p n c) (.slice p2 n2 c2)):=celW hW0 (by simp [go_sem])
  have XR:Hid (Cel W0 (w.heap.size+1) (.slice none 0 0) (.slice none 0 0)):=celW hW0 (by simp [go_sem])
  clear hW0
  refine (cA W0 HB0.out).mono ?_
  rintro e w1 ⟨rfl,hB1⟩
  have HB1:=hid2 (bstep HB0.out hB1) hB1
  clear hB1
  obtain ⟨a0,a1,_,_⟩:=XA.out.up HB1.out.2
  go_wp2_with (at_make;refine wpList_makeK fixT (by decide) _ rfl (.tmp 15) (.tmp 15) rfl .i64 .i64 n2 n2 n2 rfl rfl rfl rfl (by omega) w.heap.size w HB1.out.1.size HB1.out.1 ?_;intro w4 HO4 B4 B4';clear B4';have XA4:=(XA.out.up (bstep HB1.out.2 B4));obtain ⟨a2,a3,_,_⟩:=XA4)
  obtain ⟨g,hg⟩:∃ g,w1.heap.size=g:=⟨_,rfl⟩
  have HB4:=hid2 (bstep HB1.out.1 B4) (bstep HB1.out.2 B4)
  rw [hg] at HO4 ⊢
  have hz:=cell_lt XR.out.1
  have Hg:Hid (W0.heap.size≤g∧w.heap.size+1 < W0.heap.size):=⟨by rw [← hg];exact HB1.out.2.size,hz⟩
  have HO5:Hid (OwnK .i64 33 w4 g (.slice (some ⟨g,0,none⟩) n2 n2) (rowF V 0)):=by
   show OwnK _ _ _ _ _ _
   rw [rowF_zero,HV.out.2.1]
   exact HO4.out
  clear a0 a1 a2 a3 HO4 B4 hg hz
  go_loopg [20] n2 (fun gg i wr=>∃ (k:Nat),k≤n2∧gg=n2 - k∧i = .int .i64 (k:Int)∧Hid (OwnK .i64 33 wr g (.slice (some ⟨g,0,none⟩) n2 n2) (rowF V k))∧Hid (Below w.heap.size w wr∧Stay g w4 wr))
  case atStart=>exact ⟨0,by omega,by omega,by first|rfl|simp,HO5,HB4.out.1,Stay.refl _ _⟩
  case round=>
   obtain ⟨k,hk,hg,rfl,HRk,hBS⟩:=hrel
   obtain ⟨R1,hR1⟩:∃ R1:World,R1=wr:=⟨_,rfl⟩
   subst hR1
   by_cases hkn:k < n2
   ·have hk':(k:Int) < (n2:Int):=by omega
    obtain ⟨q,o,rfl,hc0⟩:=HX.out.2 k hkn
    have hc1:=cell_low hc0 hBS.out.1
    have rx:=HV.out.2.2.2.1.in k (by rw [HV.out.2.2.2.2.2];exact hkn)
    obtain ⟨X,eX⟩:∃ X,x.getD k 0=X:=⟨_,rfl⟩
    rw [eX] at hc1 rx
    obtain ⟨Z,eZ⟩:∃ Z,Fx.mulI X K=Z:=⟨_,rfl⟩
    have HZ:Hid (V.getD k 0=Z):=by
     show _=_
     rw [← HV.out.1,List.getD_eq_getElem?_getD,List.getElem?_map,List.getElem?_eq_getElem (by rw [HV.out.2.2.2.2.2];exact hkn),← eZ,← eX,getD_lt x k 0 (by rw [HV.out.2.2.2.2.2];exact hkn)]
     rfl
    have cz:∀ W,Calls Tryz.prog 137 #[.int .i64 X,.int .i64 K] W fun e w'=>e = .returned (.int .i64 Z)∧w'=W:=fun W=>by rw [← eZ];exact Fx.mul_any X K rx HV.out.2.2.2.2.1 W
    obtain ⟨hown,hfz⟩:=HRk.out.cell (by rw [rowF_len];exact HV.out.2.1) k hkn
    have H5:Hid (OwnK .i64 33 (R1.setCell ⟨g,k,none⟩ (.int .i64 Z)) g (.slice (some ⟨g,0,none⟩) n2 n2) (rowF V (k+1))):=by
     have:=HRk.out.store (by rw [rowF_len];exact HV.out.2.1) k Z
     rw [← HZ.out,rowF_set V k (by rw [HV.out.2.1];exact hkn)] at this
     rw [← HZ.out]
     exact this
    have hgw:w.heap.size≤g:=by have:=Hg.out;omega
    have H6:Hid (Below w.heap.size w (R1.setCell ⟨g,k,none⟩ (.int .i64 Z))∧Stay g w4 (R1.setCell ⟨g,k,none⟩ (.int .i64 Z))):=⟨hBS.out.1.setCell (p:=⟨g,k,none⟩) hgw _,hBS.out.2.set _ _⟩
    clear eX eZ hc0
    go_wp2_with fail
    refine (cz _).mono ?_
    rintro e w5 ⟨rfl,rfl⟩
    clear cz
    go_wp2
    go_roundg (n2 - (k+1))
    case measure=>omega
    case rel=>exact ⟨k+1,by omega,rfl,by first|rfl|simp,H5,H6⟩
   ·obtain rfl:k=n2:=by omega
    have hne0:w.heap.size≠g:=by have:=Hg.out;omega
    have hne1:w.heap.size+1≠g:=by have:=Hg.out;omega
    obtain ⟨a0,a1,_,_⟩:=(XA.out.up HB4.out.2).stay hBS.out.2 hne0
    have xr1:=(XR.out.up HB4.out.2).stay hBS.out.2 hne1
    have hfin:=HRk.out
    rw [← HV.out.2.1,rowF_full,HV.out.2.1] at hfin
    have HF1:Hid (OwnK .i64 33 R1 g (.slice (some ⟨g,0,none⟩) k k) V):=hfin
    have cc:=cloneI_any _ d (by have:=HV.out.2.2.1.1.1;rw [ntl_len] at this;omega) R1 (HN.out.1.up hBS.out.1)
    have HXR:Hid (Cel R1 (w.heap.size+1) (.slice none 0 0) (.slice none 0 0)):=xr1
    clear hfin xr1 hne0 hne1
    go_wp2_with fail
    refine cc.mono ?_
    rintro e w6 ⟨v6,rfl,h6,hB6⟩
    obtain ⟨p6,n6,c6,rfl,_⟩:=h6.nums.lst
    have HF:Hid (TRes (set2 w6 (w.heap.size+1) (.slice p6 n6 c6) (.slice (some ⟨g,0,none⟩) k k)) w.heap.size (.agg #[.slice p6 n6 c6,.slice (some ⟨g,0,none⟩) k k]) d V∧Below w.heap.size w (set2 w6 (w.heap.size+1) (.slice p6 n6 c6) (.slice (some ⟨g,0,none⟩) k k))):=by
     have hs:g≤R1.heap.size:=Nat.le_of_lt HF1.out.size
     exact ⟨(TRes.set (h6.low (Nat.le_trans Hg.out.1 hs)) ((HF1.out.up hB6).low Hg.out.1) Hg.out.2).low HB0.out.size,below_cell (bstep hBS.out.1 hB6) _ (by omega) _ _⟩
    clear cc h6 a0 a1
    have xr:=(HXR.out.up hB6)
    have cf:=xr.set (.slice p6 n6 c6) (.slice (some ⟨g,0,none⟩) k k)
    obtain ⟨r0,r1,r2,r3⟩:=xr
    obtain ⟨y0,y1,_,_⟩:=cf
    go_wp2
    exact bodyPost_ret (v:=.tuple #[.agg #[.slice p6 n6 c6,.slice (some ⟨g,0,none⟩) k k],.int .i64 0]) (by simp [results,Tryz.results103,go_sem,y0,y1]) rfl ⟨_,rfl,HF.out⟩
 ·rw [decide_eq_false hp] at cA
  unfold scaleE scaleD scaleV
  rw [if_neg hp,if_neg hp,if_neg hp]
  clear h1 h2 hd hx hp hK
  go_enter Tryz.func103,Tryz.ntmps103
  go_wp2_with fail
  generalize hW0:World.alloc _ _=W0
  have HB0:=hidB (w:=w) hW0 (by go_grown)
  have XA:Hid (Cel W0 w.heap.size (.slice p n c) (.slice p2 n2 c2)):=celW hW0 (by simp [go_sem])
  have XR:Hid (Cel W0 (w.heap.size+1) (.slice none 0 0) (.slice none 0 0)):=celW hW0 (by simp [go_sem])
  clear hW0
  refine (cA W0 HB0.out).mono ?_
  rintro e w1 ⟨rfl,hB1⟩
  have HB1:=hid2 (bstep HB0.out hB1) hB1
  clear hB1
  have xr:=(XR.out.up HB1.out.2)
  have BF:=below_cell (HB1.out.1) (w.heap.size+1) (by omega) (.slice none 0 0) (.slice none 0 0)
  have cf:=xr.set (.slice none 0 0) (.slice none 0 0)
  obtain ⟨r0,r1,r2,r3⟩:=xr
  obtain ⟨y0,y1,_,_⟩:=cf
  go_wp2
  exact bodyPost_ret (v:=.tuple #[.agg #[.slice none 0 0,.slice none 0 0],.int .i64 1]) (by simp [results,Tryz.results103,go_sem,y0,y1]) rfl ⟨_,rfl,TRes.none _ _,BF⟩
end Go.Proofs.YtpdkkcnmgiihcaaGreatDoor.Wd
namespace Go.Proofs.YtpdkkcnmgiihcaaGreatDoor.Wd
open Go.RowKit Fx
/-- Two words that stand for a number. -/
def wd (v:Int):Value:=.agg #[.int .i64 (v / 18446744073709551616),.int .u64 (v % 18446744073709551616)]
def InW (v:Int):Prop:=-170141183460469231731687303715884105728≤v∧v < 170141183460469231731687303715884105728
def wr (v:Int):Int:=(v+170141183460469231731687303715884105728) % 340282366920938463463374607431768211456 - 170141183460469231731687303715884105728
theorem wr_rng (v:Int):InW (wr v):=by unfold InW wr;omega
theorem wr_in {v:Int} (h:InW v):wr v=v:=by unfold InW at h;unfold wr;omega
theorem InR.w {a:Int} (h:InR a):InW a:=by unfold InR at h;unfold InW;omega
theorem wd_eq {h l v:Int} (e1:h=v / 18446744073709551616) (e2:l=v % 18446744073709551616):Value.agg #[.int .i64 h,.int .u64 l]=wd v:=by
 subst e1 e2;rfl
/-- A quotient, rounded: to the nearest, of two that are as near to the even one; on both sides of 0. -/
def rqI (x d:Int):Int:=if d < 2*(x % d)∨(2*(x % d)=d∧x / d % 2=1) then x / d+1 else x / d
theorem rqI_neg (x d:Int) (hd:0 < d):rqI (-x) d = -rqI x d:=by
 obtain ⟨q,eq⟩:∃ q,x / d=q:=⟨_,rfl⟩
 obtain ⟨r,er⟩:∃ r,x % d=r:=⟨_,rfl⟩
 have h0:0≤r:=er ▸ Int.emod_nonneg x (by omega)
 have h1:r < d:=er ▸ Int.emod_lt_of_pos x hd
 have hx:d*q+r=x:=by rw [← eq,← er];exact Int.mul_ediv_add_emod x d
 by_cases hr:r=0
 ·have e:(-x) / d = -q∧(-x) % d=0:=by
   rw [Int.ediv_emod_unique hd]
   refine ⟨?_,by omega,hd⟩
   rw [← hx,hr,Int.mul_neg];omega
  unfold rqI
  rw [e.1,e.2,eq,er,hr]
  split <;> split <;> omega
 ·have e:(-x) / d = -q - 1∧(-x) % d=d - r:=by
   rw [Int.ediv_emod_unique hd]
   refine ⟨?_,by omega,by omega⟩
   rw [← hx,Int.mul_sub,Int.mul_neg];omega
  unfold rqI
  rw [e.1,e.2,eq,er]
  split <;> split <;> omega
theorem rqI_nat (x d:Nat):rqI (x:Int) (d:Int)=((rq x d:Nat):Int):=by
 unfold rqI rq
 have e1:(x:Int) % d=((x % d:Nat):Int):=by omega
 have e2:(x:Int) / d=((x / d:Nat):Int):=by omega
 rw [e1,e2]
 split <;> split <;> omega
theorem rqI_sg (s:Bool) (x d:Nat) (hd:0 < d):rqI (sg s x) d=sg s (rq x d):=by
 cases s
 ·exact rqI_nat x d
 ·show rqI (-(x:Int)) d = -((rq x d:Nat):Int)
  rw [rqI_neg _ _ (by omega),rqI_nat]
theorem dd (x:Int) {p q:Int} (hp:0 < p):x / p / q=x / (p*q):=by
 rw [Int.ediv_ediv,if_neg (fun c=>by omega),Int.sub_zero]
theorem bcell {B:Nat} {W w1:World} (hb:Below B W w1):(∀ b o,b < B→w1.cell? ⟨b,o,none⟩=W.cell? ⟨b,o,none⟩)∧(∀ b o,b < B→w1.frozen? ⟨b,o,none⟩=W.frozen? ⟨b,o,none⟩):=
 ⟨fun b o h=>hb.cell (p:=⟨b,o,none⟩) h,fun b o h=>hb.frozen (p:=⟨b,o,none⟩) h⟩
theorem wset_same {W:World} {p:Addr} {x v:Value} (h:W.cell? p=some v):(W.setCell p x).cell? p=some x:=World.cell?_setCell_same _ _ _ h
theorem wset_off {W:World} {b i j:Nat} {x:Value} (hij:j≠i):(W.setCell ⟨b,i,none⟩ x).cell? ⟨b,j,none⟩=W.cell? ⟨b,j,none⟩:=World.cell?_setCell_other _ _ _ _ (by simp;try omega)
theorem two (W:World) (b:Nat) (x0 x1:Value) {y0 y1:Value} (h0:W.cell? ⟨b,0,none⟩=some y0) (h1:W.cell? ⟨b,1,none⟩=some y1):
  ((W.setCell ⟨b,0,none⟩ x0).setCell ⟨b,1,none⟩ x1).cell? ⟨b,0,none⟩=some x0∧((W.setCell ⟨b,0,none⟩ x0).setCell ⟨b,1,none⟩ x1).cell? ⟨b,1,none⟩=some x1:=by
 refine ⟨?_,?_⟩
 ·rw [wset_off (by omega)];exact wset_same h0
 ·exact wset_same (by rw [wset_off (by omega)];exact h1)
theorem ret_int {k:IntKind} {a b:Int} (h:a=b):Ending.returned (.int k a) = .returned (.int k b):=by rw [h]
/-- The two words of a number. -/
theorem words {v:Int} (hv:InW v):∃ h l:Int,wd v = .agg #[.int .i64 h,.int .u64 l]∧-9223372036854775808≤h∧h≤9223372036854775807∧0≤l∧l≤18446744073709551615∧Hid (v=h*18446744073709551616+l):=by
 refine ⟨_,_,rfl,?_⟩
 unfold InW at hv
 refine ⟨by omega,by omega,by omega,by omega,show _=_ by omega⟩
theorem of_any (n:Int) (hn:InR n) (w:World):
  Calls Tryz.prog 185 #[.int .i64 n] w fun e w'=>e = .returned (wd n)∧Below w.heap.size w w':=by
 obtain ⟨h,l,e,h1,h2,l1,l2,H⟩:=words (InR.w hn)
 rw [e]
 unfold InR at hn
 go_enter Tryz.func185,Tryz.ntmps185
 go_wp2
 refine bodyPost_ret (v:=.agg #[.int .i64 h,.int .u64 l]) ?_ rfl ⟨rfl,by go_grown⟩
 have:=H.out
 simp [results,Tryz.results185,go_sem]
 try simp only [IntKind.wrap_u64,wrap64]
 constructor <;> omega
theorem add64 (x y:Int) (hx:0≤x) (hy:0≤y) (w:World):(callFunc 197 #[.int .u64 x,.int .u64 y,.int .u64 0]).run Tryz.prog w =
  .ok (.value (.tuple #[.int .u64 ((x+y) % 18446744073709551616),.int .u64 ((x+y) / 18446744073709551616)])) w:=by
 obtain ⟨x,rfl⟩:=Int.eq_ofNat_of_zero_le hx
 obtain ⟨y,rfl⟩:=Int.eq_ofNat_of_zero_le hy
 rw [run_callFunc_extern Tryz.func197 (by kernel_rfl) (by kernel_rfl) (by kernel_rfl) (e:=add64Entry) (by kernel_rfl)]
 refine (congrArg (fun r=>Result.andThen r _) (run_add64 (x:Int) (y:Int) 0 (by omega) (by omega) (by omega) (by omega) w)).trans ?_
 simp only [Result.andThen]
 congr 5 <;> omega
theorem sub64 (x y:Int) (hx:0≤x) (hy:0≤y) (hy':y≤18446744073709551615) (w:World):(callFunc 206 #[.int .u64 x,.int .u64 y,.int .u64 0]).run Tryz.prog w =
  .ok (.value (.tuple #[.int .u64 ((x+18446744073709551616 - y) % 18446744073709551616),.int .u64 (if x < y then 1 else 0)])) w:=by
 obtain ⟨x,rfl⟩:=Int.eq_ofNat_of_zero_le hx
 obtain ⟨y,rfl⟩:=Int.eq_ofNat_of_zero_le hy
 rw [run_callFunc_extern Tryz.func206 (by kernel_rfl) (by kernel_rfl) (by kernel_rfl) (e:=sub64Entry) (by kernel_rfl)]
 refine (congrArg (fun r=>Result.andThen r _) (run_sub64 x y 0 (by omega) w)).trans ?_
 simp only [Result.andThen]
 congr 5
 ·have:((x+18446744073709551616 - y - 0:Nat):Int)=(x:Int)+18446744073709551616 - y:=by omega
  rw [← this];rfl
 ·by_cases h:x < y
  ·rw [if_pos (by omega),if_pos (by omega)];rfl
  ·rw [if_neg (by omega),if_neg (by omega)];rfl
theorem add_any (a b:Int) (ha:InW a) (hb:InW b) (w:World):
  Calls Tryz.prog 184 #[wd a,wd b] w fun e w'=>e = .returned (wd (wr (a+b)))∧Below w.heap.size w w':=by
 obtain ⟨ah,al,ea,a1,a2,a3,a4,Ha⟩:=words ha
 obtain ⟨bh,bl,eb,b1,b2,b3,b4,Hb⟩:=words hb
 obtain ⟨h,l,e,h1,h2,l1,l2,H⟩:=words (wr_rng (a+b))
 rw [ea,eb,e]
 go_enter Tryz.func184,Tryz.ntmps184
 go_wp2_with (simp only [add64 al bl a3 b3])
 refine bodyPost_ret (v:=.agg #[.int .i64 h,.int .u64 l]) ?_ rfl ⟨rfl,by go_grown⟩
 have:=Ha.out
 have:=Hb.out
 have:=H.out
 simp [results,Tryz.results184,go_sem]
 try simp only [IntKind.wrap_u64,wrap64]
 unfold wr at *
 constructor <;> omega
theorem sub_any (a b:Int) (ha:InW a) (hb:InW b) (w:World):
  Calls Tryz.prog 203 #[wd a,wd b] w fun e w'=>e = .returned (wd (wr (a - b)))∧Below w.heap.size w w':=by
 obtain ⟨ah,al,ea,a1,a2,a3,a4,Ha⟩:=words ha
 obtain ⟨bh,bl,eb,b1,b2,b3,b4,Hb⟩:=words hb
 obtain ⟨h,l,e,h1,h2,l1,l2,H⟩:=words (wr_rng (a - b))
 rw [ea,eb,e]
 have hs:=sub64 al bl a3 b3 b4
 obtain ⟨bo,eo⟩:∃ bo:Int,(if al < bl then 1 else 0)=bo:=⟨_,rfl⟩
 rw [eo] at hs
 have hbo:(al < bl∧bo=1)∨(bl≤al∧bo=0):=by rw [← eo];split <;> omega
 have Hbo:Hid ((al < bl∧bo=1)∨(bl≤al∧bo=0)):=hbo
 have hb1:0≤bo∧bo≤1:=by omega
 clear hbo eo
 go_enter Tryz.func203,Tryz.ntmps203
 go_wp2_with (simp only [hs])
 refine bodyPost_ret (v:=.agg #[.int .i64 h,.int .u64 l]) ?_ rfl ⟨rfl,by go_grown⟩
 have:=Ha.out
 have:=Hb.out
 have:=H.out
 have:=Hbo.out
 simp [results,Tryz.results203,go_sem]
 try simp only [IntKind.wrap_u64,wrap64]
 unfold wr at *
 constructor <;> omega
theorem neg_any (a:Int) (ha:InW a) (w:World):
  Calls Tryz.prog 199 #[wd a] w fun e w'=>e = .returned (wd (wr (-a)))∧Below w.heap.size w w':=by
 obtain ⟨ah,al,ea,a1,a2,a3,a4,Ha⟩:=words ha
 obtain ⟨h,l,e,h1,h2,l1,l2,H⟩:=words (wr_rng (-a))
 have hs:∀ W:World,Calls Tryz.prog 203 #[.agg #[.int .i64 0,.int .u64 0],.agg #[.int .i64 ah,.int .u64 al]] W fun e w'=>e = .returned (.agg #[.int .i64 h,.int .u64 l])∧Below W.heap.size W w':=by
  intro W
  have:=sub_any 0 a (by unfold InW;omega) ha W
  rw [Int.zero_sub,e,ea] at this
  exact this
 rw [ea,e]
 clear ea e
 go_enter Tryz.func199,Tryz.ntmps199
 go_wp2_with fail
 refine (hs _).mono ?_
 rintro e' w1 ⟨rfl,hb⟩
 obtain ⟨hcell,hfroz⟩:=bcell hb
 have hB:Below w.heap.size w w1:=Below.trans (by go_grown) (hb.mono (by simp;try omega))
 have hsz:=hb.size
 simp at hsz
 go_wp2
 obtain ⟨f0,f1⟩:=two w1 (w.heap.size+1) (.int .i64 h) (.int .u64 l) (by rw [hcell _ _ (by simp)];simp [go_sem];rfl) (by rw [hcell _ _ (by simp)];simp [go_sem];rfl)
 refine bodyPost_ret (v:=.agg #[.int .i64 h,.int .u64 l]) (by simp [results,Tryz.results199,go_sem,f0,f1]) rfl ⟨rfl,by go_grown⟩
theorem bound_any (b:Bool) (w:World):
  Calls Tryz.prog 186 #[.bool b] w fun e w'=>e = .returned (.int .i64 (lim b))∧w'=w:=by
 cases b
 all_goals
  go_enter Tryz.func186,Tryz.ntmps186
  go_wp2
  go_ret
  exact ⟨rfl,rfl⟩
theorem wsize_any (a n:Int) (ha:InR a) (hn:(a.natAbs:Int)=n) (w:World):
  Calls Tryz.prog 189 #[.int .i64 a] w fun e w'=>e = .returned (.int .u64 n)∧w'=w:=by
 unfold InR at ha
 have H:Hid ((a.natAbs:Int)=n):=hn
 clear hn
 by_cases h:a < 0
 all_goals
  go_enter Tryz.func189,Tryz.ntmps189
  go_wp2
  go_ret
  refine ⟨ret_int ?_,rfl⟩
  have hn:=H.out
  try simp only [IntKind.wrap_u64]
  omega
theorem signed_any (b:Bool) (a:Int) (ha:InW a) (w:World):
  Calls Tryz.prog 188 #[.bool b,wd a] w fun e w'=>e = .returned (wd (if b then wr (-a) else a))∧Below w.heap.size w w':=by
 obtain ⟨ah,al,ea,a1,a2,a3,a4,Ha⟩:=words ha
 cases b
 ·simp only [Bool.false_eq_true,if_false]
  rw [ea]
  clear ea
  go_enter Tryz.func188,Tryz.ntmps188
  go_wp2
  exact bodyPost_ret (v:=.agg #[.int .i64 ah,.int .u64 al]) (by simp [results,Tryz.results188,go_sem]) rfl ⟨rfl,by go_grown⟩
 ·simp only [if_true]
  obtain ⟨h,l,e,h1,h2,l1,l2,H⟩:=words (wr_rng (-a))
  have hs:∀ W:World,Calls Tryz.prog 199 #[.agg #[.int .i64 ah,.int .u64 al]] W fun e w'=>e = .returned (.agg #[.int .i64 h,.int .u64 l])∧Below W.heap.size W w':=by
   intro W
   have:=neg_any a ha W
   rw [e,ea] at this
   exact this
  rw [ea,e]
  clear ea e
  go_enter Tryz.func188,Tryz.ntmps188
  go_wp2_with fail
  refine (hs _).mono ?_
  rintro e' w1 ⟨rfl,hb⟩
  obtain ⟨hcell,hfroz⟩:=bcell hb
  have hB:Below w.heap.size w w1:=Below.trans (by go_grown) (hb.mono (by simp;try omega))
  have hsz:=hb.size
  simp at hsz
  go_wp2
  obtain ⟨f0,f1⟩:=two w1 (w.heap.size+1) (.int .i64 h) (.int .u64 l) (by rw [hcell _ _ (by simp)];simp [go_sem];rfl) (by rw [hcell _ _ (by simp)];simp [go_sem];rfl)
  refine bodyPost_ret (v:=.agg #[.int .i64 h,.int .u64 l]) (by simp [results,Tryz.results188,go_sem,f0,f1]) rfl ⟨rfl,by go_grown⟩
theorem wrapi_in (x:Int):InR (IntKind.i64.wrap x):=by unfold InR;rw [IntKind.wrap_i64];omega
theorem of_at (al:Int) (ha:0≤al∧al≤18446744073709551615) (W:World):Calls Tryz.prog 185 #[.int .i64 (IntKind.i64.wrap al)] W fun e w'=>e = .returned (.agg #[.int .i64 (if al < 9223372036854775808 then 0 else -1),.int .u64 al])∧Below W.heap.size W w':=by
 have:=of_any (IntKind.i64.wrap al) (wrapi_in al) W
 have e:wd (IntKind.i64.wrap al) = .agg #[.int .i64 (if al < 9223372036854775808 then 0 else -1),.int .u64 al]:=by
  refine (wd_eq ?_ ?_).symm
  ·rw [IntKind.wrap_i64];split <;> omega
  ·rw [IntKind.wrap_i64];omega
 rw [e] at this
 exact this
theorem fix_any (a:Int) (ha:InW a) (w:World):
  Calls Tryz.prog 156 #[wd a] w fun e w'=>e = .returned (.int .i64 (hold a))∧Below w.heap.size w w':=by
 obtain ⟨ah,al,ea,a1,a2,a3,a4,Ha⟩:=words ha
 have hs:=of_at al ⟨a3,a4⟩
 obtain ⟨oh,eo⟩:∃ oh:Int,(if al < 9223372036854775808 then 0 else -1)=oh:=⟨_,rfl⟩
 rw [eo] at hs
 have Ho:Hid ((if al < 9223372036854775808 then 0 else -1)=oh):=eo
 have ob:-1≤oh∧oh≤0:=by rw [← eo];split <;> omega
 rw [ea]
 clear ea eo
 by_cases h:oh=ah
 ·subst h
  go_enter Tryz.func156,Tryz.ntmps156
  go_wp2_with fail
  go_region_with (go_at_call 185;refine (hs _).mono ?_;rintro e' w1 ⟨rfl,hb⟩;obtain ⟨hcell,hfroz⟩:=bcell hb;have hB:Below w.heap.size w w1:=Below.trans (by go_grown) (hb.mono (by simp;try omega));have hsz:=hb.size;simp at hsz)
  all_goals
   go_wp2
   go_ret
   refine ⟨ret_int ?_,by go_grown⟩
   have h1:=Ha.out
   have h2:=Ho.out
   try simp only [IntKind.wrap_i64,wrap64]
   unfold hold
   split at h2 <;> split <;> (try split) <;> omega
 ·have hne:(oh==ah)=false:=by simpa using h
  go_enter Tryz.func156,Tryz.ntmps156
  go_wp2_with fail
  go_region_with (go_at_call 185;refine (hs _).mono ?_;rintro e' w1 ⟨rfl,hb⟩;obtain ⟨hcell,hfroz⟩:=bcell hb;have hB:Below w.heap.size w w1:=Below.trans (by go_grown) (hb.mono (by simp;try omega));have hsz:=hb.size;simp at hsz)
  all_goals
   go_wp2_with (go_at_call 186;refine (bound_any _ _).mono ?_;rintro e' w2 ⟨rfl,rfl⟩)
   go_ret
   refine ⟨ret_int ?_,by go_grown⟩
   have h1:=Ha.out
   have h2:=Ho.out
   unfold InW at ha
   unfold lim hold
   simp only [decide_eq_true_eq]
   split at h2 <;> split <;> split <;> (try split) <;> omega
end Go.Proofs.YtpdkkcnmgiihcaaGreatDoor.Wd
