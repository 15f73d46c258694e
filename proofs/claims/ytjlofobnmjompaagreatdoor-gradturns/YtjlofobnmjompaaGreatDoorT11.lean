/- Tensors: what matm.Flip and matm.sideLast hand back. · Tensors: what slices.Repeat of one number, and tens.New, hand back. Tensors: what the reference's New hands back. -/
import Derived.Test.YtjlofobnmjompaaGreatDoorT09
import Derived.Test.YtjlofobnmjompaaGreatDoorT10
import Derived.Test.YtjlofobnmjompaaGreatDoorT01
import Derived.Test.YtjlofobnmjompaaGreatDoorT02
import Derived.Laws.CopyOwn
import Derived.Deep.RegionLaw
set_option linter.unusedVariables false
set_option linter.unusedSimpArgs false
set_option maxHeartbeats 16000000
set_option maxRecDepth 16000
namespace Go.Proofs.YtjlofobnmjompaaGreatDoor.Wd
open Go.RowKit Fx
/-- A tensor of two sides. -/
theorem l_V {H D:Nat} {x:List Int} (M:x.length=H*D) (R:1<=H) (O:1<=D) (I:H*D<=4096):isP [(H:Int),(D:Int)] x:=by
 have e:a_e [H,D]=H*D:=by simp [a_e]
 have L:ntl [(H:Int),(D:Int)] = [H,D]:=a_o [H,D];unfold isP;rw [L];refine ⟨⟨by simp,fun y J=>?_,by rw [e];exact I⟩,by rw [e];exact M⟩;simp at J;omega
def flE (d x:List Int):Int:=if isP d x then if d.length=2 then 0 else 4 else 1
def flD (d x:List Int):List Int:=if isP d x/\d.length=2 then [d.getD 1 0,d.getD 0 0] else []
def flV (d x:List Int):List Int:=if isP d x/\d.length=2 then n_U (d.getD 0 0).toNat (d.getD 1 0).toNat x else []
/-- The sides but one. -/
def i_u (s:Nat) (side:Int):List Int:=(itl (List.range s)).filter fun i=>decide (i≠side)
def c_p (s:Nat) (side:Int):List Int:=i_u s side++[side]
theorem h_N (s:Nat) (D:Int):i_u (s+1) D=i_u s D++if (s:Int)=D then [] else [(s:Int)]:=by
 unfold i_u itl;rw [List.range_succ,List.map_append,List.filter_append]
 congr 1
 by_cases h:(s:Int)=D <;> simp [h]
theorem j_K (s:Nat) (D:Int):(i_u s D).length<=s:=by
 have:=List.length_filter_le (fun i=>decide (i≠D)) (itl (List.range s));rw [a_v,List.length_range] at this;exact this
theorem h_O (s:Nat) (hs:s<=1000) (D:Int) (hr:InR D) (w:World):
  Calls Tryz.prog 151 #[.int .i64 (s:Int),.int .i64 D] w fun e w'=>∃ v',e = .returned v'/\OwnK .i64 3 w' w.heap.size v' (c_p s D)/\Below w.heap.size w w':=by
 have ad:(s:Int)<=1000:=by omega
 obtain ⟨L,U⟩:∃ L,c_p s D=L:=⟨_,rfl⟩
 have HL:Hid (c_p s D=L):=U;rw [U];unfold InR at hr;clear U;go_enter Tryz.func151,Tryz.ntmps151;go_wp2_with (at_make;refine d_4 i_e (by decide) _ rfl (.const (.int .i64 0)) (.tmp 7) rfl .i64 .i64 _ s rfl rfl rfl (by omega) ?_;intro w1 ab B1)
 have ac:Hid (Below w.heap.size w w1):=B1;clear B1
 go_loopg [5,10] s (fun gg r i wr=>∃ (k:Nat),k<=s/\gg=s - k/\i = .int .i64 (k:Int)/\Hid (OwnK .i64 3 wr w.heap.size r (i_u k D))/\Hid (Below w.heap.size w wr))
 case atStart=>exact ⟨0,by omega,by omega,by first|rfl|simp,ab,ac⟩
 case round=>
  obtain ⟨k,hk,hg,rfl,R,O⟩:=hrel;obtain ⟨H,aa⟩:∃ H:World,H=wr:=⟨_,rfl⟩
  subst aa;by_cases ae:k < s
  ·have af:(k:Int) < (s:Int):=by omega
   by_cases he:(k:Int)=D
   ·subst he;have V:((k:Int) != (k:Int))=false:=by simp
    have H7:Hid (OwnK .i64 3 H w.heap.size u5 (i_u (k+1) (k:Int))):=by
     show OwnK _ _ _ _ _ _;rw [h_N,if_pos rfl,List.append_nil];exact R.out
    go_wp2;go_roundg (s - (k+1))
    case measure=>omega
    case rel=>exact ⟨k+1,by omega,rfl,by first|rfl|simp,H7,O⟩
   ·have V:((k:Int) != D)=true:=by simp [he]
    have H6:Hid (OwnK .i64 3 (H.alloc (.cells #[.int .i64 (k:Int)] 3)) w.heap.size u5 (i_u k D)):=R.out.up (a_b H _);have M:Hid (Nums .i64 (H.alloc (.cells #[.int .i64 (k:Int)] 3)) (.slice (some ⟨H.heap.size,0,none⟩) 1 1) [(k:Int)]):=a_3 (k:=.i64) H [(k:Int)] 1 (0,0) rfl;have I:Hid (Below w.heap.size w (H.alloc (.cells #[.int .i64 (k:Int)] 3))):=g_a O.out _
    have J:Hid ((i_u k D).length+[(k:Int)].length<=1073741824):=by
     show _<=_;have:=j_K k D;rw [List.length_singleton];omega
    go_wp2_with (at_builtin;refine a_F i_e (by decide) rfl (.tmp 16) (.tmp 18) rfl w.heap.size _ _ rfl H6.out _ [(k:Int)] rfl M.out J.out I.out.size w I.out ?_;intro v0 w0 H0 B0)
    have H7:Hid (OwnK .i64 3 w0 w.heap.size v0 (i_u (k+1) D)):=by
     show OwnK _ _ _ _ _ _;rw [h_N,if_neg he];exact H0.out
    go_roundg (s - (k+1))
    case measure=>omega
    case rel=>exact ⟨k+1,by omega,rfl,by first|rfl|simp,H7,B0⟩
  ·obtain rfl:k=s:=by omega
   have H6:Hid (OwnK .i64 3 (H.alloc (.cells #[.int .i64 D] 3)) w.heap.size u5 (i_u k D)):=R.out.up (a_b H _);have M:Hid (Nums .i64 (H.alloc (.cells #[.int .i64 D] 3)) (.slice (some ⟨H.heap.size,0,none⟩) 1 1) [D]):=a_3 (k:=.i64) H [D] 1 (0,0) rfl;have I:Hid (Below w.heap.size w (H.alloc (.cells #[.int .i64 D] 3))):=g_a O.out _
   have J:Hid ((i_u k D).length+[D].length<=1073741824):=by
    show _<=_;have:=j_K k D;rw [List.length_singleton];omega
   go_wp2_with (at_builtin;refine a_F i_e (by decide) rfl (.tmp 21) (.tmp 23) rfl w.heap.size _ _ rfl H6.out _ [D] rfl M.out J.out I.out.size w I.out ?_;intro v0 w0 H0 B0)
   go_ret;exact ⟨_,rfl,by rw [<- HL.out];exact H0.out,B0⟩
end Go.Proofs.YtjlofobnmjompaaGreatDoor.Wd
namespace Go.Proofs.YtjlofobnmjompaaGreatDoor.Wd
open Go.RowKit
theorem OwnK.heap {k:IntKind} {e:TypeId} {W:World} {B g n:Nat} {l:List Int} (h:OwnK k e W B (.slice (some ⟨g,0,none⟩) n n) l) (R:l.length=n):W.heap[g]?=some (.cells (b_c k l).toArray e (0,0))/\B<=g:=by
 subst R;rcases h.2 with ⟨D,_⟩|⟨q,O,H,D,M,J,h4,V,U,I⟩
 ·cases D
 ·cases D
  have L:H=(b_c k l).toArray:=by
   rw [Nat.mul_one] at U I;rw [<- I,List.take_of_length_le (by simp;omega)]
  rw [L] at J;exact ⟨J,M⟩
theorem OwnK.of_heap {k:IntKind} {e:TypeId} {W:World} {B g n:Nat} {l:List Int} (h:W.heap[g]?=some (.cells (b_c k l).toArray e (0,0))) (D:B<=g) (H:l.length=n) (I:n<=1073741824):OwnK k e W B (.slice (some ⟨g,0,none⟩) n n) l:=by
 subst H;refine ⟨by simp [b_c],.inr ⟨g,l.length,(b_c k l).toArray,rfl,D,h,Nat.le_refl _,by unfold maxLen;omega,by simp [b_c],by rw [Nat.mul_one,List.take_of_length_le (by simp [b_c])]⟩⟩
/-- k times X, and noughts. -/
def rep (X:Int) (N k:Nat):List Int:=List.replicate k X++List.replicate (N - k) 0
theorem i_v (X:Int) (N k:Nat) (h:k<=N):(rep X N k).length=N:=by simp [rep];omega
theorem g_i (X:Int) (N k m:Nat) (h:k+m<=N):splice (b_c .i64 (rep X N k)) k (b_c .i64 (List.replicate m X))=b_c .i64 (rep X N (k+m)):=by
 unfold splice b_c;rw [<- List.map_take,<- List.map_drop,<- List.map_append,<- List.map_append]
 congr 1
 unfold rep;rw [List.length_map,List.length_replicate,List.take_append_of_le_length (by simp),List.take_of_length_le (by simp),List.drop_append,List.drop_of_length_le (by simp),List.drop_replicate,List.nil_append,List.length_replicate,<- List.append_assoc,List.replicate_append_replicate]
 congr 2
 omega
theorem n_4 (X:Int) (N:Nat):rep X N N=List.replicate N X:=by simp [rep]
theorem n_5 (X:Int) (N:Nat):rep X N 0=List.replicate N 0:=by simp [rep]
theorem p_7 (X:Int) (N k j:Nat) (v:Value) (m:Nat) (I:m<=k) (h:(b_c .i64 (List.replicate m X))[j]?=some v):(b_c .i64 (rep X N k))[j]?=some v:=by
 unfold b_c at *;rw [List.getElem?_map] at *
 have H:j < m:=by
  rcases Nat.lt_or_ge j m with D|D
  ·exact D
  ·rw [List.getElem?_eq_none (by simp;exact D)] at h;cases h
 rw [List.getElem?_eq_getElem (by simp;exact H),List.getElem_replicate] at h;unfold rep;rw [List.getElem?_append_left (by simp;omega),List.getElem?_eq_getElem (by simp;omega),List.getElem_replicate];exact h
theorem p_8 {w H:World} {p:Option Addr} {c:Nat} {X:Int} (h:Nums .i64 w (.slice p 1 c) [X]) (J:Below w.heap.size w H):Hid (∃ D,p=some D/\∀ j v,(b_c .i64 (List.replicate 1 X))[j]?=some v->H.cell? (D.add j)=some v):=by
 rcases h.up J with ⟨_,L⟩|⟨D,O,I,M⟩
 ·cases L
 ·cases I;exact ⟨D,rfl,M⟩
theorem l_W {k:IntKind} {W:World} {g:Nat} {l:List Int} {e:TypeId} (h:W.heap[g]?=some (.cells (b_c k l).toArray e (0,0))) (j:Nat) (v:Value) (D:(b_c k l)[j]?=some v):W.cell? ((⟨g,0,none⟩:Addr).add j)=some v:=by
 rw [a_u,Nat.zero_add];unfold World.cell?;simp only [h];simpa using D
theorem c_O (k:IntKind) (l:List Int):(b_c k l).length=l.length:=by simp [b_c]
theorem k_D (p:Option Addr) (c:Nat) (X:Int) (N:Nat) (hN:1<=N/\N<=4096) (w:World) (hv:Nums .i64 w (.slice p 1 c) [X]):
  Calls Tryz.prog 86 #[.slice p 1 c,.int .i64 (N:Int)] w fun e I=>∃ v',e = .returned v'/\OwnK .i64 23 I w.heap.size v' (List.replicate N X)/\Below w.heap.size w I:=by
 have cM:Calls Tryz.prog 102 #[.int .u64 1,.int .u64 (N:Int)] w fun e I=>e = .returned (.tuple #[.int .u64 0,.int .u64 (N:Int)])/\I=w:=by
  have:=Tryz.bits_Mul 1 N (by decide) (by omega) w;rw [Nat.one_mul,Nat.div_eq_of_lt (by omega),Nat.mod_eq_of_lt (by omega)] at this;exact this
 have ac:1<=(N:Int)/\(N:Int)<=4096:=by omega
 have HV:Hid (Nums .i64 w (.slice p 1 c) [X]):=hv;clear hv;go_enter Tryz.func86,Tryz.ntmps86;go_wp2_with fail
 refine cM.mono ?_;rintro e D ⟨rfl,rfl⟩;clear cM
 go_wp2_with (first
  |(at_make;refine a_z k_u (by decide) _ rfl (.tmp 29) (.tmp 29) rfl .i64 .i64 N N N rfl rfl rfl rfl (by omega) D.heap.size D (Nat.le_refl _) (Below.refl _ _) ?_;intro w2 J B0 M;clear B0;rw [<- n_5 X N] at J;have H:Hid (w2.heap[D.heap.size]?=some (.cells (b_c .i64 (rep X N 0)).toArray 23 (0,0))):=(J.out.heap (i_v X N 0 (Nat.zero_le _))).1;have HS:=p_8 HV.out M;clear J)
  | (have hR:=H.out;refine wpList_copy_splice rfl (.tmp 31) (.tmp 32) 24 24 rfl 23 Tryz.underlying24 (by kernel_rfl) _ _ _ _ _ _ rfl rfl D.heap.size 0 (b_c .i64 (rep X N 0)) 23 hR (b_c .i64 (List.replicate 1 X)) (by rw [c_O,List.length_replicate];exact (Nat.min_eq_left hN.1).symm) (fun _=>⟨rfl,HS.out⟩) (by rw [c_O,c_O,i_v X N 0 (by omega),List.length_replicate];omega) (g_v _ _) D.heap.size D M (Nat.le_refl _) ?_;intro w3 O B3;rw [g_i X N 0 1 (by omega),Nat.zero_add] at O;clear H HS M hR))
 obtain ⟨g,V⟩:∃ g,D.heap.size=g:=⟨_,rfl⟩
 have Hg:Hid (D.heap.size=g):=V;rw [V] at O ⊢;clear V
 go_loopg [8] (N - 1) (fun gg i wr=>∃ (k:Nat),1<=k/\k<=N/\gg=N - k/\i = .int .i64 (k:Int)/\Hid (wr.heap[g]?=some (.cells (b_c .i64 (rep X N k)).toArray 23 (0,0)))/\Hid (Below D.heap.size D wr))
 case atStart=>exact ⟨1,by omega,by omega,by omega,by first|rfl|simp,O,B3⟩
 case round=>
  obtain ⟨k,ae,hk,ab,rfl,U,hB⟩:=hrel;by_cases aa:k < N
  ·have ad:(k:Int) < (N:Int):=by omega
   have af:0<=(k:Int):=by omega
   obtain ⟨m,em⟩:∃ m,min k (N - k)=m:=⟨_,rfl⟩
   have hm:1<=m/\k+m<=N/\m<=k:=by omega
   have HM:Hid (min k (N - k)=m):=em;have L:¬ (N=k):=by omega
   have R:Hid (Below D.heap.size D wr.drew):=hB.out.trans ⟨rfl,rfl,rfl,Nat.le_refl _,fun _ _=>rfl⟩;have HC:Hid (∀ j v,(b_c .i64 (List.replicate m X))[j]?=some v->wr.drew.cell? ((⟨g,0,none⟩:Addr).add j)=some v):=fun j v hj=>l_W (W:=wr.drew) U.out j v (p_7 X N k j v m (by omega) hj);clear em;go_wp2_with fail
   go_region_law (refine step_copy_splice rfl (.tmp 41) (.tmp 44) 24 24 rfl 23 Tryz.underlying24 (by kernel_rfl) (some ⟨g,k,none⟩) (some ⟨g,0,none⟩) (N - k) (N - k) k N (by simp [Act.eval,Act.put,L]) (by simp [Act.eval,Act.put]) g k (b_c .i64 (rep X N k)) 23 U.out (b_c .i64 (List.replicate m X)) (by rw [c_O,List.length_replicate];exact HM.out.symm) (fun _=>⟨rfl,⟨g,0,none⟩,rfl,HC.out⟩) (by rw [c_O,c_O,i_v X N k (by omega),List.length_replicate];omega) (g_v _ _) D.heap.size D R.out (Nat.le_of_eq Hg.out) ?_;intro w4 H4 B4;rw [g_i X N k m (by omega)] at H4;rw [show (b_c .i64 (List.replicate m X)).length=m by rw [c_O,List.length_replicate]])
   all_goals
    go_wp2;go_roundg (N - (k+m))
   case measure=>omega
   case rel=>exact ⟨k+m,by omega,by omega,rfl,by simp [goInt];rw [IntKind.wrap_i64];omega,H4,B4⟩
  ·obtain rfl:k=N:=by omega
   have HF:Hid (OwnK .i64 23 wr D.heap.size (.slice (some ⟨g,0,none⟩) k k) (List.replicate k X)/\Below D.heap.size D wr):=by
    refine ⟨?_,hB.out⟩;have:=U.out;rw [n_4] at this;exact OwnK.of_heap this (Nat.le_of_eq Hg.out) (by simp) (by omega)
   go_wp2;go_ret;exact ⟨_,rfl,HF.out⟩
def l_X (d:List Int):Int:=if goodN (ntl d) then 0 else 1
def d_S (d:List Int):List Int:=if goodN (ntl d) then d else []
def l_Y (d:List Int) (X:Int):List Int:=if goodN (ntl d) then List.replicate (a_e (ntl d)) X else []
theorem c_P (v:Value) (d:List Int) (hd:RI d) (X:Int) (w:World) (h1:Nums .i64 w v d):
  Calls Tryz.prog 67 #[v,.int .i64 X] w fun e w'=>∃ v',e = .returned (.tuple #[v',.int .i64 (l_X d)])/\TRes w' w.heap.size v' (d_S d) (l_Y d X)/\Below w.heap.size w w':=by
 have V:=fun W (hW:Below w.heap.size w W)=>b_X _ d hd W (h1.up hW);have cZ:=fun W (hW:Below w.heap.size w W)=>size_any _ d hd W (h1.up hW);unfold l_X d_S l_Y;by_cases I:goodN (ntl d)
 ·rw [decide_eq_true I] at V;rw [b_0 I] at cZ;rw [if_pos I,if_pos I,if_pos I];have cC:=fun W (hW:Below w.heap.size w W)=>b_h _ d (by have:=I.1;rw [a_Q] at this;omega) W (h1.up hW);have hN:1<=a_e (ntl d)/\a_e (ntl d)<=4096:=⟨I.pos,I.2.2⟩
  obtain ⟨N,eN⟩:∃ N,a_e (ntl d)=N:=⟨_,rfl⟩
  rw [eN] at cZ hN ⊢;clear eN I h1 hd;go_enter Tryz.func67,Tryz.ntmps67;go_wp2_with fail
  generalize H:World.alloc _ _=W0;have D:Hid (Below w.heap.size w W0):=by show Below _ _ _;rw [<- H];go_grown
  have XR:Hid (Cel W0 w.heap.size (.slice none 0 0) (.slice none 0 0)):=a_y H (by simp [go_sem]);clear H;refine (V W0 D.out).mono ?_;rintro e O ⟨rfl,rfl⟩;clear V;go_wp2_with fail
  refine (cC O D.out).mono ?_;rintro e w2 ⟨v2,rfl,h2,aa⟩;have H2:Hid (OwnK .i64 3 w2 O.heap.size v2 d/\Below O.heap.size O w2):=⟨h2,aa⟩
  obtain ⟨p2,n2,c2,rfl,_⟩:=h2.nums.lst;clear cC h2 aa;go_wp2_with fail
  generalize R:World.alloc _ _=W3;have J:Hid (Below w2.heap.size w2 W3):=by show Below _ _ _;rw [<- R];go_grown
  have HX:Hid (Nums .i64 W3 (.slice (some ⟨w2.heap.size,0,none⟩) 1 1) [X]):=by rw [<- R];exact a_3 (k:=.i64) w2 [X] 1 (0,0) rfl
  have L:Hid (Below O.heap.size O W3/\Below w.heap.size w W3):=⟨a_c H2.out.2 J.out,a_c D.out (a_c H2.out.2 J.out)⟩
  clear R;refine (cZ W3 L.out.2).mono ?_;rintro e w4 ⟨rfl,rfl⟩;clear cZ;have cR:=k_D _ 1 X N hN w4 HX.out;go_wp2_with fail
  refine cR.mono ?_;rintro e w5 ⟨v5,rfl,h5,U⟩;obtain ⟨p5,n5,c5,rfl,_⟩:=h5.nums.lst;have M:=a_c L.out.1 U
  have HF:Hid (TRes (set2 w5 w.heap.size (.slice p2 n2 c2) (.slice p5 n5 c5)) w.heap.size (.agg #[.slice p2 n2 c2,.slice p5 n5 c5]) d (List.replicate N X)/\Below w.heap.size w (set2 w5 w.heap.size (.slice p2 n2 c2) (.slice p5 n5 c5))):=by
   refine ⟨(TRes.set (H2.out.1.up (a_c J.out U)) (h5.low L.out.1.size) (a_a XR.out.1)).low D.out.size,a_j (a_c D.out M) _ (Nat.le_refl _) _ _⟩
  have xr:=XR.out.up M;have cf:=xr.set (.slice p2 n2 c2) (.slice p5 n5 c5);obtain ⟨r0,r1,r2,r3⟩:=xr;obtain ⟨y0,y1,_,_⟩:=cf;clear cR h5 U M;go_wp2;exact bodyPost_ret (v:=.tuple #[.agg #[.slice p2 n2 c2,.slice p5 n5 c5],.int .i64 0]) (by simp [results,Tryz.results67,go_sem,y0,y1]) rfl ⟨_,rfl,HF.out⟩
 ·rw [decide_eq_false I] at V;rw [if_neg I,if_neg I,if_neg I];clear I h1 hd cZ;go_enter Tryz.func67,Tryz.ntmps67;go_wp2_with fail
  generalize H:World.alloc _ _=W0;have D:Hid (Below w.heap.size w W0):=by show Below _ _ _;rw [<- H];go_grown
  have XR:Hid (Cel W0 w.heap.size (.slice none 0 0) (.slice none 0 0)):=a_y H (by simp [go_sem]);clear H;refine (V W0 D.out).mono ?_;rintro e O ⟨rfl,rfl⟩;clear V;have xr:=XR.out;have BF:=a_j D.out w.heap.size (Nat.le_refl _) (.slice none 0 0) (.slice none 0 0);have cf:=xr.set (.slice none 0 0) (.slice none 0 0);obtain ⟨r0,r1,r2,r3⟩:=xr;obtain ⟨y0,y1,_,_⟩:=cf;go_wp2;exact bodyPost_ret (v:=.tuple #[.agg #[.slice none 0 0,.slice none 0 0],.int .i64 1]) (by simp [results,Tryz.results67,go_sem,y0,y1]) rfl ⟨_,rfl,TRes.none _ _,BF⟩
theorem e_x (W:World) (o:Obj):(W.alloc o).heap.size=W.heap.size+1:=Array.size_push _
end Go.Proofs.YtjlofobnmjompaaGreatDoor.Wd
