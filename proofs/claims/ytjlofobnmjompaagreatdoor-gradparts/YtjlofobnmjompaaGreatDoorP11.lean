/- Tensors: what matm.Flip and matm.sideLas -/
import Derived.Test.YtjlofobnmjompaaGreatDoorP09
import Derived.Test.YtjlofobnmjompaaGreatDoorP10
import Derived.Laws.CopyOwn
import Derived.Deep.RegionLaw
set_option linter.unusedVariables false
set_option linter.unusedSimpArgs false
set_option maxHeartbeats 16000000
set_option maxRecDepth 16000
namespace Go.Proofs.YtjlofobnmjompaaGreatDoor.Wd
open Go.RowKit Fx
/-- A tensor of two sides. -/
theorem l_1 {D E:Nat} {x:List Int} (L:x.length=D*E) (M:1<=D) (O:1<=E) (J:D*E<=4096):isP [(D:Int),(E:Int)] x:=by
 have e:a_e [D,E]=D*E:=by simp [a_e]
 have H:ntl [(D:Int),(E:Int)] = [D,E]:=a_p [D,E];unfold isP;rw [H];refine ⟨⟨by simp,fun y I=>?_,by rw [e];exact J⟩,by rw [e];exact L⟩;simp at I;omega
def flE (d x:List Int):Int:=if isP d x then if d.length=2 then 0 else 4 else 1
def flD (d x:List Int):List Int:=if isP d x/\d.length=2 then [d.getD 1 0,d.getD 0 0] else []
def flV (d x:List Int):List Int:=if isP d x/\d.length=2 then n_4 (d.getD 0 0).toNat (d.getD 1 0).toNat x else []
/-- The sides but one. -/
def i_x (s:Nat) (side:Int):List Int:=(itl (List.range s)).filter fun i=>decide (i≠side)
def c_p (s:Nat) (side:Int):List Int:=i_x s side++[side]
theorem h_Q (s:Nat) (D:Int):i_x (s+1) D=i_x s D++if (s:Int)=D then [] else [(s:Int)]:=by
 unfold i_x itl;rw [List.range_succ,List.map_append,List.filter_append]
 congr 1
 by_cases h:(s:Int)=D <;> simp [h]
theorem j_L (s:Nat) (D:Int):(i_x s D).length<=s:=by
 have:=List.length_filter_le (fun i=>decide (i≠D)) (itl (List.range s));rw [a_v,List.length_range] at this;exact this
theorem h_R (s:Nat) (hs:s<=1000) (D:Int) (hr:InR D) (w:World):
  Calls Tryz.prog 151 #[.int .i64 (s:Int),.int .i64 D] w fun e w'=>∃ v',e = .returned v'/\OwnK .i64 3 w' w.heap.size v' (c_p s D)/\Below w.heap.size w w':=by
 have ae:(s:Int)<=1000:=by omega
 obtain ⟨L,M⟩:∃ L,c_p s D=L:=⟨_,rfl⟩
 have HL:Hid (c_p s D=L):=M;rw [M];unfold InR at hr;clear M;go_enter Tryz.func151,Tryz.ntmps151;go_wp2_with (at_make;refine d_7 i_g (by decide) _ rfl (.const (.int .i64 0)) (.tmp 7) rfl .i64 .i64 _ s rfl rfl rfl (by omega) ?_;intro w1 O B1)
 have aa:Hid (Below w.heap.size w w1):=B1;clear B1
 go_loopg [5,10] s (fun gg r i wr=>∃ (k:Nat),k<=s/\gg=s - k/\i = .int .i64 (k:Int)/\Hid (OwnK .i64 3 wr w.heap.size r (i_x k D))/\Hid (Below w.heap.size w wr))
 case atStart=>exact ⟨0,by omega,by omega,by first|rfl|simp,O,aa⟩
 case round=>
  obtain ⟨k,hk,hg,rfl,HO,U⟩:=hrel;obtain ⟨E,ab⟩:∃ E:World,E=wr:=⟨_,rfl⟩
  subst ab;by_cases ad:k < s
  ·have ac:(k:Int) < (s:Int):=by omega
   by_cases he:(k:Int)=D
   ·subst he;have R:((k:Int) != (k:Int))=false:=by simp
    have H7:Hid (OwnK .i64 3 E w.heap.size u5 (i_x (k+1) (k:Int))):=by
     show OwnK _ _ _ _ _ _;rw [h_Q,if_pos rfl,List.append_nil];exact HO.out
    go_wp2;go_roundg (s - (k+1))
    case measure=>omega
    case rel=>exact ⟨k+1,by omega,rfl,by first|rfl|simp,H7,U⟩
   ·have R:((k:Int) != D)=true:=by simp [he]
    have H6:Hid (OwnK .i64 3 (E.alloc (.cells #[.int .i64 (k:Int)] 3)) w.heap.size u5 (i_x k D)):=HO.out.up (a_b E _);have I:Hid (Nums .i64 (E.alloc (.cells #[.int .i64 (k:Int)] 3)) (.slice (some ⟨E.heap.size,0,none⟩) 1 1) [(k:Int)]):=a_5 (k:=.i64) E [(k:Int)] 1 (0,0) rfl;have H:Hid (Below w.heap.size w (E.alloc (.cells #[.int .i64 (k:Int)] 3))):=g_a U.out _
    have J:Hid ((i_x k D).length+[(k:Int)].length<=1073741824):=by
     show _<=_;have:=j_L k D;rw [List.length_singleton];omega
    go_wp2_with (at_builtin;refine a_E i_g (by decide) rfl (.tmp 16) (.tmp 18) rfl w.heap.size _ _ rfl H6.out _ [(k:Int)] rfl I.out J.out H.out.size w H.out ?_;intro v0 w0 H0 V)
    have H7:Hid (OwnK .i64 3 w0 w.heap.size v0 (i_x (k+1) D)):=by
     show OwnK _ _ _ _ _ _;rw [h_Q,if_neg he];exact H0.out
    go_roundg (s - (k+1))
    case measure=>omega
    case rel=>exact ⟨k+1,by omega,rfl,by first|rfl|simp,H7,V⟩
  ·obtain rfl:k=s:=by omega
   have H6:Hid (OwnK .i64 3 (E.alloc (.cells #[.int .i64 D] 3)) w.heap.size u5 (i_x k D)):=HO.out.up (a_b E _);have I:Hid (Nums .i64 (E.alloc (.cells #[.int .i64 D] 3)) (.slice (some ⟨E.heap.size,0,none⟩) 1 1) [D]):=a_5 (k:=.i64) E [D] 1 (0,0) rfl;have H:Hid (Below w.heap.size w (E.alloc (.cells #[.int .i64 D] 3))):=g_a U.out _
   have J:Hid ((i_x k D).length+[D].length<=1073741824):=by
    show _<=_;have:=j_L k D;rw [List.length_singleton];omega
   go_wp2_with (at_builtin;refine a_E i_g (by decide) rfl (.tmp 21) (.tmp 23) rfl w.heap.size _ _ rfl H6.out _ [D] rfl I.out J.out H.out.size w H.out ?_;intro v0 w0 H0 V)
   go_ret;exact ⟨_,rfl,by rw [<- HL.out];exact H0.out,V⟩
end Go.Proofs.YtjlofobnmjompaaGreatDoor.Wd
namespace Go.Proofs.YtjlofobnmjompaaGreatDoor.Wd
open Go.RowKit
theorem OwnK.heap {k:IntKind} {e:TypeId} {W:World} {B g n:Nat} {l:List Int} (h:OwnK k e W B (.slice (some ⟨g,0,none⟩) n n) l) (J:l.length=n):W.heap[g]?=some (.cells (b_e k l).toArray e (0,0))/\B<=g:=by
 subst J;rcases h.2 with ⟨E,_⟩|⟨q,cap,D,E,M,I,R,U,L,H⟩
 ·cases E
 ·cases E
  have O:D=(b_e k l).toArray:=by
   rw [Nat.mul_one] at L H;rw [<- H,List.take_of_length_le (by simp;omega)]
  rw [O] at I;exact ⟨I,M⟩
theorem OwnK.of_heap {k:IntKind} {e:TypeId} {W:World} {B g n:Nat} {l:List Int} (h:W.heap[g]?=some (.cells (b_e k l).toArray e (0,0))) (E:B<=g) (D:l.length=n) (H:n<=1073741824):OwnK k e W B (.slice (some ⟨g,0,none⟩) n n) l:=by
 subst D;refine ⟨by simp [b_e],.inr ⟨g,l.length,(b_e k l).toArray,rfl,E,h,Nat.le_refl _,by unfold maxLen;omega,by simp [b_e],by rw [Nat.mul_one,List.take_of_length_le (by simp [b_e])]⟩⟩
/-- k times X, and noughts. -/
def rep (X:Int) (N k:Nat):List Int:=List.replicate k X++List.replicate (N - k) 0
theorem i_y (X:Int) (N k:Nat) (h:k<=N):(rep X N k).length=N:=by simp [rep];omega
theorem g_i (X:Int) (N k m:Nat) (h:k+m<=N):splice (b_e .i64 (rep X N k)) k (b_e .i64 (List.replicate m X))=b_e .i64 (rep X N (k+m)):=by
 unfold splice b_e;rw [<- List.map_take,<- List.map_drop,<- List.map_append,<- List.map_append]
 congr 1
 unfold rep;rw [List.length_map,List.length_replicate,List.take_append_of_le_length (by simp),List.take_of_length_le (by simp),List.drop_append,List.drop_of_length_le (by simp),List.drop_replicate,List.nil_append,List.length_replicate,<- List.append_assoc,List.replicate_append_replicate]
 congr 2
 omega
theorem o_e (X:Int) (N:Nat):rep X N N=List.replicate N X:=by simp [rep]
theorem o_f (X:Int) (N:Nat):rep X N 0=List.replicate N 0:=by simp [rep]
theorem q_c (X:Int) (N k j:Nat) (v:Value) (m:Nat) (H:m<=k) (h:(b_e .i64 (List.replicate m X))[j]?=some v):(b_e .i64 (rep X N k))[j]?=some v:=by
 unfold b_e at *;rw [List.getElem?_map] at *
 have E:j < m:=by
  rcases Nat.lt_or_ge j m with D|D
  ·exact D
  ·rw [List.getElem?_eq_none (by simp;exact D)] at h;cases h
 rw [List.getElem?_eq_getElem (by simp;exact E),List.getElem_replicate] at h;unfold rep;rw [List.getElem?_append_left (by simp;omega),List.getElem?_eq_getElem (by simp;omega),List.getElem_replicate];exact h
theorem q_d {w E:World} {p:Option Addr} {c:Nat} {X:Int} (h:Nums .i64 w (.slice p 1 c) [X]) (J:Below w.heap.size w E):Hid (∃ D,p=some D/\∀ j v,(b_e .i64 (List.replicate 1 X))[j]?=some v->E.cell? (D.add j)=some v):=by
 rcases h.up J with ⟨_,H⟩|⟨D,M,I,L⟩
 ·cases H
 ·cases I;exact ⟨D,rfl,L⟩
theorem l_2 {k:IntKind} {W:World} {g:Nat} {l:List Int} {e:TypeId} (h:W.heap[g]?=some (.cells (b_e k l).toArray e (0,0))) (j:Nat) (v:Value) (D:(b_e k l)[j]?=some v):W.cell? ((⟨g,0,none⟩:Addr).add j)=some v:=by
 rw [a_u,Nat.zero_add];unfold World.cell?;simp only [h];simpa using D
theorem c_N (k:IntKind) (l:List Int):(b_e k l).length=l.length:=by simp [b_e]
theorem k_E (p:Option Addr) (c:Nat) (X:Int) (N:Nat) (hN:1<=N/\N<=4096) (w:World) (hv:Nums .i64 w (.slice p 1 c) [X]):
  Calls Tryz.prog 86 #[.slice p 1 c,.int .i64 (N:Int)] w fun e H=>∃ v',e = .returned v'/\OwnK .i64 23 H w.heap.size v' (List.replicate N X)/\Below w.heap.size w H:=by
 have cM:Calls Tryz.prog 102 #[.int .u64 1,.int .u64 (N:Int)] w fun e H=>e = .returned (.tuple #[.int .u64 0,.int .u64 (N:Int)])/\H=w:=by
  have:=Tryz.bits_Mul 1 N (by decide) (by omega) w;rw [Nat.one_mul,Nat.div_eq_of_lt (by omega),Nat.mod_eq_of_lt (by omega)] at this;exact this
 have ad:1<=(N:Int)/\(N:Int)<=4096:=by omega
 have HV:Hid (Nums .i64 w (.slice p 1 c) [X]):=hv;clear hv;go_enter Tryz.func86,Tryz.ntmps86;go_wp2_with fail
 refine cM.mono ?_;rintro e D ⟨rfl,rfl⟩;clear cM
 go_wp2_with (first
  |(at_make;refine a_y k_w (by decide) _ rfl (.tmp 29) (.tmp 29) rfl .i64 .i64 N N N rfl rfl rfl rfl (by omega) D.heap.size D (Nat.le_refl _) (Below.refl _ _) ?_;intro w2 J B0 I;clear B0;rw [<- o_f X N] at J;have E:Hid (w2.heap[D.heap.size]?=some (.cells (b_e .i64 (rep X N 0)).toArray 23 (0,0))):=(J.out.heap (i_y X N 0 (Nat.zero_le _))).1;have V:=q_d HV.out I;clear J)
  | (have hR:=E.out;refine wpList_copy_splice rfl (.tmp 31) (.tmp 32) 24 24 rfl 23 Tryz.underlying24 (by kernel_rfl) _ _ _ _ _ _ rfl rfl D.heap.size 0 (b_e .i64 (rep X N 0)) 23 hR (b_e .i64 (List.replicate 1 X)) (by rw [c_N,List.length_replicate];exact (Nat.min_eq_left hN.1).symm) (fun _=>⟨rfl,V.out⟩) (by rw [c_N,c_N,i_y X N 0 (by omega),List.length_replicate];omega) (g_u _ _) D.heap.size D I (Nat.le_refl _) ?_;intro w3 L B3;rw [g_i X N 0 1 (by omega),Nat.zero_add] at L;clear E V I hR))
 obtain ⟨g,M⟩:∃ g,D.heap.size=g:=⟨_,rfl⟩
 have Hg:Hid (D.heap.size=g):=M;rw [M] at L ⊢;clear M
 go_loopg [8] (N - 1) (fun gg i wr=>∃ (k:Nat),1<=k/\k<=N/\gg=N - k/\i = .int .i64 (k:Int)/\Hid (wr.heap[g]?=some (.cells (b_e .i64 (rep X N k)).toArray 23 (0,0)))/\Hid (Below D.heap.size D wr))
 case atStart=>exact ⟨1,by omega,by omega,by omega,by first|rfl|simp,L,B3⟩
 case round=>
  obtain ⟨k,ac,hk,af,rfl,U,hB⟩:=hrel;by_cases ae:k < N
  ·have ab:(k:Int) < (N:Int):=by omega
   have aa:0<=(k:Int):=by omega
   obtain ⟨m,em⟩:∃ m,min k (N - k)=m:=⟨_,rfl⟩
   have hm:1<=m/\k+m<=N/\m<=k:=by omega
   have HM:Hid (min k (N - k)=m):=em;have O:¬ (N=k):=by omega
   have R:Hid (Below D.heap.size D wr.drew):=hB.out.trans ⟨rfl,rfl,rfl,Nat.le_refl _,fun _ _=>rfl⟩;have HC:Hid (∀ j v,(b_e .i64 (List.replicate m X))[j]?=some v->wr.drew.cell? ((⟨g,0,none⟩:Addr).add j)=some v):=fun j v hj=>l_2 (W:=wr.drew) U.out j v (q_c X N k j v m (by omega) hj);clear em;go_wp2_with fail
   go_region_law (refine step_copy_splice rfl (.tmp 41) (.tmp 44) 24 24 rfl 23 Tryz.underlying24 (by kernel_rfl) (some ⟨g,k,none⟩) (some ⟨g,0,none⟩) (N - k) (N - k) k N (by simp [Act.eval,Act.put,O]) (by simp [Act.eval,Act.put]) g k (b_e .i64 (rep X N k)) 23 U.out (b_e .i64 (List.replicate m X)) (by rw [c_N,List.length_replicate];exact HM.out.symm) (fun _=>⟨rfl,⟨g,0,none⟩,rfl,HC.out⟩) (by rw [c_N,c_N,i_y X N k (by omega),List.length_replicate];omega) (g_u _ _) D.heap.size D R.out (Nat.le_of_eq Hg.out) ?_;intro w4 H4 B4;rw [g_i X N k m (by omega)] at H4;rw [show (b_e .i64 (List.replicate m X)).length=m by rw [c_N,List.length_replicate]])
   all_goals
    go_wp2;go_roundg (N - (k+m))
   case measure=>omega
   case rel=>exact ⟨k+m,by omega,by omega,rfl,by simp [goInt];rw [IntKind.wrap_i64];omega,H4,B4⟩
  ·obtain rfl:k=N:=by omega
   have HF:Hid (OwnK .i64 23 wr D.heap.size (.slice (some ⟨g,0,none⟩) k k) (List.replicate k X)/\Below D.heap.size D wr):=by
    refine ⟨?_,hB.out⟩;have:=U.out;rw [o_e] at this;exact OwnK.of_heap this (Nat.le_of_eq Hg.out) (by simp) (by omega)
   go_wp2;go_ret;exact ⟨_,rfl,HF.out⟩
def l_3 (d:List Int):Int:=if goodN (ntl d) then 0 else 1
def d_V (d:List Int):List Int:=if goodN (ntl d) then d else []
def l_4 (d:List Int) (X:Int):List Int:=if goodN (ntl d) then List.replicate (a_e (ntl d)) X else []
theorem c_O (v:Value) (d:List Int) (hd:RI d) (X:Int) (w:World) (h1:Nums .i64 w v d):
  Calls Tryz.prog 67 #[v,.int .i64 X] w fun e w'=>∃ v',e = .returned (.tuple #[v',.int .i64 (l_3 d)])/\TRes w' w.heap.size v' (d_V d) (l_4 d X)/\Below w.heap.size w w':=by
 have V:=fun W (hW:Below w.heap.size w W)=>b_Y _ d hd W (h1.up hW);have cZ:=fun W (hW:Below w.heap.size w W)=>size_any _ d hd W (h1.up hW);unfold l_3 d_V l_4;by_cases H:goodN (ntl d)
 ·rw [decide_eq_true H] at V;rw [b_1 H] at cZ;rw [if_pos H,if_pos H,if_pos H];have cC:=fun W (hW:Below w.heap.size w W)=>b_i _ d (by have:=H.1;rw [a_R] at this;omega) W (h1.up hW);have hN:1<=a_e (ntl d)/\a_e (ntl d)<=4096:=⟨H.pos,H.2.2⟩
  obtain ⟨N,eN⟩:∃ N,a_e (ntl d)=N:=⟨_,rfl⟩
  rw [eN] at cZ hN ⊢;clear eN H h1 hd;go_enter Tryz.func67,Tryz.ntmps67;go_wp2_with fail
  generalize E:World.alloc _ _=W0;have D:Hid (Below w.heap.size w W0):=by show Below _ _ _;rw [<- E];go_grown
  have XR:Hid (Cel W0 w.heap.size (.slice none 0 0) (.slice none 0 0)):=a_F E (by simp [go_sem]);clear E;refine (V W0 D.out).mono ?_;rintro e R ⟨rfl,rfl⟩;clear V;go_wp2_with fail
  refine (cC R D.out).mono ?_;rintro e U ⟨v2,rfl,h2,aa⟩;have H2:Hid (OwnK .i64 3 U R.heap.size v2 d/\Below R.heap.size R U):=⟨h2,aa⟩
  obtain ⟨p2,n2,c2,rfl,_⟩:=h2.nums.lst;clear cC h2 aa;go_wp2_with fail
  generalize L:World.alloc _ _=W3;have I:Hid (Below U.heap.size U W3):=by show Below _ _ _;rw [<- L];go_grown
  have HX:Hid (Nums .i64 W3 (.slice (some ⟨U.heap.size,0,none⟩) 1 1) [X]):=by rw [<- L];exact a_5 (k:=.i64) U [X] 1 (0,0) rfl
  have O:Hid (Below R.heap.size R W3/\Below w.heap.size w W3):=⟨a_c H2.out.2 I.out,a_c D.out (a_c H2.out.2 I.out)⟩
  clear L;refine (cZ W3 O.out.2).mono ?_;rintro e w4 ⟨rfl,rfl⟩;clear cZ;have cR:=k_E _ 1 X N hN w4 HX.out;go_wp2_with fail
  refine cR.mono ?_;rintro e w5 ⟨v5,rfl,h5,J⟩;obtain ⟨p5,n5,c5,rfl,_⟩:=h5.nums.lst;have M:=a_c O.out.1 J
  have HF:Hid (TRes (set2 w5 w.heap.size (.slice p2 n2 c2) (.slice p5 n5 c5)) w.heap.size (.agg #[.slice p2 n2 c2,.slice p5 n5 c5]) d (List.replicate N X)/\Below w.heap.size w (set2 w5 w.heap.size (.slice p2 n2 c2) (.slice p5 n5 c5))):=by
   refine ⟨(TRes.set (H2.out.1.up (a_c I.out J)) (h5.low O.out.1.size) (a_a XR.out.1)).low D.out.size,a_k (a_c D.out M) _ (Nat.le_refl _) _ _⟩
  have xr:=XR.out.up M;have cf:=xr.set (.slice p2 n2 c2) (.slice p5 n5 c5);obtain ⟨r0,r1,r2,r3⟩:=xr;obtain ⟨y0,y1,_,_⟩:=cf;clear cR h5 J M;go_wp2;exact bodyPost_ret (v:=.tuple #[.agg #[.slice p2 n2 c2,.slice p5 n5 c5],.int .i64 0]) (by simp [results,Tryz.results67,go_sem,y0,y1]) rfl ⟨_,rfl,HF.out⟩
 ·rw [decide_eq_false H] at V;rw [if_neg H,if_neg H,if_neg H];clear H h1 hd cZ;go_enter Tryz.func67,Tryz.ntmps67;go_wp2_with fail
  generalize E:World.alloc _ _=W0;have D:Hid (Below w.heap.size w W0):=by show Below _ _ _;rw [<- E];go_grown
  have XR:Hid (Cel W0 w.heap.size (.slice none 0 0) (.slice none 0 0)):=a_F E (by simp [go_sem]);clear E;refine (V W0 D.out).mono ?_;rintro e R ⟨rfl,rfl⟩;clear V;have xr:=XR.out;have BF:=a_k D.out w.heap.size (Nat.le_refl _) (.slice none 0 0) (.slice none 0 0);have cf:=xr.set (.slice none 0 0) (.slice none 0 0);obtain ⟨r0,r1,r2,r3⟩:=xr;obtain ⟨y0,y1,_,_⟩:=cf;go_wp2;exact bodyPost_ret (v:=.tuple #[.agg #[.slice none 0 0,.slice none 0 0],.int .i64 1]) (by simp [results,Tryz.results67,go_sem,y0,y1]) rfl ⟨_,rfl,TRes.none _ _,BF⟩
theorem e_x (W:World) (o:Obj):(W.alloc o).heap.size=W.heap.size+1:=Array.size_push _
end Go.Proofs.YtjlofobnmjompaaGreatDoor.Wd
