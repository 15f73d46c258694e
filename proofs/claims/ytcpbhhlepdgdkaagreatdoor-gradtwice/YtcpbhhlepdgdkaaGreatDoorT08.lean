/- Tensors: what matm.Flip and matm.sideLas -/
import Derived.Test.YtcpbhhlepdgdkaaGreatDoorT07
import Derived.Laws.CopyOwn
import Derived.Deep.RegionLaw
set_option linter.unusedVariables false
set_option linter.unusedSimpArgs false
set_option maxHeartbeats 16000000
set_option maxRecDepth 16000
namespace Go.Proofs.YtcpbhhlepdgdkaaGreatDoor.Wd
open Go.RowKit Fx
/-- A tensor of two sides. -/
theorem l_7 {E D:Nat} {x:List Int} (L:x.length=E*D) (M:1<=E) (O:1<=D) (H:E*D<=4096):isP [(E:Int),(D:Int)] x:=by
 have e:a_e [E,D]=E*D:=by simp [a_e]
 have I:ntl [(E:Int),(D:Int)] = [E,D]:=a_p [E,D];unfold isP;rw [I];refine ⟨⟨by simp,fun y J=>?_,by rw [e];exact H⟩,by rw [e];exact L⟩;simp at J;omega
def flE (d x:List Int):Int:=if isP d x then if d.length=2 then 0 else 4 else 1
def flD (d x:List Int):List Int:=if isP d x/\d.length=2 then [d.getD 1 0,d.getD 0 0] else []
def flV (d x:List Int):List Int:=if isP d x/\d.length=2 then o_c (d.getD 0 0).toNat (d.getD 1 0).toNat x else []
/-- The sides but one. -/
def i_I (s:Nat) (side:Int):List Int:=(itl (List.range s)).filter fun i=>decide (i≠side)
def c_s (s:Nat) (side:Int):List Int:=i_I s side++[side]
theorem h_1 (s:Nat) (D:Int):i_I (s+1) D=i_I s D++if (s:Int)=D then [] else [(s:Int)]:=by
 unfold i_I itl;rw [List.range_succ,List.map_append,List.filter_append]
 congr 1
 by_cases h:(s:Int)=D <;> simp [h]
theorem j_U (s:Nat) (D:Int):(i_I s D).length<=s:=by
 have:=List.length_filter_le (fun i=>decide (i≠D)) (itl (List.range s));rw [a_v,List.length_range] at this;exact this
theorem h_2 (s:Nat) (hs:s<=1000) (D:Int) (hr:InR D) (w:World):
  Calls Tryz.prog 140 #[.int .i64 (s:Int),.int .i64 D] w fun e w'=>∃ v',e = .returned v'/\OwnK .i64 3 w' w.heap.size v' (c_s s D)/\Below w.heap.size w w':=by
 have ad:(s:Int)<=1000:=by omega
 obtain ⟨L,eL⟩:∃ L,c_s s D=L:=⟨_,rfl⟩
 have HL:Hid (c_s s D=L):=eL;rw [eL];unfold InR at hr;clear eL;go_enter Tryz.func140,Tryz.ntmps140;go_wp2_with (at_make;refine e_a i_r (by decide) _ rfl (.const (.int .i64 0)) (.tmp 7) rfl .i64 .i64 _ s rfl rfl rfl (by omega) ?_;intro w1 O B1)
 have M:Hid (Below w.heap.size w w1):=B1;clear B1
 go_loopg [5,10] s (fun gg r i wr=>∃ (k:Nat),k<=s/\gg=s - k/\i = .int .i64 (k:Int)/\Hid (OwnK .i64 3 wr w.heap.size r (i_I k D))/\Hid (Below w.heap.size w wr))
 case atStart=>exact ⟨0,by omega,by omega,by first|rfl|simp,O,M⟩
 case round=>
  obtain ⟨k,hk,hg,rfl,R,hB⟩:=hrel;obtain ⟨E,V⟩:∃ E:World,E=wr:=⟨_,rfl⟩
  subst V;by_cases ab:k < s
  ·have ac:(k:Int) < (s:Int):=by omega
   by_cases he:(k:Int)=D
   ·subst he;have aa:((k:Int) != (k:Int))=false:=by simp
    have H7:Hid (OwnK .i64 3 E w.heap.size u5 (i_I (k+1) (k:Int))):=by
     show OwnK _ _ _ _ _ _;rw [h_1,if_pos rfl,List.append_nil];exact R.out
    go_wp2;go_roundg (s - (k+1))
    case measure=>omega
    case rel=>exact ⟨k+1,by omega,rfl,by first|rfl|simp,H7,hB⟩
   ·have aa:((k:Int) != D)=true:=by simp [he]
    have U:Hid (OwnK .i64 3 (E.alloc (.cells #[.int .i64 (k:Int)] 3)) w.heap.size u5 (i_I k D)):=R.out.up (a_b E _);have J:Hid (Nums .i64 (E.alloc (.cells #[.int .i64 (k:Int)] 3)) (.slice (some ⟨E.heap.size,0,none⟩) 1 1) [(k:Int)]):=a_5 (k:=.i64) E [(k:Int)] 1 (0,0) rfl;have H:Hid (Below w.heap.size w (E.alloc (.cells #[.int .i64 (k:Int)] 3))):=g_f hB.out _
    have I:Hid ((i_I k D).length+[(k:Int)].length<=1073741824):=by
     show _<=_;have:=j_U k D;rw [List.length_singleton];omega
    go_wp2_with (at_builtin;refine a_E i_r (by decide) rfl (.tmp 16) (.tmp 18) rfl w.heap.size _ _ rfl U.out _ [(k:Int)] rfl J.out I.out H.out.size w H.out ?_;intro v0 w0 H0 B0)
    have H7:Hid (OwnK .i64 3 w0 w.heap.size v0 (i_I (k+1) D)):=by
     show OwnK _ _ _ _ _ _;rw [h_1,if_neg he];exact H0.out
    go_roundg (s - (k+1))
    case measure=>omega
    case rel=>exact ⟨k+1,by omega,rfl,by first|rfl|simp,H7,B0⟩
  ·obtain rfl:k=s:=by omega
   have U:Hid (OwnK .i64 3 (E.alloc (.cells #[.int .i64 D] 3)) w.heap.size u5 (i_I k D)):=R.out.up (a_b E _);have J:Hid (Nums .i64 (E.alloc (.cells #[.int .i64 D] 3)) (.slice (some ⟨E.heap.size,0,none⟩) 1 1) [D]):=a_5 (k:=.i64) E [D] 1 (0,0) rfl;have H:Hid (Below w.heap.size w (E.alloc (.cells #[.int .i64 D] 3))):=g_f hB.out _
   have I:Hid ((i_I k D).length+[D].length<=1073741824):=by
    show _<=_;have:=j_U k D;rw [List.length_singleton];omega
   go_wp2_with (at_builtin;refine a_E i_r (by decide) rfl (.tmp 21) (.tmp 23) rfl w.heap.size _ _ rfl U.out _ [D] rfl J.out I.out H.out.size w H.out ?_;intro v0 w0 H0 B0)
   go_ret;exact ⟨_,rfl,by rw [<- HL.out];exact H0.out,B0⟩
end Go.Proofs.YtcpbhhlepdgdkaaGreatDoor.Wd
namespace Go.Proofs.YtcpbhhlepdgdkaaGreatDoor.Wd
open Go.RowKit
theorem OwnK.heap {k:IntKind} {e:TypeId} {W:World} {B g n:Nat} {l:List Int} (h:OwnK k e W B (.slice (some ⟨g,0,none⟩) n n) l) (M:l.length=n):W.heap[g]?=some (.cells (a_4 k l).toArray e (0,0))/\B<=g:=by
 subst M;rcases h.2 with ⟨E,_⟩|⟨q,O,D,E,L,I,U,V,R,H⟩
 ·cases E
 ·cases E
  have J:D=(a_4 k l).toArray:=by
   rw [Nat.mul_one] at R H;rw [<- H,List.take_of_length_le (by simp;omega)]
  rw [J] at I;exact ⟨I,L⟩
theorem OwnK.of_heap {k:IntKind} {e:TypeId} {W:World} {B g n:Nat} {l:List Int} (h:W.heap[g]?=some (.cells (a_4 k l).toArray e (0,0))) (D:B<=g) (E:l.length=n) (H:n<=1073741824):OwnK k e W B (.slice (some ⟨g,0,none⟩) n n) l:=by
 subst E;refine ⟨by simp [a_4],.inr ⟨g,l.length,(a_4 k l).toArray,rfl,D,h,Nat.le_refl _,by unfold maxLen;omega,by simp [a_4],by rw [Nat.mul_one,List.take_of_length_le (by simp [a_4])]⟩⟩
/-- k times X, and noughts. -/
def rep (X:Int) (N k:Nat):List Int:=List.replicate k X++List.replicate (N - k) 0
theorem i_J (X:Int) (N k:Nat) (h:k<=N):(rep X N k).length=N:=by simp [rep];omega
theorem g_o (X:Int) (N k m:Nat) (h:k+m<=N):splice (a_4 .i64 (rep X N k)) k (a_4 .i64 (List.replicate m X))=a_4 .i64 (rep X N (k+m)):=by
 unfold splice a_4;rw [<- List.map_take,<- List.map_drop,<- List.map_append,<- List.map_append]
 congr 1
 unfold rep;rw [List.length_map,List.length_replicate,List.take_append_of_le_length (by simp),List.take_of_length_le (by simp),List.drop_append,List.drop_of_length_le (by simp),List.drop_replicate,List.nil_append,List.length_replicate,<- List.append_assoc,List.replicate_append_replicate]
 congr 2
 omega
theorem o_m (X:Int) (N:Nat):rep X N N=List.replicate N X:=by simp [rep]
theorem o_n (X:Int) (N:Nat):rep X N 0=List.replicate N 0:=by simp [rep]
theorem q_r (X:Int) (N k j:Nat) (v:Value) (m:Nat) (H:m<=k) (h:(a_4 .i64 (List.replicate m X))[j]?=some v):(a_4 .i64 (rep X N k))[j]?=some v:=by
 unfold a_4 at *;rw [List.getElem?_map] at *
 have E:j < m:=by
  rcases Nat.lt_or_ge j m with D|D
  ·exact D
  ·rw [List.getElem?_eq_none (by simp;exact D)] at h;cases h
 rw [List.getElem?_eq_getElem (by simp;exact E),List.getElem_replicate] at h;unfold rep;rw [List.getElem?_append_left (by simp;omega),List.getElem?_eq_getElem (by simp;omega),List.getElem_replicate];exact h
theorem q_s {w E:World} {p:Option Addr} {c:Nat} {X:Int} (h:Nums .i64 w (.slice p 1 c) [X]) (J:Below w.heap.size w E):Hid (∃ D,p=some D/\∀ j v,(a_4 .i64 (List.replicate 1 X))[j]?=some v->E.cell? (D.add j)=some v):=by
 rcases h.up J with ⟨_,I⟩|⟨D,M,H,L⟩
 ·cases I
 ·cases H;exact ⟨D,rfl,L⟩
theorem l_8 {k:IntKind} {W:World} {g:Nat} {l:List Int} {e:TypeId} (h:W.heap[g]?=some (.cells (a_4 k l).toArray e (0,0))) (j:Nat) (v:Value) (D:(a_4 k l)[j]?=some v):W.cell? ((⟨g,0,none⟩:Addr).add j)=some v:=by
 rw [a_t,Nat.zero_add];unfold World.cell?;simp only [h];simpa using D
theorem c_P (k:IntKind) (l:List Int):(a_4 k l).length=l.length:=by simp [a_4]
theorem k_K (p:Option Addr) (c:Nat) (X:Int) (N:Nat) (hN:1<=N/\N<=4096) (w:World) (hv:Nums .i64 w (.slice p 1 c) [X]):
  Calls Tryz.prog 75 #[.slice p 1 c,.int .i64 (N:Int)] w fun e H=>∃ v',e = .returned v'/\OwnK .i64 48 H w.heap.size v' (List.replicate N X)/\Below w.heap.size w H:=by
 have cM:Calls Tryz.prog 91 #[.int .u64 1,.int .u64 (N:Int)] w fun e H=>e = .returned (.tuple #[.int .u64 0,.int .u64 (N:Int)])/\H=w:=by
  have:=Tryz.bits_Mul 1 N (by decide) (by omega) w;rw [Nat.one_mul,Nat.div_eq_of_lt (by omega),Nat.mod_eq_of_lt (by omega)] at this;exact this
 have af:1<=(N:Int)/\(N:Int)<=4096:=by omega
 have HV:Hid (Nums .i64 w (.slice p 1 c) [X]):=hv;clear hv;go_enter Tryz.func75,Tryz.ntmps75;go_wp2_with fail
 refine cM.mono ?_;rintro e D ⟨rfl,rfl⟩;clear cM
 go_wp2_with (first
  |(at_make;refine a_y k_C (by decide) _ rfl (.tmp 29) (.tmp 29) rfl .i64 .i64 N N N rfl rfl rfl rfl (by omega) D.heap.size D (Nat.le_refl _) (Below.refl _ _) ?_;intro w2 L B0 M;clear B0;rw [<- o_n X N] at L;have E:Hid (w2.heap[D.heap.size]?=some (.cells (a_4 .i64 (rep X N 0)).toArray 48 (0,0))):=(L.out.heap (i_J X N 0 (Nat.zero_le _))).1;have HS:=q_s HV.out M;clear L)
  | (have hR:=E.out;refine wpList_copy_splice rfl (.tmp 31) (.tmp 32) 26 26 rfl 48 Tryz.underlying26 (by kernel_rfl) _ _ _ _ _ _ rfl rfl D.heap.size 0 (a_4 .i64 (rep X N 0)) 48 hR (a_4 .i64 (List.replicate 1 X)) (by rw [c_P,List.length_replicate];exact (Nat.min_eq_left hN.1).symm) (fun _=>⟨rfl,HS.out⟩) (by rw [c_P,c_P,i_J X N 0 (by omega),List.length_replicate];omega) (g_z _ _) D.heap.size D M (Nat.le_refl _) ?_;intro w3 O B3;rw [g_o X N 0 1 (by omega),Nat.zero_add] at O;clear E HS M hR))
 obtain ⟨g,R⟩:∃ g,D.heap.size=g:=⟨_,rfl⟩
 have Hg:Hid (D.heap.size=g):=R;rw [R] at O ⊢;clear R
 go_loopg [8] (N - 1) (fun gg i wr=>∃ (k:Nat),1<=k/\k<=N/\gg=N - k/\i = .int .i64 (k:Int)/\Hid (wr.heap[g]?=some (.cells (a_4 .i64 (rep X N k)).toArray 48 (0,0)))/\Hid (Below D.heap.size D wr))
 case atStart=>exact ⟨1,by omega,by omega,by omega,by first|rfl|simp,O,B3⟩
 case round=>
  obtain ⟨k,ac,hk,ab,rfl,I,hB⟩:=hrel;by_cases aa:k < N
  ·have ad:(k:Int) < (N:Int):=by omega
   have ae:0<=(k:Int):=by omega
   obtain ⟨m,em⟩:∃ m,min k (N - k)=m:=⟨_,rfl⟩
   have hm:1<=m/\k+m<=N/\m<=k:=by omega
   have HM:Hid (min k (N - k)=m):=em;have U:¬ (N=k):=by omega
   have J:Hid (Below D.heap.size D wr.drew):=hB.out.trans ⟨rfl,rfl,rfl,Nat.le_refl _,fun _ _=>rfl⟩;have HC:Hid (∀ j v,(a_4 .i64 (List.replicate m X))[j]?=some v->wr.drew.cell? ((⟨g,0,none⟩:Addr).add j)=some v):=fun j v hj=>l_8 (W:=wr.drew) I.out j v (q_r X N k j v m (by omega) hj);clear em;go_wp2_with fail
   go_region_law (refine step_copy_splice rfl (.tmp 41) (.tmp 44) 26 26 rfl 48 Tryz.underlying26 (by kernel_rfl) (some ⟨g,k,none⟩) (some ⟨g,0,none⟩) (N - k) (N - k) k N (by simp [Act.eval,Act.put,U]) (by simp [Act.eval,Act.put]) g k (a_4 .i64 (rep X N k)) 48 I.out (a_4 .i64 (List.replicate m X)) (by rw [c_P,List.length_replicate];exact HM.out.symm) (fun _=>⟨rfl,⟨g,0,none⟩,rfl,HC.out⟩) (by rw [c_P,c_P,i_J X N k (by omega),List.length_replicate];omega) (g_z _ _) D.heap.size D J.out (Nat.le_of_eq Hg.out) ?_;intro w4 V B4;rw [g_o X N k m (by omega)] at V;rw [show (a_4 .i64 (List.replicate m X)).length=m by rw [c_P,List.length_replicate]])
   all_goals
    go_wp2;go_roundg (N - (k+m))
   case measure=>omega
   case rel=>exact ⟨k+m,by omega,by omega,rfl,by simp [goInt];rw [IntKind.wrap_i64];omega,V,B4⟩
  ·obtain rfl:k=N:=by omega
   have HF:Hid (OwnK .i64 48 wr D.heap.size (.slice (some ⟨g,0,none⟩) k k) (List.replicate k X)/\Below D.heap.size D wr):=by
    refine ⟨?_,hB.out⟩;have:=I.out;rw [o_m] at this;exact OwnK.of_heap this (Nat.le_of_eq Hg.out) (by simp) (by omega)
   go_wp2;go_ret;exact ⟨_,rfl,HF.out⟩
def l_9 (d:List Int):Int:=if goodN (ntl d) then 0 else 1
def d_Y (d:List Int):List Int:=if goodN (ntl d) then d else []
def m_a (d:List Int) (X:Int):List Int:=if goodN (ntl d) then List.replicate (a_e (ntl d)) X else []
theorem c_Q (v:Value) (d:List Int) (hd:RI d) (X:Int) (w:World) (h1:Nums .i64 w v d):
  Calls Tryz.prog 57 #[v,.int .i64 X] w fun e w'=>∃ v',e = .returned (.tuple #[v',.int .i64 (l_9 d)])/\TRes w' w.heap.size v' (d_Y d) (m_a d X)/\Below w.heap.size w w':=by
 have V:=fun W (hW:Below w.heap.size w W)=>b_3 _ d hd W (h1.up hW);have cZ:=fun W (hW:Below w.heap.size w W)=>size_any _ d hd W (h1.up hW);unfold l_9 d_Y m_a;by_cases H:goodN (ntl d)
 ·rw [decide_eq_true H] at V;rw [b_6 H] at cZ;rw [if_pos H,if_pos H,if_pos H];have cC:=fun W (hW:Below w.heap.size w W)=>b_j _ d (by have:=H.1;rw [a_Q] at this;omega) W (h1.up hW);have hN:1<=a_e (ntl d)/\a_e (ntl d)<=4096:=⟨H.pos,H.2.2⟩
  obtain ⟨N,eN⟩:∃ N,a_e (ntl d)=N:=⟨_,rfl⟩
  rw [eN] at cZ hN ⊢;clear eN H h1 hd;go_enter Tryz.func57,Tryz.ntmps57;go_wp2_with fail
  generalize E:World.alloc _ _=W0;have D:Hid (Below w.heap.size w W0):=by show Below _ _ _;rw [<- E];go_grown
  have XR:Hid (Cel W0 w.heap.size (.slice none 0 0) (.slice none 0 0)):=a_F E (by simp [go_sem]);clear E;refine (V W0 D.out).mono ?_;rintro e M ⟨rfl,rfl⟩;clear V;go_wp2_with fail
  refine (cC M D.out).mono ?_;rintro e U ⟨v2,rfl,h2,aa⟩;have H2:Hid (OwnK .i64 3 U M.heap.size v2 d/\Below M.heap.size M U):=⟨h2,aa⟩
  obtain ⟨p2,n2,c2,rfl,_⟩:=h2.nums.lst;clear cC h2 aa;go_wp2_with fail
  generalize O:World.alloc _ _=W3;have I:Hid (Below U.heap.size U W3):=by show Below _ _ _;rw [<- O];go_grown
  have HX:Hid (Nums .i64 W3 (.slice (some ⟨U.heap.size,0,none⟩) 1 1) [X]):=by rw [<- O];exact a_5 (k:=.i64) U [X] 1 (0,0) rfl
  have R:Hid (Below M.heap.size M W3/\Below w.heap.size w W3):=⟨a_c H2.out.2 I.out,a_c D.out (a_c H2.out.2 I.out)⟩
  clear O;refine (cZ W3 R.out.2).mono ?_;rintro e w4 ⟨rfl,rfl⟩;clear cZ;have cR:=k_K _ 1 X N hN w4 HX.out;go_wp2_with fail
  refine cR.mono ?_;rintro e w5 ⟨v5,rfl,h5,L⟩;obtain ⟨p5,n5,c5,rfl,_⟩:=h5.nums.lst;have J:=a_c R.out.1 L
  have HF:Hid (TRes (set2 w5 w.heap.size (.slice p2 n2 c2) (.slice p5 n5 c5)) w.heap.size (.agg #[.slice p2 n2 c2,.slice p5 n5 c5]) d (List.replicate N X)/\Below w.heap.size w (set2 w5 w.heap.size (.slice p2 n2 c2) (.slice p5 n5 c5))):=by
   refine ⟨(TRes.set (H2.out.1.up (a_c I.out L)) (h5.low R.out.1.size) (a_a XR.out.1)).low D.out.size,a_j (a_c D.out J) _ (Nat.le_refl _) _ _⟩
  have xr:=XR.out.up J;have cf:=xr.set (.slice p2 n2 c2) (.slice p5 n5 c5);obtain ⟨r0,r1,r2,r3⟩:=xr;obtain ⟨y0,y1,_,_⟩:=cf;clear cR h5 L J;go_wp2;exact bodyPost_ret (v:=.tuple #[.agg #[.slice p2 n2 c2,.slice p5 n5 c5],.int .i64 0]) (by simp [results,Tryz.results57,go_sem,y0,y1]) rfl ⟨_,rfl,HF.out⟩
 ·rw [decide_eq_false H] at V;rw [if_neg H,if_neg H,if_neg H];clear H h1 hd cZ;go_enter Tryz.func57,Tryz.ntmps57;go_wp2_with fail
  generalize E:World.alloc _ _=W0;have D:Hid (Below w.heap.size w W0):=by show Below _ _ _;rw [<- E];go_grown
  have XR:Hid (Cel W0 w.heap.size (.slice none 0 0) (.slice none 0 0)):=a_F E (by simp [go_sem]);clear E;refine (V W0 D.out).mono ?_;rintro e M ⟨rfl,rfl⟩;clear V;have xr:=XR.out;have BF:=a_j D.out w.heap.size (Nat.le_refl _) (.slice none 0 0) (.slice none 0 0);have cf:=xr.set (.slice none 0 0) (.slice none 0 0);obtain ⟨r0,r1,r2,r3⟩:=xr;obtain ⟨y0,y1,_,_⟩:=cf;go_wp2;exact bodyPost_ret (v:=.tuple #[.agg #[.slice none 0 0,.slice none 0 0],.int .i64 1]) (by simp [results,Tryz.results57,go_sem,y0,y1]) rfl ⟨_,rfl,TRes.none _ _,BF⟩
theorem e_A (W:World) (o:Obj):(W.alloc o).heap.size=W.heap.size+1:=Array.size_push _
end Go.Proofs.YtcpbhhlepdgdkaaGreatDoor.Wd
