/- Tensors: what slices.Repeat of one numbe -/
import Derived.Deep.RegionLaw
import Derived.Test.YtkfpainpomobfaaGreatDoorR08
set_option linter.unusedVariables false
set_option linter.unusedSimpArgs false
set_option maxHeartbeats 16000000
set_option maxRecDepth 16000
namespace Go.Proofs.YtkfpainpomobfaaGreatDoor.Wd
open Go.RowKit List World Nat
theorem OwnK.heap {k:IntKind} {e:TypeId} {W:World} {B g n:Nat} {l:List Int} (h:OwnK k e W B (.slice (some ⟨g,0,none⟩) n n) l) (M:l.length=n):W.heap[g]?=some (.cells (a_N k l).toArray e (0,0))/\B<=g:=by
 subst M;rcases h.2 with ⟨A,_⟩|⟨q,L,E,A,R,I,Z,V,J,H⟩
 ·cases A
 ·cases A
  have O:E=(a_N k l).toArray:=by
   rw [Nat.mul_one] at J H;rw [<- H,take_of_length_le (by simp;omega)]
  rw [O] at I;exact ⟨I,R⟩
theorem OwnK.of_heap {k:IntKind} {e:TypeId} {W:World} {B g n:Nat} {l:List Int} (h:W.heap[g]?=some (.cells (a_N k l).toArray e (0,0))) (E:B<=g) (A:l.length=n) (H:n<=1073741824):OwnK k e W B (.slice (some ⟨g,0,none⟩) n n) l:=by
 subst A;refine ⟨by simp [a_N],.inr ⟨g,l.length,(a_N k l).toArray,rfl,E,h,Nat.le_refl _,by unfold maxLen;omega,by simp [a_N],by rw [Nat.mul_one,take_of_length_le (by simp [a_N])]⟩⟩
/-- k times X, and noughts. -/
def rep (X:Int) (N k:Nat):List Int:=replicate k X++replicate (N - k) 0
theorem j_i (X:Int) (N k:Nat) (h:k<=N):(rep X N k).length=N:=by simp [rep];omega
theorem g_V (X:Int) (N k m:Nat) (h:k+m<=N):splice (a_N .i64 (rep X N k)) k (a_N .i64 (replicate m X))=a_N .i64 (rep X N (k+m)):=by
 unfold splice a_N;rw [<- map_take,<- map_drop,<- map_append,<- map_append]
 congr 1
 unfold rep;rw [length_map,length_replicate,take_append_of_le_length (by simp),take_of_length_le (by simp),drop_append,drop_of_length_le (by simp),drop_replicate,nil_append,length_replicate,<- append_assoc,replicate_append_replicate]
 congr 2
 omega
theorem o_9 (X:Int) (N:Nat):rep X N N=replicate N X:=by simp [rep]
theorem p_a (X:Int) (N:Nat):rep X N 0=replicate N 0:=by simp [rep]
theorem q_6 (X:Int) (N k j:Nat) (v:Value) (m:Nat) (H:m<=k) (h:(a_N .i64 (replicate m X))[j]?=some v):(a_N .i64 (rep X N k))[j]?=some v:=by
 unfold a_N at *;rw [getElem?_map] at *
 have E:j < m:=by
  rcases Nat.lt_or_ge j m with A|A
  ·exact A
  ·rw [getElem?_eq_none (by simp;exact A)] at h;cases h
 rw [getElem?_eq_getElem (by simp;exact E),getElem_replicate] at h;unfold rep;rw [getElem?_append_left (by simp;omega),getElem?_eq_getElem (by simp;omega),getElem_replicate];exact h
theorem q_7 {w E:World} {p:Option Addr} {c:Nat} {X:Int} (h:Nums .i64 w (.slice p 1 c) [X]) (H:Bw w E):Hid (∃ A,p=some A/\∀ j v,(a_N .i64 (replicate 1 X))[j]?=some v->E.cell? (A.add j)=some v):=by
 rcases h.up H with ⟨_,L⟩|⟨A,M,I,J⟩
 ·cases L
 ·cases I;exact ⟨A,rfl,J⟩
theorem m_O {k:IntKind} {W:World} {g:Nat} {l:List Int} {e:TypeId} (h:W.heap[g]?=some (.cells (a_N k l).toArray e (0,0))) (j:Nat) (v:Value) (A:(a_N k l)[j]?=some v):W.cell? ((⟨g,0,none⟩:Addr).add j)=some v:=by
 rw [a_r,Nat.zero_add];unfold cell?;simp only [h];simpa using A
theorem d_b (k:IntKind) (l:List Int):(a_N k l).length=l.length:=by simp [a_N]
theorem l_i (p:Option Addr) (c:Nat) (X:Int) (N:Nat) (hN:1<=N/\N<=4096) (w:World) (hv:Nums .i64 w (.slice p 1 c) [X]):
  Calls Tryz.prog 180 #[.slice p 1 c,.int .i64 (N:Int)] w fun e H=>∃ v',e = .returned v'/\OwnK .i64 48 H w.heap.size v' (replicate N X)/\Bw w H:=by
 have cM:Calls Tryz.prog 209 #[.int .u64 1,.int .u64 (N:Int)] w fun e H=>e = .returned (.tuple #[.int .u64 0,.int .u64 (N:Int)])/\H=w:=by
  have:=Tryz.bits_Mul 1 N (by decide) (by omega) w;rw [Nat.one_mul,div_eq_of_lt (by omega),mod_eq_of_lt (by omega)] at this;exact this
 have ab:1<=(N:Int)/\(N:Int)<=4096:=by omega
 have HV:Hid _:=hv;clear hv;go_enter Tryz.func180,Tryz.ntmps180;go_wp2_with fail
 refine cM.mono ?_;rintro e A ⟨rfl,rfl⟩;clear cM
 go_wp2_with (first
  |(at_make;refine a_F l_5 (by decide) _ rfl (.tmp 29) (.tmp 29) rfl .i64 .i64 N N N rfl rfl rfl rfl (by omega) A.heap.size A (Nat.le_refl _) (Below.refl _ _) ?_;intro w2 I B0 M;clear B0;rw [<- p_a X N] at I;have E:Hid (w2.heap[A.heap.size]?=some (.cells (a_N .i64 (rep X N 0)).toArray 48 (0,0))):=(I.out.heap (j_i X N 0 (zero_le _))).1;have HS:=q_7 HV.out M;clear I)
  | (have hR:=E.out;refine wpList_copy_splice rfl (.tmp 31) (.tmp 32) 26 26 rfl 48 Tryz.underlying26 (by kernel_rfl) _ _ _ _ _ _ rfl rfl A.heap.size 0 (a_N .i64 (rep X N 0)) 48 hR (a_N .i64 (replicate 1 X)) (by rw [d_b,length_replicate];exact (Nat.min_eq_left hN.1).symm) (fun _=>⟨rfl,HS.out⟩) (by rw [d_b,d_b,j_i X N 0 (by omega),length_replicate];omega) (d_L _ _) A.heap.size A M (Nat.le_refl _) ?_;intro w3 L B3;rw [g_V X N 0 1 (by omega),Nat.zero_add] at L;clear E HS M hR))
 obtain ⟨g,O⟩:∃ g,A.heap.size=g:=⟨_,rfl⟩
 have Hg:Hid _:=O;rw [O] at L ⊢;clear O
 go_loopg [8] (N - 1) (fun gg i wr=>∃ (k:Nat),1<=k/\k<=N/\gg=N - k/\i = .int .i64 (k:Int)/\Hid (wr.heap[g]?=some (.cells (a_N .i64 (rep X N k)).toArray 48 (0,0)))/\Hid (Bw A wr))
 case atStart=>exact ⟨1,by omega,by omega,by omega,by first|rfl|simp,L,B3⟩
 case round=>
  obtain ⟨k,ac,hk,af,rfl,V,Z⟩:=hrel;by_cases ae:k < N
  ·have aa:(k:Int) < (N:Int):=by omega
   have ad:0<=(k:Int):=by omega
   obtain ⟨m,em⟩:∃ m,min k (N - k)=m:=⟨_,rfl⟩
   have hm:1<=m/\k+m<=N/\m<=k:=by omega
   have HM:Hid _:=em;have R:¬ (N=k):=by omega
   have J:Hid (Bw A wr.drew):=Z.trans ⟨rfl,rfl,rfl,Nat.le_refl _,fun _ _=>rfl⟩;have HC:Hid (∀ j v,(a_N .i64 (replicate m X))[j]?=some v->wr.drew.cell? ((⟨g,0,none⟩:Addr).add j)=some v):=fun j v hj=>m_O (W:=wr.drew) V.out j v (q_6 X N k j v m (by omega) hj);clear em;go_wp2_with fail
   go_region_law (refine step_copy_splice rfl (.tmp 41) (.tmp 44) 26 26 rfl 48 Tryz.underlying26 (by kernel_rfl) (some ⟨g,k,none⟩) (some ⟨g,0,none⟩) (N - k) (N - k) k N (by simp [Act.eval,Act.put,R]) (by simp [Act.eval,Act.put]) g k (a_N .i64 (rep X N k)) 48 V.out (a_N .i64 (replicate m X)) (by rw [d_b,length_replicate];exact HM.symm) (fun _=>⟨rfl,⟨g,0,none⟩,rfl,HC.out⟩) (by rw [d_b,d_b,j_i X N k (by omega),length_replicate];omega) (d_L _ _) A.heap.size A J (Nat.le_of_eq Hg.out) ?_;intro w4 H4 B4;rw [g_V X N k m (by omega)] at H4;rw [show (a_N .i64 (replicate m X)).length=m by rw [d_b,length_replicate]])
   all_goals
    go_wp2;go_roundg (N - (k+m))
   case measure=>omega
   case rel=>exact ⟨k+m,by omega,by omega,rfl,by simp [goInt];rw [IntKind.wrap_i64];omega,H4,B4⟩
  ·obtain rfl:k=N:=by omega
   have HF:Hid (OwnK .i64 48 wr A.heap.size (.slice (some ⟨g,0,none⟩) k k) (replicate k X)/\Bw A wr):=by
    refine ⟨?_,Z.out⟩;have:=V.out;rw [o_9] at this;exact OwnK.of_heap this (Nat.le_of_eq Hg.out) (by simp) (by omega)
   go_wp2;go_ret;exact ⟨_,rfl,HF.out⟩
def t_o (d:List Int):Int:=if goodN (ntl d) then 0 else 1
def l_j (d:List Int):List Int:=if goodN (ntl d) then d else []
def t_p (d:List Int) (X:Int):List Int:=if goodN (ntl d) then replicate (a_f (ntl d)) X else []
theorem p_b (v:Value) (d:List Int) (hd:RI d) (X:Int) (w:World) (V:Nums .i64 w v d):
  Calls Tryz.prog 149 #[v,.int .i64 X] w fun e w'=>∃ v',e = .returned (.tuple #[v',.int .i64 (t_o d)])/\TRes w' w.heap.size v' (l_j d) (t_p d X)/\Bw w w':=by
 have R:=fun W (hW:Bw w W)=>c_I _ d hd W (V.up hW);have cZ:=fun W (hW:Bw w W)=>size_any _ d hd W (V.up hW);unfold t_o l_j t_p;by_cases H:goodN (ntl d)
 ·rw [decide_eq_true H] at R;rw [a_T H] at cZ;rw [if_pos H,if_pos H,if_pos H];have cC:=fun W (hW:Bw w W)=>c_m _ d (by have:=H.1;rw [a_O] at this;omega) W (V.up hW);have hN:1<=a_f (ntl d)/\a_f (ntl d)<=4096:=⟨H.pos,H.2.2⟩
  obtain ⟨N,eN⟩:∃ N,a_f (ntl d)=N:=⟨_,rfl⟩
  rw [eN] at cZ hN ⊢;clear eN H V hd;go_enter Tryz.func149,Tryz.ntmps149;go_wp2_with fail
  generalize E:alloc _ _=W0;have A:Hid (Bw w W0):=by show Below _ _ _;rw [<- E];go_grown
  have XR:Hid (Cel W0 w.heap.size (.slice none 0 0) (.slice none 0 0)):=e_W E (by simp [go_sem]);clear E;refine (R W0 A).mono ?_;rintro e w1 ⟨rfl,rfl⟩;clear R;go_wp2_with fail
  refine (cC w1 A).mono ?_;rintro e w2 ⟨v2,rfl,h2,aa⟩;have H2:Hid (OwnK .i64 3 w2 w1.heap.size v2 d/\Bw w1 w2):=⟨h2,aa⟩
  obtain ⟨p2,n2,c2,rfl,_⟩:=h2.nums.lst;clear cC h2 aa;go_wp2_with fail
  generalize J:alloc _ _=W3;have L:Hid (Bw w2 W3):=by show Below _ _ _;rw [<- J];go_grown
  have HX:Hid (Nums .i64 W3 (.slice (some ⟨w2.heap.size,0,none⟩) 1 1) [X]):=by rw [<- J];exact a_8 (k:=.i64) w2 [X] 1 (0,0) rfl
  have M:Hid (Bw w1 W3/\Bw w W3):=⟨a_c H2.2 L,a_c A (a_c H2.2 L)⟩
  clear J;refine (cZ W3 M.2).mono ?_;rintro e w4 ⟨rfl,rfl⟩;clear cZ;have cR:=l_i _ 1 X N hN w4 HX.out;go_wp2_with fail
  refine cR.mono ?_;rintro e w5 ⟨v5,rfl,h5,O⟩;obtain ⟨p5,n5,Z,rfl,_⟩:=h5.nums.lst;have I:=a_c M.1 O
  have HF:Hid (TRes (set2 w5 w.heap.size (.slice p2 n2 c2) (.slice p5 n5 Z)) w.heap.size (.agg #[.slice p2 n2 c2,.slice p5 n5 Z]) d (replicate N X)/\Bw w (set2 w5 w.heap.size (.slice p2 n2 c2) (.slice p5 n5 Z))):=by
   refine ⟨(TRes.set (H2.1.up (a_c L O)) (h5.low M.1.size) (a_b XR.1)).low A.size,a_q (a_c A I) _ (Nat.le_refl _) _ _⟩
  have xr:=XR.out.up I;have cf:=xr.set (.slice p2 n2 c2) (.slice p5 n5 Z);obtain ⟨r0,r1,r2,r3⟩:=xr;obtain ⟨y0,y1,_,_⟩:=cf;clear cR h5 O I;go_wp2;exact bodyPost_ret (v:=.tuple #[.agg #[.slice p2 n2 c2,.slice p5 n5 Z],.int .i64 0]) (by simp [results,Tryz.results149,go_sem,y0,y1]) rfl ⟨_,rfl,HF.out⟩
 ·rw [decide_eq_false H] at R;rw [if_neg H,if_neg H,if_neg H];clear H V hd cZ;go_enter Tryz.func149,Tryz.ntmps149;go_wp2_with fail
  generalize E:alloc _ _=W0;have A:Hid (Bw w W0):=by show Below _ _ _;rw [<- E];go_grown
  have XR:Hid (Cel W0 w.heap.size (.slice none 0 0) (.slice none 0 0)):=e_W E (by simp [go_sem]);clear E;refine (R W0 A).mono ?_;rintro e w1 ⟨rfl,rfl⟩;clear R;have xr:=XR.out;have BF:=a_q A w.heap.size (Nat.le_refl _) (.slice none 0 0) (.slice none 0 0);have cf:=xr.set (.slice none 0 0) (.slice none 0 0);obtain ⟨r0,r1,r2,r3⟩:=xr;obtain ⟨y0,y1,_,_⟩:=cf;go_wp2;exact brn 1 (by simp [results,Tryz.results149,go_sem,y0,y1]) ⟨_,rfl,TRes.none _ _,BF⟩
theorem OwnK.base {k:IntKind} {e:TypeId} {W:World} {B g n c:Nat} {l:List Int} (h:OwnK k e W B (.slice (some ⟨g,0,none⟩) n c) l):OwnK k e W g (.slice (some ⟨g,0,none⟩) n c) l:=by
 refine ⟨h.1,?_⟩;rcases h.2 with ⟨A,_⟩|⟨q,H,E,A,L,J⟩
 ·cases A
 ·have I:g=q:=by
   injection A with a1 _ _
   injection a1 with a2
   injection a2
  subst I;exact .inr ⟨g,H,E,A,Nat.le_refl _,J⟩
/-- A tensor in memory of its own; the one list apart from the other. -/
def t_q (W:World) (B:Nat) (v:Value) (D:List Int) (N:Nat) (X:List Int):Prop:=∃ s g c,v = .agg #[s,.slice (some ⟨g,0,none⟩) N c]/\OwnK .i64 3 W B s D/\OwnK .i64 48 W B (.slice (some ⟨g,0,none⟩) N c) X/\Off g s/\B<=g
theorem size_alloc (W:World) (o:Obj):(W.alloc o).heap.size=W.heap.size+1:=Array.size_push _
theorem p_c {k:IntKind} {e:TypeId} (W:World) (o:Obj):OwnK k e ((W.alloc o).alloc (.cells #[] e)) (W.heap.size+1) (.slice (some ⟨W.heap.size+1,0,none⟩) 0 0) []:=by
 have:=b_b (k:=k) (e:=e) (W.alloc o) [] 0 rfl (by decide);rw [size_alloc] at this;exact this
theorem e_P (v:Value) (d:List Int) (hd:RI d) (I:goodN (ntl d)) (X:Int) (w:World) (h1:Nums .i64 w v d):
  Calls Tryz.prog 95 #[v,.int .i64 X] w fun e w'=>∃ v',e = .returned v'/\t_q w' w.heap.size v' d (a_f (ntl d)) (replicate (a_f (ntl d)) X)/\Bw w w':=by
 have cZ:=fun W (hW:Bw w W)=>e_G _ d hd W (h1.up hW);rw [a_T I] at cZ;have hN:1<=a_f (ntl d)/\a_f (ntl d)<=4096:=⟨I.pos,I.2.2⟩
 have hl:d.length<=4:=by rw [<- a_O];exact I.1
 obtain ⟨N,eN⟩:∃ N,a_f (ntl d)=N:=⟨_,rfl⟩
 rw [eN] at cZ hN ⊢;have ax:1<=(N:Int)/\(N:Int)<=4096:=by omega
 have HV:Hid (Nums .i64 w v d/\d.length<=4):=⟨h1,hl⟩
 obtain ⟨p,n,c,rfl,_⟩:=h1.lst;have H5:Hid (OwnK .i64 3 ((w.alloc (.cells #[.slice none 0 0,.slice none 0 0] 50)).alloc (.cells #[] 3)) (w.heap.size+1) (.slice (some ⟨w.heap.size+1,0,none⟩) 0 0) []):=p_c w _
 have H8:Hid (Below (w.heap.size+1) ((w.alloc (.cells #[.slice none 0 0,.slice none 0 0] 50))) ((w.alloc (.cells #[.slice none 0 0,.slice none 0 0] 50)).alloc (.cells #[] 3))):=by
  have:=a_a (w.alloc (.cells #[.slice none 0 0,.slice none 0 0] 50)) (.cells #[] 3);rw [size_alloc] at this;exact this
 have H6:Hid (Nums .i64 ((w.alloc (.cells #[.slice none 0 0,.slice none 0 0] 50)).alloc (.cells #[] 3)) (.slice p n c) d):=HV.1.up (k_U (a_a w _) _);have H7:Hid (([]:List Int).length+d.length<=1073741824):=by show _<=_;have:=HV.2;simp;omega
 obtain ⟨V,eV⟩:∃ V,replicate N X=V:=⟨_,rfl⟩
 have A:Hid (replicate N X=V/\V.length=N):=⟨eV,by rw [<- eV];simp⟩
 rw [eV];clear eN I h1 hd hl eV;go_enter Tryz.func95,Tryz.ntmps95;go_wp2_with (at_builtin;go_loud (refine a_x e_g (by decide) rfl (.tmp 7) (.tmp 8) rfl (w.heap.size+1) _ [] rfl H5.out _ d rfl H6.out H7.out (by simp) _ H8.out ?_;intro v1 w1 H1 B1;obtain ⟨Z,n1,R,rfl,aq⟩:=H1.out.nums.lst))
 have ai:Below (w.alloc (.cells #[.slice none 0 0,.slice none 0 0] 50)).heap.size (w.alloc (.cells #[.slice none 0 0,.slice none 0 0] 50)) w1:=by rw [size_alloc];exact B1
 have aj:Hid (Cel w1 w.heap.size (.slice none 0 0) (.slice none 0 0)):=by
  refine Cel.up (W:=w.alloc (.cells #[.slice none 0 0,.slice none 0 0] 50)) ?_ ai;unfold Cel;simp [go_sem]
 have J:Hid (Bw w w1):=a_c (a_a w _) ai;have aa:Hid (OwnK .i64 3 w1 (w.heap.size+1) (.slice Z n1 R) d):=H1.out;clear H5 H6 H7 H8 B1 ai H1 aq;refine (cZ w1 J).mono ?_;rintro e w2 ⟨rfl,rfl⟩;clear cZ;go_wp2_with (at_make;refine a_F l_5 (by decide) _ rfl (.tmp 11) (.tmp 11) rfl .i64 .i64 N N N rfl rfl rfl rfl (by omega) w.heap.size w J.size J ?_;intro w3 ah B3 ar;clear ar)
 obtain ⟨g,I⟩:∃ g,w2.heap.size=g:=⟨_,rfl⟩
 generalize ae:alloc _ _=W4;obtain ⟨b5,af⟩:∃ b5,w3.heap.size=b5:=⟨_,rfl⟩
 have B4:Bw w3 W4:=by rw [<- ae];exact a_a w3 _
 have XT:Hid (Cel W4 b5 (.slice Z n1 R) (.slice (some ⟨g,0,none⟩) N N)):=by
  show Cel _ _ _ _;unfold Cel;rw [<- ae,I,<- af];simp [go_sem]
 have an:Hid (Bw w W4):=a_c J (a_c B3 B4);have am:Hid (Cel W4 w.heap.size (.slice none 0 0) (.slice none 0 0)):=aj.out.up (a_c B3 B4);have au:Hid (OwnK .i64 3 W4 (w.heap.size+1) (.slice Z n1 R) d):=aa.out.up (a_c B3 B4)
 have al:Hid (OwnK .i64 48 W4 g (.slice (some ⟨g,0,none⟩) N N) (b_l V 0)):=by
  show OwnK _ _ _ _ _ _;rw [a_W,A.2,<- I];exact ah.out.up B4
 have ao:=ah.size;have hx:=a_b aj.1;have O:Hid (w.heap.size < g/\g < b5/\w2.heap.size=g):=⟨by omega,by omega,I⟩
 rw [I,af];clear ae B4 B3 ah I af ao hx
 go_loopg [6] N (fun gg i wr=>∃ (k:Nat),k<=N/\gg=N - k/\i = .int .i64 (k:Int)/\Hid (OwnK .i64 48 wr g (.slice (some ⟨g,0,none⟩) N N) (b_l V k))/\Hid (Bw w wr/\Stay g W4 wr))
 case atStart=>exact ⟨0,by omega,by omega,by first|rfl|simp,al,an,Stay.refl _ _⟩
 case round=>
  obtain ⟨k,hk,az,rfl,ag,H⟩:=hrel;obtain ⟨L,ap⟩:∃ L:World,L=wr:=⟨_,rfl⟩
  subst ap;have ab:b5≠g:=by have:=O.out;omega
  obtain ⟨t0,t1,_,_⟩:=XT.out.stay H.2 ab;by_cases ad:k < N
  ·have aw:(k:Int) < (N:Int):=by omega
   have HZ:Hid (V.getD k 0=X):=by
    show _=_;rw [<- A.1,a_t _ k 0 (by simp;exact ad),getElem_replicate]
   obtain ⟨av,ay⟩:=ag.cell (by rw [a_y];exact A.2) k ad
   have H5:Hid (OwnK .i64 48 (L.setCell ⟨g,k,none⟩ (.int .i64 X)) g (.slice (some ⟨g,0,none⟩) N N) (b_l V (k+1))):=by
    have:=ag.out.store (by rw [a_y];exact A.2) k X;have e2:=a_9 V k (by rw [A.2];exact ad);rw [HZ.out] at e2;rw [e2] at this;exact this
   have ak:w.heap.size<=g:=by have:=O.out;omega
   have H6:Hid (Bw w (L.setCell ⟨g,k,none⟩ (.int .i64 X))/\Stay g W4 (L.setCell ⟨g,k,none⟩ (.int .i64 X))):=⟨H.1.setCell (p:=⟨g,k,none⟩) ak _,H.2.set _ _⟩
   clear ak ab;go_wp2;go_roundg (N - (k+1))
   case measure=>omega
   case rel=>exact ⟨k+1,by omega,rfl,by first|rfl|simp,H5,H6⟩
  ·obtain rfl:k=N:=by omega
   have M:w.heap.size≠g:=by have:=O.out;omega
   have E:=ag.out;rw [<- A.2,a_0,A.2] at E;have ac:=au.out.stay H.2 (aa.out.off_new (by rw [O.2.2];exact Nat.le_refl _))
   have HF:Hid (t_q (set2 L w.heap.size (.slice Z n1 R) (.slice (some ⟨g,0,none⟩) k k)) w.heap.size (.agg #[.slice Z n1 R,.slice (some ⟨g,0,none⟩) k k]) d k V/\Bw w (set2 L w.heap.size (.slice Z n1 R) (.slice (some ⟨g,0,none⟩) k k))):=
    ⟨⟨_,g,k,rfl,(ac.stay (Stay.set2 L _ _) (ac.off (by omega))).low (by omega),(E.stay (Stay.set2 L _ _) (E.off O.1)).low (by have:=O.out;omega),aa.out.off_new (by rw [O.2.2];exact Nat.le_refl _),by have:=O.out;omega⟩,a_q H.1 _ (Nat.le_refl _) _ _⟩
   have xr:=am.out.stay H.2 M;have cf:=xr.set (.slice Z n1 R) (.slice (some ⟨g,0,none⟩) k k);obtain ⟨r0,r1,r2,r3⟩:=xr;obtain ⟨y0,y1,_,_⟩:=cf;clear E ac M ab;go_wp2;exact bodyPost_ret (v:=.agg #[.slice Z n1 R,.slice (some ⟨g,0,none⟩) k k]) (by simp [results,Tryz.results95,go_sem,y0,y1]) rfl ⟨_,rfl,HF.out⟩
end Go.Proofs.YtkfpainpomobfaaGreatDoor.Wd
namespace Go.Proofs.YtkfpainpomobfaaGreatDoor.Wd
open Go.RowKit Fx List World Nat
/-- Two matrices that can be multiplied. -/
abbrev mP (d x d' y:List Int):Prop:=(isP d x/\isP d' y)/\d'.length=2/\d.length=2/\d.getD 1 0=d'.getD 0 0
abbrev mG (d d':List Int):Prop:=goodN (ntl [d.getD 0 0,d'.getD 1 0])
def mE (d x d' y:List Int):Int:=if isP d x/\isP d' y then if mP d x d' y then if mG d d' then 0 else 2 else 4 else 1
def mD (d x d' y:List Int):List Int:=if mP d x d' y/\mG d d' then [d.getD 0 0,d'.getD 1 0] else []
def mV (d x d' y:List Int):List Int:=if mP d x d' y/\mG d d' then t_l (d.getD 0 0).toNat (d.getD 1 0).toNat (d'.getD 1 0).toNat x y else []
theorem p_d:∀ n,n < 5->∀ s,s < n->l_E (c_Y n (s:Int)) n:=by decide +kernel
theorem p_e (n:Nat) (A:Int) (h:¬ (0<=A/\A < (n:Int))):¬ l_E (c_Y n A) n:=by
 intro H;have E:=H.1
 have I:j_h n A=itl (range n):=by
  unfold j_h;refine filter_eq_self.2 fun y L=>?_;obtain ⟨k,J,rfl⟩:=mem_map.1 L;have:=mem_range.1 J;simp;omega
 unfold c_Y at E;rw [I,length_append,a_p,length_range,length_singleton] at E;omega
theorem p_f (n s:Nat) (H:n<=4) (E:s < n) (P:List Nat) (A:P.length+1=n) (k:Nat):unp (ntl (c_Y n (s:Int))) (P++[k]) n=o_e P s k:=by
 rcases P with _|⟨a,_|⟨b,_|⟨c,_|⟨e,P⟩⟩⟩⟩
 ·simp at A;subst A;obtain rfl:s=0:=by omega
  rfl
 ·simp at A;subst A;obtain rfl|rfl:s=0∨s=1:=by omega
  ·rfl
  ·rfl
 ·simp at A;subst A;obtain rfl|rfl|rfl:s=0∨s=1∨s=2:=by omega
  ·rfl
  ·rfl
  ·rfl
 ·simp at A;subst A;obtain rfl|rfl|rfl|rfl:s=0∨s=1∨s=2∨s=3:=by omega
  ·rfl
  ·rfl
  ·rfl
  ·rfl
 ·simp at A;omega
theorem i_n (d:List Nat) (E:d.length<=4) (s:Nat) (A:s < d.length):c_s d (ntl (c_Y d.length (s:Int)))=a_R d s++[d.getD s 0]:=by
 rcases d with _|⟨a,_|⟨b,_|⟨c,_|⟨e,_|⟨f,d⟩⟩⟩⟩⟩
 ·simp at A
 ·obtain rfl:s=0:=by simp at A;omega
  rfl
 ·obtain rfl|rfl:s=0∨s=1:=by simp at A;omega
  ·rfl
  ·rfl
 ·obtain rfl|rfl|rfl:s=0∨s=1∨s=2:=by simp at A;omega
  ·rfl
  ·rfl
  ·rfl
 ·obtain rfl|rfl|rfl|rfl:s=0∨s=1∨s=2∨s=3:=by simp at A;omega
  ·rfl
  ·rfl
  ·rfl
  ·rfl
 ·simp at E
theorem i_o (c k:Nat) (A:k < c):∀ (r:List Nat) (i:Nat),(∀ x,x∈r->1<=x)->i < a_f r->a_G (r++[c]) (i*c+k)=a_G r i++[k]
 | [],i,_,E=>by
  have E:i < 1:=E;obtain rfl:i=0:=by omega
  show [(0*c+k) / a_f []] = [k];rw [show a_f []=1 from rfl,Nat.div_one,Nat.zero_mul,Nat.zero_add]
 | x :: r,i,hp,E=>by
  have J:=a_X fun y H=>hp y (mC H);have I:=i_o c k A r (i % a_f r) (fun y H=>hp y (mC H)) (mod_lt _ J);have e:a_f (r++[c])=a_f r*c:=by rw [a_M];simp [a_f]
  have O:0 < c:=by omega
  simp only [cons_append,a_G];rw [e]
  have L:(i*c+k) / (a_f r*c)=i / a_f r:=by
   rw [Nat.mul_comm (a_f r) c,<- Nat.div_div_eq_div_mul,b_8 _ _ _ A]
  have M:(i*c+k) % (a_f r*c)=i % a_f r*c+k:=by
   rw [Nat.mul_comm (a_f r) c,mod_mul,c_l _ _ _ A,b_8 _ _ _ A,Nat.mul_comm,Nat.add_comm]
  rw [L,M,I]
/-- Where the numbers of one sum stood. -/
theorem m_P {d:List Nat} (E:goodN d) (s:Nat) (A:s < d.length) (i k:Nat) (H:i < a_f (a_R d s)) (J:k < d.getD s 0):
  f_X d (ntl (c_Y d.length (s:Int))) (i*d.getD s 0+k)=(i / a_f (d.drop (s+1))*d.getD s 0+k)*a_f (d.drop (s+1))+i % a_f (d.drop (s+1)):=by
 have I:(a_G (a_R d s) i).length+1=d.length:=by
  rw [b_M];simp only [a_R,length_append,length_take,length_drop];omega
 unfold f_X;rw [i_n d E.1 s A,i_o _ _ J _ _ (c_X E s A).2.1 H,p_f _ _ E.1 A _ I,j_c E s A i k H]
abbrev smP (d x:List Int) (side:Int):Prop:=isP d x/\0<=side/\side < (d.length:Int)
def smE (d x:List Int) (side:Int):Int:=if smP d x side then 0 else 1
def smD (d x:List Int) (side:Int):List Int:=if smP d x side then itl (a_R (ntl d) side.toNat) else []
def smV (d x:List Int) (side:Int):List Int:=if smP d x side then m_y (ntl d) side.toNat x else []
theorem q_8 {d x:List Int} {A:Int} (h:¬ smP d x A):smE d x A=1/\smD d x A = []/\smV d x A = []/\i_j d x (c_Y d.length A)=1/\h_w d x (c_Y d.length A) = []/\f_t d x (c_Y d.length A) = []:=by
 have E:¬ g_z d x (c_Y d.length A):=fun c=>h ⟨c.1,Classical.byContradiction fun H=>p_e _ _ H c.2⟩;exact ⟨if_neg h,if_neg h,if_neg h,if_neg E,if_neg E,if_neg E⟩
/-- What Turn hands back where there is such a side. -/
theorem q_9 {a:List Nat} {x:List Int} (A:goodN a) (L:x.length=a_f a) (s:Nat) (E:s < a.length):
  i_j (itl a) x (c_Y a.length (s:Int))=0/\h_w (itl a) x (c_Y a.length (s:Int))=itl (a_R a s++[a.getD s 0])/\(f_t (itl a) x (c_Y a.length (s:Int))).length=a_f a/\
   ∀ i k,i < a_f (a_R a s)->k < a.getD s 0->(f_t (itl a) x (c_Y a.length (s:Int))).getD (i*a.getD s 0+k) 0=x.getD ((i / a_f (a.drop (s+1))*a.getD s 0+k)*a_f (a.drop (s+1))+i % a_f (a.drop (s+1))) 0:=by
 have hp:g_z (itl a) x (c_Y a.length (s:Int)):=by
  refine ⟨⟨by rw [a_n];exact A,by rw [a_n];exact L⟩,?_⟩;rw [a_p];exact p_d _ (by have:=A.1;omega) s E
 have e:∀ o,g_z (itl a) x o->f_t (itl a) x o=(range (a_f a)).map fun i=>x.getD (f_X a (ntl o) i) 0:=fun o h=>by
  unfold f_t;rw [if_pos h,a_n]
 refine ⟨if_pos hp,?_,?_,fun i k I J=>?_⟩
 ·unfold h_w;rw [if_pos hp,a_n,i_n a A.1 s E]
 ·rw [e _ hp];simp
 ·have H:i*a.getD s 0+k < a_f a:=by
   rw [<- f_c a s E];exact b_D I J
  rw [e _ hp,a_J _ _ _ _ H,m_P A s E i k I J]
theorem i_p:∀ n,b_C (fun _=>0) n=0
 | 0=>rfl
 | n+1=>by rw [b_C,i_p n];rfl
theorem e_Q {f:Nat->Int} (n:Nat) (h:∀ k,k < n->f k=0):b_C f n=0:=by rw [b_3 n h,i_p]
theorem g_W (f:Nat->Int) (n:Nat):∀ m,b_C f (n+m)=b_C f n+b_C (fun k=>f (n+k)) m
 | 0=>by simp [b_C]
 | m+1=>by rw [<- Nat.add_assoc,b_C,g_W f n m,b_C];omega
/-- Of a sum where one place alone counts: what stands there. -/
theorem k_h (f:Nat->Int) (j:Nat) (n:Nat) (h:∀ k,k < n->k≠j->f k=0):b_C f n=if j < n then f j else 0:=by
 rw [<- i_h (f j) j n];refine b_3 n fun k A=>?_;by_cases e:k=j
 ·rw [if_pos e,e]
 ·rw [if_neg e,h k A e]
/-- A sum of sums of w each, as one. -/
def c_B (f:Nat->Nat->Int) (w m:Nat):Int:=b_C (fun q=>f (q / w) (q % w)) m
theorem m_Q (f:Nat->Nat->Int) (w:Nat):c_B f w 0=0:=rfl
theorem m_R (f:Nat->Nat->Int) {w x y:Nat} (A:y < w):c_B f w (x*w+(y+1))=c_B f w (x*w+y)+f x y:=by
 show b_C _ (x*w+y+1)=_;rw [b_C,b_8 _ _ _ A,c_l _ _ _ A];rfl
theorem p_g (f:Nat->Nat->Int) (w x:Nat):c_B f w (x*w+w)=c_B f w ((x+1)*w):=by rw [Nat.add_mul,Nat.one_mul]
theorem e_R (f:Nat->Nat->Int) (w:Nat):∀ c,c_B f w (c*w)=b_C (fun x=>b_C (fun y=>f x y) w) c
 | 0=>by rw [Nat.zero_mul];rfl
 | c+1=>by
  rw [b_C,<- e_R f w c,Nat.add_mul,Nat.one_mul];show b_C _ (c*w+w)=b_C _ (c*w)+_;rw [g_W]
  congr 1
  refine b_3 w fun y A=>?_;rw [b_8 _ _ _ A,c_l _ _ _ A]
/-- Sums of sums of products of numbers are no more than the reference's numbers hold. -/
theorem m_S {f:Nat->Nat->Int} {B:Int} (A:0<=B) (w m:Nat) (h:∀ q,q < m->-B<=f (q / w) (q % w)/\f (q / w) (q % w)<=B):-(B*m)<=c_B f w m/\c_B f w m<=B*m:=e_O A m h
/-- Where the greatest of v's m + 1 numbers from b on stands first. -/
def b_P (v:List Int) (b:Nat):Nat->Nat
 | 0=>b
 | m+1=>if v.getD (b_P v b m) 0 < v.getD (b+(m+1)) 0 then b+(m+1) else b_P v b m
theorem e_S (v:List Int) (b:Nat):∀ m,b<=b_P v b m/\b_P v b m<=b+m
 | 0=>⟨Nat.le_refl _,Nat.le_refl _⟩
 | m+1=>by
  have:=e_S v b m;rw [b_P]
  split <;> omega
/-- A Row's number: c rows of l, windows of c by w, at step. -/
def j_j (c l w n step:Nat) (a k:List Int) (q:Nat):Int:=rnd (c_B (fun x y=>a.getD (x*l+q % n*step+y) 0*k.getD ((q / n*c+x)*w+y) 0) w (c*w))
def g_e (c l w o n step:Nat) (a k:List Int):List Int:=(range (o*n)).map (j_j c l w n step a k)
theorem i_q (c l w o n A:Nat) (a k:List Int):(g_e c l w o n A a k).length=o*n:=by simp [g_e]
theorem p_h (c l w o n A:Nat) (a k:List Int) (q:Nat) (h:q < o*n):(g_e c l w o n A a k).getD q 0=j_j c l w n A a k q:=a_J _ _ _ _ h
/-- The greatest of each wide numbers: where they stand, and they. -/
def e_n (l n wide:Nat) (v:List Int) (q:Nat):Nat:=b_P v (q / n*l+q % n*wide) (wide - 1)
def i_r (c l n wide:Nat) (v:List Int):List Int:=(range (c*n)).map fun q=>((e_n l n wide v q:Nat):Int)
def g_A (c l n wide:Nat) (v:List Int):List Int:=(range (c*n)).map fun q=>v.getD (e_n l n wide v q) 0
theorem i_s (c l n A:Nat) (v:List Int):(i_r c l n A v).length=c*n:=by simp [i_r]
theorem g_f (c l n A:Nat) (v:List Int):(g_A c l n A v).length=c*n:=by simp [g_A]
theorem m_T {c l n A q:Nat} (v:List Int) (J:q < c*n) (R:1<=A) (V:n*A<=l):q / n*l+q % n*A+A<=c*l/\e_n l n A v q < c*l:=by
 have E:q < n*c:=by rw [Nat.mul_comm];exact J
 have H:=k_b E;have I:q / n < c:=k_a E;have M:q % n < n:=mod_lt _ H;have L:(q % n+1)*A<=n*A:=mul_le_mul_right _ M;have O:(q / n+1)*l<=c*l:=mul_le_mul_right _ I;rw [Nat.add_mul,Nat.one_mul] at L O;have Z:=(e_S v (q / n*l+q % n*A) (A - 1)).2;unfold e_n;omega
/-- How many stops. -/
def b_B (L wd st:Nat):Nat:=(L - wd) / st+1
/-- A sum of sums of sums of sums, as one. -/
def g_g (f:Nat->Nat->Nat->Nat->Int) (R S w q:Nat):Int:=b_C (fun t=>f (t / w / S / R) (t / w / S % R) (t / w % S) (t % w)) q
theorem l_k (f:Nat->Nat->Nat->Nat->Int) {R S w o c n y:Nat} (E:c < R) (A:n < S) (H:y < w):g_g f R S w (((o*R+c)*S+n)*w+(y+1))=g_g f R S w (((o*R+c)*S+n)*w+y)+f o c n y:=by
 show b_C _ (((o*R+c)*S+n)*w+y+1)=_;rw [b_C,b_8 _ _ _ H,c_l _ _ _ H,b_8 _ _ _ A,c_l _ _ _ A,b_8 _ _ _ E,c_l _ _ _ E];rfl
theorem m_U (f:Nat->Nat->Nat->Nat->Int) (O R S w:Nat):g_g f R S w (O*R*S*w)=b_C (fun o=>b_C (fun c=>b_C (fun n=>b_C (fun y=>f o c n y) w) S) R) O:=by
 have E:g_g f R S w (O*R*S*w)=c_B (fun a y=>f (a / S / R) (a / S % R) (a % S) y) w (O*R*S*w):=rfl;have H:b_C (fun a=>b_C (fun y=>f (a / S / R) (a / S % R) (a % S) y) w) (O*R*S)=c_B (fun b n=>b_C (fun y=>f (b / R) (b % R) n y) w) S (O*R*S):=rfl;have A:b_C (fun b=>b_C (fun n=>b_C (fun y=>f (b / R) (b % R) n y) w) S) (O*R)=c_B (fun o c=>b_C (fun n=>b_C (fun y=>f o c n y) w) S) R (O*R):=rfl;rw [E,e_R,H,e_R,A,e_R]
theorem m_V {o S n i:Nat} (A:n < S) (h:o*S+n=i):o=i / S/\n=i % S:=by
 subst h;exact ⟨(b_8 _ _ _ A).symm,(c_l _ _ _ A).symm⟩
theorem m_W (i S:Nat):i / S*S+i % S=i:=by rw [Nat.mul_comm];exact div_add_mod i S
/-- What meets at a number of Row. -/
def o_f (L R S w st:Nat) (a k:List Int) (i o c n y:Nat):Int:=if o*S+n=i then a.getD (c*L+n*st+y) 0*k.getD ((o*R+c)*w+y) 0 else 0
theorem m_X {L O R S w st i:Nat} (a k:List Int) (J:i < O*S):rnd (g_g (o_f L R S w st a k i) R S w (O*R*S*w))=j_j R L w S st a k i:=by
 have E:i < S*O:=by rw [Nat.mul_comm];exact J
 have V:=k_b E;rw [m_U,k_h _ (i / S) O fun o Z A=>?_,if_pos (k_a E)]
 ·unfold j_j
  congr 1
  rw [e_R];refine b_3 R fun c M=>?_;rw [k_h _ (i % S) S fun n H A=>?_,if_pos (mod_lt _ V)]
  ·refine b_3 w fun y I=>?_;unfold o_f;rw [if_pos (m_W i S)]
  ·refine e_Q w fun y I=>?_;unfold o_f;rw [if_neg fun h=>A (m_V H h).2]
 ·refine e_Q R fun c M=>e_Q S fun n H=>e_Q w fun y I=>?_;unfold o_f;rw [if_neg fun h=>A (m_V H h).1]
theorem i_t (R L O wd st:Nat) (h1:wd<=L) (h2:L<=4096) (h3:1<=st) (h4:st<=64) (w:World):
  Calls Tryz.prog 160 #[.agg #[.int .i64 (R:Int),.int .i64 (L:Int),.int .i64 (O:Int),.int .i64 (wd:Int),.int .i64 (st:Int)]] w fun e w'=>e = .returned (.int .i64 (b_B L wd st:Nat))/\Bw w w':=by
 obtain ⟨D,H⟩:∃ D,L - wd=D:=⟨_,rfl⟩
 have V:(L:Int) - (wd:Int)=(D:Int):=by omega
 obtain ⟨q,A⟩:∃ q,D / st=q:=⟨_,rfl⟩
 have ab:(D:Int) / (st:Int)=(q:Int):=by rw [<- A];rfl
 have hq:q<=D:=by rw [<- A];exact div_le_self _ _
 have M:(q:Int)<=4096:=by omega
 have I:(D:Int)<=4096:=by omega
 have Z:(L:Int)<=4096:=by omega
 have aa:(wd:Int)<=4096:=by omega
 have J:1<=(st:Int)/\(st:Int)<=64:=by omega
 have E:((b_B L wd st:Nat):Int)=(q:Int)+1:=by unfold b_B;rw [H,A];rfl
 rw [E];clear E H A;go_enter Tryz.func160,Tryz.ntmps160;go_wp2;go_ret;exact ⟨rfl,by go_grown⟩
theorem i_u (st:Int) (w:World):
  Calls Tryz.prog 158 #[.int .i64 st] w fun e H=>e = .returned (.bool (decide (1<=st/\st<=64)))/\Bw w H:=by
 by_cases A:1<=st
 ·by_cases E:st<=64
  ·rw [decide_eq_true ⟨A,E⟩];go_enter Tryz.func158,Tryz.ntmps158;go_wp2;go_ret;exact ⟨rfl,by go_grown⟩
  ·rw [decide_eq_false fun h=>E h.2];go_enter Tryz.func158,Tryz.ntmps158;go_wp2;go_ret;exact ⟨rfl,by go_grown⟩
 ·rw [decide_eq_false fun h=>A h.1];go_enter Tryz.func158,Tryz.ntmps158;go_wp2;go_ret;exact ⟨rfl,by go_grown⟩
/-- A slide's numbers, in a block. -/
def SlC (W:World) (b R L O wd st:Nat):Prop:=
 W.cell? ⟨b,0,none⟩=some (.int .i64 (R:Int))/\W.cell? ⟨b,1,none⟩=some (.int .i64 (L:Int))/\W.cell? ⟨b,2,none⟩=some (.int .i64 (O:Int))/\W.cell? ⟨b,3,none⟩=some (.int .i64 (wd:Int))/\W.cell? ⟨b,4,none⟩=some (.int .i64 (st:Int))
theorem SlC.up {W W':World} {b R L O wd st:Nat} (h:SlC W b R L O wd st) (A:Bw W W'):SlC W' b R L O wd st:=
 ⟨a_d h.1 A,a_d h.2.1 A,a_d h.2.2.1 A,a_d h.2.2.2.1 A,a_d h.2.2.2.2 A⟩
theorem SlC.stay {W W':World} {g b R L O wd st:Nat} (h:SlC W b R L O wd st) (A:Stay g W W') (E:b≠g):SlC W' b R L O wd st:=
 ⟨A.cell h.1 E,A.cell h.2.1 E,A.cell h.2.2.1 E,A.cell h.2.2.2.1 E,A.cell h.2.2.2.2 E⟩
theorem m_Y (K:FuncId) (aG:∀ args W,(callFunc K args).run Tryz.prog W = .ok (.enter K args) W) (u0 u1 u2:Value) (b R L O wd st S:Nat) (hS:b_B L wd st=S) (h1:wd<=L) (h2:L<=4096) (h3:1<=st) (h4:st<=64) (h5:O*R*wd<=4096) (h6:O*S<=4096) (h7:R*L<=4096) (h8:O<=4096) (h9:R<=4096)
  (I:Nat->World->Prop) (hI:∀ q W W',I q W->Bw W W'->I q W')
  (hK:∀ o c n y,o < O->c < R->n < S->y < wd->∀ W,I (((o*R+c)*S+n)*wd+y) W->Calls Tryz.prog K #[.int .i64 ((c*L+n*st+y:Nat):Int),.int .i64 (((o*R+c)*wd+y:Nat):Int),.int .i64 ((o*S+n:Nat):Int),u0,u1,u2] W fun e J=>e = .returned (.tuple #[])/\I (((o*R+c)*S+n)*wd+(y+1)) J/\Stay b W J/\Below b W J)
  (w:World) (hb:b < w.heap.size) (h0:I 0 w):
  Calls Tryz.prog 162 #[.agg #[.int .i64 (R:Int),.int .i64 (L:Int),.int .i64 (O:Int),.int .i64 (wd:Int),.int .i64 (st:Int)],.func (.func K) #[] #[u0,u1,u2]] w fun e J=>e = .returned (.tuple #[])/\I (O*R*S*wd) J/\Stay b w J/\Below b w J:=by
 have cS:∀ W:World,Calls Tryz.prog 160 #[.agg #[.int .i64 (R:Int),.int .i64 (L:Int),.int .i64 (O:Int),.int .i64 (wd:Int),.int .i64 (st:Int)]] W fun e J=>e = .returned (.int .i64 (S:Int))/\Bw W J:=fun W=>by rw [<- hS];exact i_t R L O wd st h1 h2 h3 h4 W
 have HI:Hid (∀ q W W',I q W->Bw W W'->I q W'):=hI;have HK:Hid (∀ o c n y,o < O->c < R->n < S->y < wd->∀ W,I (((o*R+c)*S+n)*wd+y) W->Calls Tryz.prog K #[.int .i64 ((c*L+n*st+y:Nat):Int),.int .i64 (((o*R+c)*wd+y:Nat):Int),.int .i64 ((o*S+n:Nat):Int),u0,u1,u2] W fun e J=>e = .returned (.tuple #[])/\I (((o*R+c)*S+n)*wd+(y+1)) J/\Stay b W J/\Below b W J):=hK;have H0:Hid (I 0 w):=h0
 have HR:Hid ((∀ n,n < S->n*st+wd<=L)/\O*R*wd<=4096/\O*S<=4096/\R*L<=4096):=⟨fun n hn=>by
  unfold b_B at hS;have:n<=(L - wd) / st:=by omega
  have:=(le_div_iff_mul_le (by omega)).1 this;omega,h5,h6,h7⟩
 have aM:S<=4097:=by rw [<- hS];unfold b_B;have:=div_le_self (L - wd) st;omega
 have ar:(wd:Int)<=4096/\(L:Int)<=4096/\1<=(st:Int)/\(st:Int)<=64/\(O:Int)<=4096/\(R:Int)<=4096/\(S:Int)<=4097:=by omega
 obtain ⟨aL,aY,aR,a0,aN,aP,aO⟩:=ar;clear hI hK h0 h5 h6 h7 hS h1 h2 h3 h4;haveI:Nonempty World:=⟨w⟩
 go_enter Tryz.func162,Tryz.ntmps162;go_wp2_with fail
 generalize ac:alloc _ _=W0;have aj:Bw w W0:=by rw [<- ac];exact a_a w _
 have X0:SlC W0 w.heap.size R L O wd st:=by unfold SlC;rw [<- ac];simp [go_sem]
 clear ac;refine (cS W0).mono ?_;rintro e H ⟨rfl,ae⟩;have hB:Bw w H:=a_c aj ae;have HX:Hid (SlC H w.heap.size R L O wd st/\b < w.heap.size):=⟨X0.up ae,hb⟩
 have H1:Hid (I (0*R*S*wd) H/\Stay b w H/\Below b w H):=⟨by rw [Nat.zero_mul,Nat.zero_mul,Nat.zero_mul];exact HI.out _ _ _ H0.out hB,Stay.of hB,hB.mono (Nat.le_of_lt hb)⟩
 clear aj X0 ae hB cS hb H0;obtain ⟨z0,z1,z2,z3,z4⟩:=HX.1;have zl:=a_b z0;obtain ⟨G,eG⟩:∃ G,w.heap.size=G:=⟨_,rfl⟩
 rw [eG] at z0 z1 z2 z3 z4 HX ⊢;clear eG;go_wp2_with fail
 clear z0 z1 z2 z3 z4 zl
 go_loopg [15] O (fun gg i wr=>∃ (o:Nat),o<=O/\gg=O - o/\i = .int .i64 (o:Int)/\Hid (I (o*R*S*wd) wr/\Stay b w wr/\Below b w wr/\Stay b H wr))
 case atStart=>exact ⟨0,by omega,by omega,by first|rfl|simp,H1.1,H1.2.1,H1.2.2,Stay.refl _ _⟩
 case round=>
  obtain ⟨o,ho,aT,rfl,Ho⟩:=hrel;obtain ⟨R1,ax⟩:∃ R1:World,R1=wr:=⟨_,rfl⟩
  subst ax;by_cases V:o < O
  ·have aV:(o:Int) < (O:Int):=by omega
   obtain ⟨z0,z1,z2,z3,z4⟩:=HX.1.stay Ho.2.2.2 (by have:=HX.2;omega);have zl:=a_b z0;go_wp2_with fail
   clear z0 z1 z2 z3 z4 zl;rw [show o*R*S=(o*R+0)*S from rfl] at Ho
   go_loopg [20] R (fun gg i wr=>∃ (c:Nat),c<=R/\gg=R - c/\i = .int .i64 (c:Int)/\Hid (I ((o*R+c)*S*wd) wr/\Stay b w wr/\Below b w wr/\Stay b H wr))
   case atStart=>exact ⟨0,by omega,by omega,by first|rfl|simp,Ho⟩
   case round=>
    obtain ⟨c,hc,aH,rfl,Hc⟩:=hrel;obtain ⟨R2,av⟩:∃ R2:World,R2=wr:=⟨_,rfl⟩
    subst av;by_cases aa:c < R
    ·have aW:(c:Int) < (R:Int):=by omega
     go_wp2_with fail
     rw [show (o*R+c)*S=(o*R+c)*S+0 from rfl] at Hc
     go_loopg [24] S (fun gg i wr=>∃ (n:Nat),n<=S/\gg=S - n/\i = .int .i64 (n:Int)/\Hid (I (((o*R+c)*S+n)*wd) wr/\Stay b w wr/\Below b w wr/\Stay b H wr))
     case atStart=>exact ⟨0,by omega,by omega,by first|rfl|simp,Hc⟩
     case round=>
      obtain ⟨n,hn,aX,rfl,Hn⟩:=hrel;obtain ⟨R3,aC⟩:∃ R3:World,R3=wr:=⟨_,rfl⟩
      subst aC;by_cases af:n < S
      ·have aU:(n:Int) < (S:Int):=by omega
       obtain ⟨z0,z1,z2,z3,z4⟩:=HX.1.stay Hn.2.2.2 (by have:=HX.2;omega);have zl:=a_b z0;have b1:=HR.1 n af;have b2:(c+1)*L<=R*L:=mul_le_mul_right L aa;have b3:(o*R+c+1)*wd<=O*R*wd:=mul_le_mul_right wd (b_D V aa);have b4:o*S+n < O*S:=b_D V af;have b5:=HR.2;rw [Nat.add_mul,Nat.one_mul] at b2 b3;have b6:=b_D V aa;have b7:o*R<=O*R:=mul_le_mul_right R (Nat.le_of_lt V);have b8:O*R<=16777216:=Nat.mul_le_mul h8 h9;obtain ⟨A,eA⟩:∃ A,c*L=A:=⟨_,rfl⟩
       obtain ⟨B,eB⟩:∃ B,n*st=B:=⟨_,rfl⟩
       obtain ⟨C,eC⟩:∃ C,o*R=C:=⟨_,rfl⟩
       obtain ⟨OR,am⟩:∃ C,O*R=C:=⟨_,rfl⟩
       obtain ⟨RL,ah⟩:∃ C,R*L=C:=⟨_,rfl⟩
       have aA:(c:Int)*(L:Int)=(A:Int):=by rw [<- eA];push_cast;rfl
       have au:(n:Int)*(st:Int)=(B:Int):=by rw [<- eB];push_cast;rfl
       have aB:(o:Int)*(R:Int)=(C:Int):=by rw [<- eC];push_cast;rfl
       rw [eC] at b3 b6 b7;rw [eA,ah] at b2;rw [eB] at b1;rw [am] at b6 b7 b8;rw [ah] at b5;obtain ⟨E,eE⟩:∃ E,C+c=E:=⟨_,rfl⟩
       have aw:(C:Int)+(c:Int)=(E:Int):=by omega
       obtain ⟨AB,ap⟩:∃ E,A+B=E:=⟨_,rfl⟩
       have ai:(A:Int)+(B:Int)=(AB:Int):=by omega
       rw [eE] at b3 b6;obtain ⟨KB,Z⟩:∃ E',E*wd=E':=⟨_,rfl⟩
       have ao:(E:Int)*(wd:Int)=(KB:Int):=by rw [<- Z];push_cast;rfl
       rw [Z] at b3;obtain ⟨OS,ab⟩:∃ E',o*S=E':=⟨_,rfl⟩
       have aF:(o:Int)*(S:Int)=(OS:Int):=by rw [<- ab];push_cast;rfl
       obtain ⟨Q,eQ⟩:∃ E',OS+n=E':=⟨_,rfl⟩
       have aJ:(OS:Int)+(n:Int)=(Q:Int):=by omega
       rw [ab,eQ] at b4;have HE:Hid (c*L+n*st=AB/\(o*R+c)*wd=KB/\o*S+n=Q):=⟨by rw [eA,eB,ap],by rw [eC,eE,Z],by rw [ab,eQ]⟩
       have aS:(A:Int)<=10000/\(B:Int)<=10000/\(C:Int)<=16777216/\(E:Int)<=16777217:=by omega
       have aI:(AB:Int)+(wd:Int)<=20000/\(KB:Int)+(wd:Int)<=20000/\(Q:Int)<=20000/\(OS:Int)<=20000:=by omega
       clear eA eB eC am ah eE ap Z ab eQ b1 b2 b3 b4 b5 b6 b7 b8;go_wp2_with fail
       go_quiet (fail)
       generalize aq:drewN R3 nq=w5;have M:Bw R3 w5:=by rw [<- aq];exact a_i (Below.refl _ _) nq
       have ad:Hid (I (((o*R+c)*S+n)*wd) w5/\Stay b w w5/\Below b w w5/\Stay b H w5):=⟨HI.out _ _ _ Hn.1 M,Hn.2.1.up M,Hn.2.2.1.trans (M.mono (by have h:=HX.2;have h2:=a_b z0;omega)),Hn.2.2.2.up M⟩
       clear aq M z0 z1 z2 z3 z4 zl;obtain ⟨z0,z1,z2,z3,z4⟩:=HX.1.stay ad.2.2.2 (by have:=HX.2;omega);have zl:=a_b z0;go_wp2_with fail
       clear z0 z1 z2 z3 z4 zl aA au aB aw ai ao;rw [show ((o*R+c)*S+n)*wd=((o*R+c)*S+n)*wd+0 from rfl] at ad
       go_loopg [47] wd (fun gg i wr=>∃ (y:Nat),y<=wd/\gg=wd - y/\i = .int .i64 (y:Int)/\Hid (I (((o*R+c)*S+n)*wd+y) wr/\Stay b w wr/\Below b w wr/\Stay b H wr))
       case atStart=>exact ⟨0,by omega,by omega,by first|rfl|simp,ad⟩
       case round=>
        obtain ⟨y,hy,aQ,rfl,Hy⟩:=hrel;obtain ⟨R4,az⟩:∃ R4:World,R4=wr:=⟨_,rfl⟩
        subst az;by_cases ay:y < wd
        ·have aZ:(y:Int) < (wd:Int):=by omega
         have cK:=HK.out o c n y V aa af ay R4 Hy.1;obtain ⟨P1,al⟩:∃ P,c*L+n*st+y=P:=⟨_,rfl⟩
         obtain ⟨P2,an⟩:∃ P,(o*R+c)*wd+y=P:=⟨_,rfl⟩
         rw [al,an,HE.2.2] at cK;have aD:(AB:Int)+(y:Int)=(P1:Int):=by have:=HE.1;omega
         have aE:(KB:Int)+(y:Int)=(P2:Int):=by have:=HE.2.1;omega
         have bP:(P1:Int)<=40000/\(P2:Int)<=40000:=by omega
         clear al an;go_wp2_with fail
         refine cK.mono ?_;rintro e w4 ⟨rfl,hJ,ag,ak⟩;have Hz:Hid (I (((o*R+c)*S+n)*wd+(y+1)) w4/\Stay b w w4/\Below b w w4/\Stay b H w4):=⟨hJ,Hy.2.1.trans ag,Hy.2.2.1.trans ak,Hy.2.2.2.trans ag⟩
         clear hJ ag ak cK;go_wp2;go_roundg (wd - (y+1))
         case measure=>omega
         case rel=>exact ⟨y+1,by omega,rfl,by first|rfl|simp,Hz⟩
        ·obtain rfl:y=wd:=by omega
         have Hz:Hid (I (((o*R+c)*S+(n+1))*y) R4/\Stay b w R4/\Below b w R4/\Stay b H R4):=⟨by rw [<- Nat.add_assoc,Nat.add_mul _ 1,Nat.one_mul];exact Hy.1,Hy.2⟩
         go_wp2;go_roundg (S - (n+1))
         case measure=>omega
         case rel=>exact ⟨n+1,by omega,rfl,by first|rfl|simp,Hz⟩
      ·obtain rfl:n=S:=by omega
       have Hz:Hid (I ((o*R+(c+1))*n*wd) R3/\Stay b w R3/\Below b w R3/\Stay b H R3):=⟨by rw [<- Nat.add_assoc,Nat.add_mul _ 1,Nat.one_mul];exact Hn.1,Hn.2⟩
       go_wp2;go_roundg (R - (c+1))
       case measure=>omega
       case rel=>exact ⟨c+1,by omega,rfl,by first|rfl|simp,Hz⟩
    ·obtain rfl:c=R:=by omega
     have Hz:Hid (I ((o+1)*c*S*wd) R2/\Stay b w R2/\Below b w R2/\Stay b H R2):=⟨by rw [Nat.add_mul,Nat.one_mul];exact Hc.1,Hc.2⟩
     go_wp2;go_roundg (O - (o+1))
     case measure=>omega
     case rel=>exact ⟨o+1,by omega,rfl,by first|rfl|simp,Hz⟩
  ·obtain rfl:o=O:=by omega
   go_wp2
   go_end0
   exact ⟨rfl,Ho.1,Ho.2.1,Ho.2.2.1⟩
theorem t_K:∃ A,Tryz.prog.info? 218=some A/\A.zero=some (.agg #[.int .i64 0,.int .u64 0,.int .i64 0,.int .u64 0])/\A.size=4/\A.bytes=32:=by
 have h:(Tryz.prog.info? 218).map (fun i=>(i.zero,i.size,i.bytes))=some (some (.agg #[.int .i64 0,.int .u64 0,.int .i64 0,.int .u64 0]),4,32):=by kernel_rfl
 cases E:Tryz.prog.info? 218 with
 | none=>rw [E] at h;cases h
 | some i=>
  rw [E] at h;simp only [Option.map_some,Option.some.injEq,Prod.mk.injEq] at h;exact ⟨i,rfl,h.1,h.2.1,h.2.2⟩
/-- Sums that were just made: all 0. -/
theorem m_Z {W:World} {B g n:Nat} {e:TypeId} (h:W.ownsRow B e 4 (.slice (some ⟨g,0,none⟩) n n) n (madeCells (Value.agg #[.int .i64 0,.int .u64 0,.int .i64 0,.int .u64 0]).cells (n*4)).toList):∀ i,i < n->SumAt W g (i*4) 0 0:=by
 intro i hi
 have hf:∀ j,W.frozen? ⟨g,j,none⟩=false:=by
  intro j;rcases h.2 with ⟨H,_⟩|⟨q,aa,V,H,h2,h3,_⟩
  ·cases H
  ·cases H;unfold frozen?;simp [h3]
 have O:∀ r,r < 4->(madeCells (Value.agg #[.int .i64 0,.int .u64 0,.int .i64 0,.int .u64 0]).cells (n*4)).toList[i*4+r]?=(#[Value.int .i64 0,.int .u64 0,.int .i64 0,.int .u64 0]:Array Value)[r]?:=by
  intro r I;have M:(Value.agg #[.int .i64 0,.int .u64 0,.int .i64 0,.int .u64 0]).cells=#[Value.int .i64 0,.int .u64 0,.int .i64 0,.int .u64 0]:=rfl;unfold madeCells;rw [M,Array.getElem?_toList,Array.getElem?_map,Array.getElem?_range];rw [if_pos (by omega)];have A:(i*4+r) % 4=r:=by omega
  simp only [Option.map_some]
  match r,I with
  | 0,_=>rw [show (#[Value.int .i64 0,.int .u64 0,.int .i64 0,.int .u64 0]:Array Value).size=4 from rfl,A];rfl
  | 1,_=>rw [show (#[Value.int .i64 0,.int .u64 0,.int .i64 0,.int .u64 0]:Array Value).size=4 from rfl,A];rfl
  | 2,_=>rw [show (#[Value.int .i64 0,.int .u64 0,.int .i64 0,.int .u64 0]:Array Value).size=4 from rfl,A];rfl
  | 3,_=>rw [show (#[Value.int .i64 0,.int .u64 0,.int .i64 0,.int .u64 0]:Array Value).size=4 from rfl,A];rfl
 have E:∀ r u,r < 4->(#[Value.int .i64 0,.int .u64 0,.int .i64 0,.int .u64 0]:Array Value)[r]?=some u->W.cell? ⟨g,i*4+r,none⟩=some u:=by
  intro r u I hu;have:=ownsRow.cells h rfl (i*4+r) u (by rw [O r I];exact hu);rw [a_r,Nat.zero_add] at this;exact this
 have J:=E 0 _ (by omega) rfl;have R:=E 1 _ (by omega) rfl;have c2:=E 2 _ (by omega) rfl;have Z:=E 3 _ (by omega) rfl;have L:=b_W J;exact ⟨0,0,by omega,by omega,by omega,by omega,by omega,⟨L,J,R,hf _,hf _⟩,L,c2,Z,hf _,hf _⟩
theorem LieA.stay {W W':World} {g b o:Nat} {x:Int} (h:LieA W b o x) (A:Stay g W W') (E:b≠g):LieA W' b o x:=
 ⟨Nat.lt_of_lt_of_le h.1 A.size,A.cell h.2.1 E,A.cell h.2.2.1 E,by rw [A.frozen h.1 E];exact h.2.2.2.1,by rw [A.frozen h.1 E];exact h.2.2.2.2⟩
theorem SumAt.stay {W W':World} {g b o m:Nat} {T:Int} (h:SumAt W b o m T) (H:Stay g W W') (E:b≠g):SumAt W' b o m T:=by
 obtain ⟨A,B,e,I,M,L,R,O,J⟩:=h;exact ⟨A,B,e,I,M,L,R,O.stay H E,J.stay H E⟩
/-- The tensor of the sums. -/
def m_0 (d:List Int):Int:=if goodN (ntl d) then 0 else 2
def r_5 (d:List Int) (F:Nat->Int):List Int:=if goodN (ntl d) then (range (a_f (ntl d))).map fun i=>rnd (F i) else []
theorem f_p (K:FuncId) (aL:∀ args W,(callFunc K args).run Tryz.prog W = .ok (.enter K args) W) (u0 u1 u2:Value) (p:Option Addr) (n c:Nat) (d:List Int) (hd:RI d) (F:Nat->Int) (M:Nat) (hM:M<=1073741824) (w:World) (hT:Hid (Tz w)) (h1:Nums .i64 w (.slice p n c) d)
  (hK:goodN (ntl d)->∀ W b,Bw w W->w.heap.size<=b->b < W.heap.size->(∀ i,i < a_f (ntl d)->SumAt W b (i*4) 0 0)->Calls Tryz.prog K #[.slice (some ⟨b,0,none⟩) (a_f (ntl d)) (a_f (ntl d)),u0,u1,u2] W fun e w'=>e = .returned (.tuple #[])/\(∀ i,i < a_f (ntl d)->SumAt w' b (i*4) M (F i))/\Stay b W w'/\Below b W w'):
  Calls Tryz.prog 159 #[.slice p n c,.func (.func K) #[] #[u0,u1,u2]] w fun e w'=>∃ v',e = .returned (.tuple #[v',.int .i64 (m_0 d)])/\TRes w' w.heap.size v' (l_j d) (r_5 d F)/\Bw w w':=by
 have cN:=fun W (hW:Bw w W)=>p_b _ d hd 0 W (h1.up hW);haveI:Nonempty World:=⟨w⟩
 by_cases hg:goodN (ntl d)
 ·have R:t_o d=0/\l_j d=d/\t_p d 0=replicate (a_f (ntl d)) 0/\m_0 d=0/\r_5 d F=(range (a_f (ntl d))).map fun i=>rnd (F i):=⟨if_pos hg,if_pos hg,if_pos hg,if_pos hg,if_pos hg⟩
  rw [R.1,R.2.1,R.2.2.1] at cN;rw [R.2.1,R.2.2.2.1,R.2.2.2.2];have ao:=hK hg;have hN:1<=a_f (ntl d)/\a_f (ntl d)<=4096:=⟨hg.pos,hg.2.2⟩
  obtain ⟨N,eN⟩:∃ N,a_f (ntl d)=N:=⟨_,rfl⟩
  rw [eN] at cN ao hN ⊢;have aM:1<=(N:Int)/\(N:Int)<=4096:=by omega
  obtain ⟨V,eV⟩:∃ V,(range N).map (fun i=>rnd (F i))=V:=⟨_,rfl⟩
  rw [eV];have HV:Hid (V.length=N/\∀ i,i < N->V.getD i 0=rnd (F i)):=⟨by rw [<- eV];simp,fun i hi=>by rw [<- eV];exact a_J _ _ _ _ hi⟩
  have HK:Hid _:=ao;have aG:Hid _:=hM;clear R hK ao eN eV hg hd h1 hM;obtain ⟨i0,hi,ar,aC,ax⟩:=t_K;go_enter Tryz.func159,Tryz.ntmps159;go_wp2_with fail
  generalize J:alloc _ _=W0;have B0:Bw w W0:=by rw [<- J];exact a_a w _
  have XR:Hid (Cel W0 w.heap.size (.slice none 0 0) (.slice none 0 0)):=e_W J (by simp [go_sem]);have ac:Hid (Bw w W0/\w.heap.size < W0.heap.size):=⟨B0,a_b XR.1⟩
  clear J B0;refine (cN W0 ac.1).mono ?_;rintro e w1 ⟨v1,rfl,⟨s1,t1,rfl,ab,I⟩,O⟩;obtain ⟨p1,n1,L,rfl,_⟩:=ab.nums.lst;obtain ⟨A,cv,rfl,aD⟩:=I.at (by rw [length_replicate];omega)
  rw [length_replicate] at I ⊢;obtain ⟨cs,fz,aF⟩:=I.obj;have ak:Off A (.slice p1 n1 L):=ab.off_type aF (by decide);go_wp2_with (at_make;generalize an:alloc _ _=W2;refine wpList_make_full W2 rfl (.tmp 20) (.tmp 20) 215 rfl W2.heap.size 218 i0 _ 4 Tryz.underlying215 hi ar aC .i64 .i64 N N N rfl rfl rfl rfl (by rw [ax];omega) (by unfold maxLen;omega) (Nat.le_refl _) ?_;intro w3 aa af;have B3:Bw W2 w3:=Below.grown (Below.refl _ _) af (Nat.le_refl _) (fun j hj=>by cases hj);have H3:Hid (∀ i,i < N->SumAt w3 W2.heap.size (i*4) 0 0):=m_Z aa;clear aa af)
  have B2:Bw w1 W2:=by rw [<- an];exact a_a w1 _
  have XT:Hid (Cel W2 w1.heap.size (.slice p1 n1 L) (.slice (some ⟨A,0,none⟩) N cv)):=by show Cel _ _ _ _;unfold Cel;rw [<- an];simp [go_sem]
  have au:Hid (OwnK .i64 3 W2 W0.heap.size (.slice p1 n1 L) d/\OwnK .i64 48 W2 W0.heap.size (.slice (some ⟨A,0,none⟩) N cv) (b_l V 0)/\Off A (.slice p1 n1 L)/\W0.heap.size<=A):=⟨ab.up B2,by rw [a_W,HV.1];exact I.up B2,ak,aD⟩
  have aj:Hid (Bw w W2/\Bw W0 W2):=⟨a_c ac.1 (a_c O B2),a_c O B2⟩
  have Hg:Hid (w1.heap.size < W2.heap.size/\W0.heap.size<=w1.heap.size/\A < w1.heap.size/\w.heap.size < W0.heap.size):=⟨a_b XT.1,O.size,I.size,ac.2⟩
  obtain ⟨g6,e6⟩:∃ g,w1.heap.size=g:=⟨_,rfl⟩
  rw [e6] at XT Hg ⊢;clear an B2 ab I O ak aD aF cN e6;have ae:=a_c aj.1 B3;refine (HK.out w3 W2.heap.size ae aj.1.size (H3.out 0 (by omega)).lt H3.out).mono ?_;rintro e w4 ⟨rfl,ay,aB,H⟩;have az:=aj.1.size;have aI:Hid _:=ae.trans (H.mono az)
  have ad:Hid (OwnK .i64 3 w4 W0.heap.size (.slice p1 n1 L) d/\OwnK .i64 48 w4 W0.heap.size (.slice (some ⟨A,0,none⟩) N cv) (b_l V 0)/\Off A (.slice p1 n1 L)/\W0.heap.size<=A):=by
   have q:=au.out;have g:=Hg.out;have hb:=H;have av:Bw W2 w4:=B3.trans hb;exact ⟨q.1.up av,q.2.1.up av,q.2.2⟩
  have aE:Hid (Cel w4 g6 (.slice p1 n1 L) (.slice (some ⟨A,0,none⟩) N cv)):=XT.out.up (B3.trans H);have aH:Hid (Cel w4 w.heap.size (.slice none 0 0) (.slice none 0 0)):=(XR.out.up aj.2).up (B3.trans H);have ap:Hid (∀ i,i < N->SumAt w4 W2.heap.size (i*4) M (F i)):=ay;have aA:Hid (A < W2.heap.size/\g6 < W2.heap.size):=⟨by have:=Hg.out;omega,Hg.1⟩
  obtain ⟨gs,aq⟩:∃ g,W2.heap.size=g:=⟨_,rfl⟩
  rw [aq] at ap aA ⊢;clear ay aB H ae az H3 B3 XT XR au aq hi ar aC ax i0;go_wp2_with fail
  go_loopg [27] N (fun gg i wr=>∃ (k:Nat),k<=N/\gg=N - k/\i = .int .i64 (k:Int)/\Hid (OwnK .i64 48 wr W0.heap.size (.slice (some ⟨A,0,none⟩) N cv) (b_l V k))/\Hid (Bw w wr/\Stay A w4 wr))
  case atStart=>exact ⟨0,by omega,by omega,by first|rfl|simp,ad.2.1,aI,Stay.refl _ _⟩
  case round=>
   obtain ⟨k,hk,aQ,rfl,HO,E⟩:=hrel;obtain ⟨R1,aJ⟩:∃ R1:World,R1=wr:=⟨_,rfl⟩
   subst aJ;by_cases ah:k < N
   ·have aN:(k:Int) < (N:Int):=by omega
    have ag:Hid (SumAt R1 gs (k*4) M (F k)):=(ap.out k ah).stay E.2 (by have:=aA.out;omega);obtain ⟨Z,eZ⟩:∃ Z,V.getD k 0=Z:=⟨_,rfl⟩
    have HZ:Hid (V.getD k 0=Z):=eZ
    have cz:∀ W,Bw R1 W->Calls Tryz.prog 181 #[.pointer (some ⟨gs,k*4,none⟩)] W fun e w'=>e = .returned (.int .i64 Z)/\Bw W w':=fun W hW=>by
     rw [<- eZ,HV.2 k ah];exact o_0 gs (k*4) M (F k) aG.out W (Hid.up_tz hT (a_c E.1 hW)) (ag.out.up hW)
    obtain ⟨t0,t1,_,_⟩:=aE.out.stay E.2 (by have:=Hg.out;omega);have t9:=a_b t0;have s9:=ag.out.lt;clear eZ;go_wp2_with fail
    apply e_K 8 40 (by kernel_rfl) rfl rfl (by kernel_rfl)
    ·intro F hF hFc hFf;simp only [take_succ_cons,take_zero]
     repeat (go_big_quiet_step (first|(go_at_call 181;with_reducible exact hF.call (cz _ (hF.below _)))))
     refine wpQuiet_nil ?_;exact rfl
    ·intro W5 ai;simp only [drop_succ_cons,drop_zero];have am:=HO.out.up ai;obtain ⟨aa,aO⟩:=am.cell (by rw [a_y];exact HV.1) k ah;have aP:=a_b aa
     have H5:Hid (OwnK .i64 48 (W5.setCell ⟨A,k,none⟩ (.int .i64 Z)) W0.heap.size (.slice (some ⟨A,0,none⟩) N cv) (b_l V (k+1))):=by
      have:=am.store (by rw [a_y];exact HV.1) k Z;rw [<- HZ.out,a_9 V k (by rw [HV.1];exact ah)] at this;rw [<- HZ.out];exact this
     have aw:w.heap.size<=A:=by have:=Hg.out;have:=ad.2.2.2;omega
     have H6:Hid (Bw w (W5.setCell ⟨A,k,none⟩ (.int .i64 Z))/\Stay A w4 (W5.setCell ⟨A,k,none⟩ (.int .i64 Z))):=⟨(a_c E.1 ai).setCell (p:=⟨A,k,none⟩) aw _,(E.2.up ai).set _ _⟩
     clear ai am cz t0 t1 t9 s9 ag HO E aw;go_wp2;go_roundg (N - (k+1))
     case measure=>omega
     case rel=>exact ⟨k+1,by omega,rfl,by first|rfl|simp,H5,H6⟩
   ·obtain rfl:k=N:=by omega
    have al:=HO.out;rw [<- HV.1,a_0,HV.1] at al;have xR:=aH.out.stay E.2 (by have:=Hg.out;have:=ad.2.2.2;omega);have xT:=aE.out.stay E.2 (by have:=Hg.out;omega);have o1:=ad.1.stay E.2 ad.2.2.1
    have HF:Hid (TRes (set2 R1 w.heap.size (.slice p1 n1 L) (.slice (some ⟨A,0,none⟩) k cv)) w.heap.size (.agg #[.slice p1 n1 L,.slice (some ⟨A,0,none⟩) k cv]) d V/\Bw w (set2 R1 w.heap.size (.slice p1 n1 L) (.slice (some ⟨A,0,none⟩) k cv))):=
     ⟨(TRes.set o1 al (by have:=Hg.out;omega)).low (by have:=Hg.out;omega),a_q E.1 _ (Nat.le_refl _) _ _⟩
    have cf:=xR.set (.slice p1 n1 L) (.slice (some ⟨A,0,none⟩) k cv);obtain ⟨t0,t1,_,_⟩:=xT;obtain ⟨r0,r1,r2,r3⟩:=xR;obtain ⟨y0,y1,_,_⟩:=cf;have t9:=a_b t0;have r9:=a_b r0;go_wp2;exact bodyPost_ret (v:=.tuple #[.agg #[.slice p1 n1 L,.slice (some ⟨A,0,none⟩) k cv],.int .i64 0]) (by simp [results,Tryz.results159,go_sem,y0,y1]) rfl ⟨_,rfl,HF.out⟩
 ·have R:t_o d=1/\l_j d = []/\t_p d 0 = []/\m_0 d=2/\r_5 d F = []:=⟨if_neg hg,if_neg hg,if_neg hg,if_neg hg,if_neg hg⟩
  rw [R.1,R.2.1,R.2.2.1] at cN;rw [R.2.1,R.2.2.2.1,R.2.2.2.2];clear R hK hg hd h1 hM;go_enter Tryz.func159,Tryz.ntmps159;go_wp2_with fail
  generalize J:alloc _ _=W0;have B0:Bw w W0:=by rw [<- J];exact a_a w _
  have XR:Hid (Cel W0 w.heap.size (.slice none 0 0) (.slice none 0 0)):=e_W J (by simp [go_sem]);have ac:Hid _:=B0;clear J B0;refine (cN W0 ac).mono ?_;rintro e w1 ⟨v1,rfl,⟨s1,t1,rfl,ab,I⟩,O⟩;obtain ⟨p1,n1,L,rfl,_⟩:=ab.nums.lst;obtain ⟨p2,n2,c2,rfl,_⟩:=I.nums.lst;have xr:Cel (w1.alloc (.cells #[.slice p1 n1 L,.slice p2 n2 c2] 50)) w.heap.size (.slice none 0 0) (.slice none 0 0):=(XR.out.up O).up (a_a w1 _);have BF:=a_q (a_c (a_c ac O) (a_a w1 (.cells #[.slice p1 n1 L,.slice p2 n2 c2] 50))) w.heap.size (Nat.le_refl _) (.slice none 0 0) (.slice none 0 0);have cf:=xr.set (.slice none 0 0) (.slice none 0 0);obtain ⟨r0,r1,r2,r3⟩:=xr;obtain ⟨y0,y1,_,_⟩:=cf;go_wp2;exact brn 2 (by simp [results,Tryz.results159,go_sem,y0,y1]) ⟨_,rfl,TRes.none _ _,BF⟩
/-- What such a function value reads: the sums' slice in gb, two tensors' numbers by way of ga and gk; the sums lie in b. -/
def Mt (W:World) (b gb ga gk N:Nat) (pa:Option Addr) (na ca:Nat) (pk:Option Addr) (nk ck:Nat) (x y:List Int):Prop:=
 W.cell? ⟨gb,0,none⟩=some (.slice (some ⟨b,0,none⟩) N N)/\W.cell? ⟨ga,1,none⟩=some (.slice pa na ca)/\W.cell? ⟨gk,1,none⟩=some (.slice pk nk ck)/\Nums .i64 W (.slice pa na ca) x/\Nums .i64 W (.slice pk nk ck) y/\(gb≠b/\ga≠b/\gk≠b)/\Off b (.slice pa na ca)/\Off b (.slice pk nk ck)
theorem Mt.up {W W':World} {b I E gk N:Nat} {J:Option Addr} {O L:Nat} {pk:Option Addr} {H M:Nat} {x y:List Int} (h:Mt W b I E gk N J O L pk H M x y) (A:Bw W W'):Mt W' b I E gk N J O L pk H M x y:=
 ⟨a_d h.1 A,a_d h.2.1 A,a_d h.2.2.1 A,h.2.2.2.1.up A,h.2.2.2.2.1.up A,h.2.2.2.2.2⟩
theorem Mt.stay {W W':World} {b I E gk N:Nat} {J:Option Addr} {O L:Nat} {pk:Option Addr} {H M:Nat} {x y:List Int} (h:Mt W b I E gk N J O L pk H M x y) (A:Stay b W W'):Mt W' b I E gk N J O L pk H M x y:=
 ⟨A.cell h.1 h.2.2.2.2.2.1.1,A.cell h.2.1 h.2.2.2.2.2.1.2.1,A.cell h.2.2.1 h.2.2.2.2.2.1.2.2,h.2.2.2.1.stay A h.2.2.2.2.2.2.1,h.2.2.2.2.1.stay A h.2.2.2.2.2.2.2,h.2.2.2.2.2⟩
/-- Sums that have met q. -/
def Sms (W:World) (b N q:Nat) (f:Nat->Int):Prop:=∀ i,i < N->SumAt W b (i*4) q (f i)
theorem Sms.up {W W':World} {b N q:Nat} {f:Nat->Int} (h:Sms W b N q f) (E:Bw W W'):Sms W' b N q f:=fun i A=>(h i A).up E
theorem Sms.add {W W':World} {b N q j:Nat} {f E:Nat->Int} {Z:Int} (h:Sms W b N q f) (I:Near b (j*4) W W') (H:SumAt W' b (j*4) (q+1) (f j+Z)) (hf:∀ i,i < N->E i=if j=i then f i+Z else f i):Sms W' b N (q+1) E:=fun i A=>by
 rw [hf i A];by_cases e:j=i
 ·subst e;rw [if_pos rfl];exact H
 ·rw [if_neg e];exact ((h i A).near I (by omega)).more (by omega)
theorem m_1 (b gb ga gk N m E H A:Nat) (T:Int) (pa:Option Addr) (na ca:Nat) (pk:Option Addr) (nk ck:Nat) (x y:List Int) (hx:RI x) (hy:RI y) (hm:m<=1073741824) (hN:N<=4096) (hs:A < N) (ha:E < x.length) (hk:H < y.length) (aa:x.length<=4096) (ab:y.length<=4096) (w:World) (hM:Mt w b gb ga gk N pa na ca pk nk ck x y) (hS:Hid (SumAt w b (A*4) m T)):
  Calls Tryz.prog 163 #[.int .i64 (E:Int),.int .i64 (H:Int),.int .i64 (A:Int),.pointer (some ⟨gb,0,none⟩),.pointer (some ⟨ga,0,none⟩),.pointer (some ⟨gk,0,none⟩)] w fun e M=>e = .returned (.tuple #[])/\SumAt M b (A*4) (m+1) (T+x.getD E 0*y.getD H 0)/\Near b (A*4) w M:=by
 obtain ⟨c0,c1,c2,L,R,_,_,_⟩:=hM;obtain ⟨_,_,_,e4,HX⟩:=L.lst;cases e4;obtain ⟨_,_,_,e4,V⟩:=R.lst;cases e4;have lx:=HX.1;have ly:=V.1;obtain ⟨q1,o1,rfl,d1⟩:=HX.2 E (by omega);obtain ⟨q2,o2,rfl,d2⟩:=V.2 H (by omega);have rX:=b_y hx E;have Z:=b_y hy H;obtain ⟨X,eX⟩:∃ X,x.getD E 0=X:=⟨_,rfl⟩
 obtain ⟨Y,eY⟩:∃ Y,y.getD H 0=Y:=⟨_,rfl⟩
 rw [eX] at rX d1 ⊢;rw [eY] at Z d2 ⊢;have cA:Hid (∀ W,Bw w W->Calls Tryz.prog 164 #[.pointer (some ⟨b,A*4,none⟩),.int .i64 X,.int .i64 Y] W fun e M=>e = .returned (.tuple #[])/\SumAt M b (A*4) (m+1) (T+X*Y)/\Near b (A*4) W M):=fun W hW=>o_Z b (A*4) m T X Y hm rX Z W (hS.out.up hW);have ae:(A:Int) < (N:Int)/\(N:Int)<=4096:=by omega
 have ad:(E:Int) < (na:Int)/\(na:Int)<=4096:=by omega
 have ac:(H:Int) < (nk:Int)/\(nk:Int)<=4096:=by omega
 have l0:=a_b c0;have l1:=a_b c1;have l2:=a_b c2;have l3:=a_b d1;have l4:=a_b d2;have l5:Hid _:=hS.out.lt;clear L R HX V lx ly rX Z eX eY hx hy hs ha hk aa ab hm hN hS;haveI:Nonempty World:=⟨w⟩
 go_enter Tryz.func163,Tryz.ntmps163;go_wp2_with fail
 apply e_K 13 23 (by kernel_rfl) rfl rfl (by kernel_rfl)
 ·intro F hF hFc hFf;simp only [take_succ_cons,take_zero]
  repeat (go_big_quiet_step (fail))
  refine wpQuiet_nil ?_;exact rfl
 ·intro W1 I;simp only [drop_succ_cons,drop_zero];clear c0 c1 c2 d1 d2 l0 l1 l2 l3 l4;go_wp2_with fail
  refine (cA.out W1 I).mono ?_;rintro e w2 ⟨rfl,O,J⟩;have HE:Hid (SumAt w2 b (A*4) (m+1) (T+X*Y)/\Near b (A*4) w w2):=⟨O,(Near.of I l5.out).trans J⟩
  clear O J I cA;go_wp2
  go_end0
  exact ⟨rfl,HE.out⟩
theorem j_k (R L O wd st S:Nat) (hS:b_B L wd st=S) (h1:wd<=L) (h2:L<=4096) (h3:1<=st) (h4:st<=64) (h5:O*R*wd<=4096) (h6:O*S<=4096) (h7:R*L<=4096) (h8:O<=4096) (h9:R<=4096) (b gs M gk:Nat) (pa:Option Addr) (na ca:Nat) (pk:Option Addr) (nk Z:Nat) (x y:List Int) (hx:RI x) (hy:RI y) (ab:x.length=R*L) (ac:y.length=O*R*wd) (w:World)
  (hs:SlC w gs R L O wd st) (al:w.cell? ⟨M,1,none⟩=some (.slice pa na ca)) (ah:w.cell? ⟨gk,1,none⟩=some (.slice pk nk Z)) (nx:Nums .i64 w (.slice pa na ca) x) (ny:Nums .i64 w (.slice pk nk Z) y) (aj:M≠b/\gk≠b) (fx:Off b (.slice pa na ca)) (fy:Off b (.slice pk nk Z)) (hb:b < w.heap.size) (h0:Sms w b (O*S) 0 (fun _=>0)):
  Calls Tryz.prog 161 #[.slice (some ⟨b,0,none⟩) (O*S) (O*S),.pointer (some ⟨gs,0,none⟩),.pointer (some ⟨M,0,none⟩),.pointer (some ⟨gk,0,none⟩)] w fun e E=>e = .returned (.tuple #[])/\Sms E b (O*S) (O*R*S*wd) (fun i=>g_g (o_f L R S wd st x y i) R S wd (O*R*S*wd))/\Stay b w E/\Below b w E:=by
 have af:O*R*S*wd<=1073741824:=by
  have q1:S<=4097:=by rw [<- hS];unfold b_B;have:=div_le_self (L - wd) st;omega
  have q2:O*R*S*wd=O*R*wd*S:=by rw [Nat.mul_assoc,Nat.mul_comm S wd,<- Nat.mul_assoc]
  rw [q2];exact Nat.le_trans (Nat.mul_le_mul h5 q1) (by decide)
 have ak:∀ n,n < S->n*st+wd<=L:=fun n hn=>by
  unfold b_B at hS;have:n<=(L - wd) / st:=by omega
  have:=(le_div_iff_mul_le (by omega)).1 this;omega
 have av:∀ (fn:Fn) (first ai:Array Value) (w:World),(Instr.makeFunc fn first ai).run Tryz.prog w = .ok (.func fn first ai) w:=fun _ _ _ _=>rfl;obtain ⟨z0,z1,z2,z3,z4⟩:=hs;have zl:=a_b z0
 have HE:Hid (∀ J I,I=w.alloc (.cells #[.slice (some ⟨b,0,none⟩) (O*S) (O*S)] 215)->J=w.heap.size->Calls Tryz.prog 162 #[.agg #[.int .i64 (R:Int),.int .i64 (L:Int),.int .i64 (O:Int),.int .i64 (wd:Int),.int .i64 (st:Int)],.func (.func 163) #[] #[.pointer (some ⟨J,0,none⟩),.pointer (some ⟨M,0,none⟩),.pointer (some ⟨gk,0,none⟩)]] I fun e E=>e = .returned (.tuple #[])/\(Sms E b (O*S) (O*R*S*wd) (fun i=>g_g (o_f L R S wd st x y i) R S wd (O*R*S*wd))/\Mt E b J M gk (O*S) pa na ca pk nk Z x y)/\Stay b I E/\Below b I E):=fun J I eW am=>by
  have A:Bw w I:=by rw [eW];exact a_a w _
  have ap:I.cell? ⟨J,0,none⟩=some (.slice (some ⟨b,0,none⟩) (O*S) (O*S)):=by rw [eW,am];simp [go_sem]
  refine m_Y _ (fun args W=>by simp [go_sem]) _ _ _ b R L O wd st S hS h1 h2 h3 h4 h5 h6 h7 h8 h9 (fun q W=>Sms W b (O*S) q (fun i=>g_g (o_f L R S wd st x y i) R S wd q)/\Mt W b J M gk (O*S) pa na ca pk nk Z x y) (fun q W W' h A=>⟨h.1.up A,h.2.up A⟩) ?_ I (Nat.lt_of_lt_of_le hb A.size) ⟨h0.up A,ap,a_d al A,a_d ah A,nx.up A,ny.up A,⟨by omega,aj⟩,fx,fy⟩;intro o c n y' ho hc hn V W hI
  have ao:c*L+n*st+y' < R*L:=by
   have q1:=ak n hn;have q2:(c+1)*L<=R*L:=mul_le_mul_right L hc;rw [Nat.add_mul,Nat.one_mul] at q2;omega
  have aq:=b_D (b_D ho hc) V;have ag:=b_D ho hn
  have hq:((o*R+c)*S+n)*wd+y'<=1073741824:=by
   have:=b_D (b_D (b_D ho hc) hn) V;omega
  refine (m_1 b J M gk (O*S) (((o*R+c)*S+n)*wd+y') _ _ _ _ pa na ca pk nk Z x y hx hy hq (by omega) ag (by rw [ab];exact ao) (by rw [ac];exact aq) (by omega) (by omega) W hI.2 (hI.1 _ ag)).mono ?_;rintro e E ⟨e1,ar,H⟩;refine ⟨e1,⟨hI.1.add H ar ?_,hI.2.stay H.stay⟩,H.stay,H.below⟩;intro i hi;show g_g _ R S wd _=_;rw [l_k _ hc hn V];unfold o_f;by_cases e:o*S+n=i
  ·rw [if_pos e,if_pos e]
  ·rw [if_neg e,if_neg e,Int.add_zero]
 have au:Hid _:=hb;clear h0 al ah nx ny fx fy hx hy ab ac af ak hS h5 h6 h7 hb aj;haveI:Nonempty World:=⟨w⟩
 obtain ⟨NN,an⟩:∃ n,O*S=n:=⟨_,rfl⟩
 rw [an] at HE ⊢;go_enter Tryz.func161,Tryz.ntmps161;go_wp2_with fail
 refine (HE.out _ _ rfl rfl).mono ?_;rintro e w1 ⟨rfl,⟨ae,_⟩,aa,ad⟩;have hU:=a_a w (.cells #[.slice (some ⟨b,0,none⟩) NN NN] 215);have HF:Hid (Sms w1 b NN (O*R*S*wd) (fun i=>g_g (o_f L R S wd st x y i) R S wd (O*R*S*wd))/\Stay b w w1/\Below b w w1):=⟨ae,(Stay.of hU).trans aa,(hU.mono (Nat.le_of_lt au.out)).trans ad⟩
 clear ae aa ad hU;go_wp2
 go_end0
 exact ⟨rfl,HF.out⟩
theorem five (W:World) (b:Nat) (J H A E I:Value) {y0 y1 L Z O:Value} (h0:W.cell? ⟨b,0,none⟩=some y0) (M:W.cell? ⟨b,1,none⟩=some y1) (V:W.cell? ⟨b,2,none⟩=some L) (R:W.cell? ⟨b,3,none⟩=some Z) (h4:W.cell? ⟨b,4,none⟩=some O):
  (((((W.setCell ⟨b,0,none⟩ J).setCell ⟨b,1,none⟩ H).setCell ⟨b,2,none⟩ A).setCell ⟨b,3,none⟩ E).setCell ⟨b,4,none⟩ I).cell? ⟨b,0,none⟩=some J/\(((((W.setCell ⟨b,0,none⟩ J).setCell ⟨b,1,none⟩ H).setCell ⟨b,2,none⟩ A).setCell ⟨b,3,none⟩ E).setCell ⟨b,4,none⟩ I).cell? ⟨b,1,none⟩=some H/\(((((W.setCell ⟨b,0,none⟩ J).setCell ⟨b,1,none⟩ H).setCell ⟨b,2,none⟩ A).setCell ⟨b,3,none⟩ E).setCell ⟨b,4,none⟩ I).cell? ⟨b,2,none⟩=some A/\(((((W.setCell ⟨b,0,none⟩ J).setCell ⟨b,1,none⟩ H).setCell ⟨b,2,none⟩ A).setCell ⟨b,3,none⟩ E).setCell ⟨b,4,none⟩ I).cell? ⟨b,3,none⟩=some E/\(((((W.setCell ⟨b,0,none⟩ J).setCell ⟨b,1,none⟩ H).setCell ⟨b,2,none⟩ A).setCell ⟨b,3,none⟩ E).setCell ⟨b,4,none⟩ I).cell? ⟨b,4,none⟩=some I:=by
 refine ⟨?_,?_,?_,?_,?_⟩
 ·rw [a_D (by omega),a_D (by omega),a_D (by omega),a_D (by omega)];exact b_V h0
 ·rw [a_D (by omega),a_D (by omega),a_D (by omega)];exact b_V (by rw [a_D (by omega)];exact M)
 ·rw [a_D (by omega),a_D (by omega)];exact b_V (by rw [a_D (by omega),a_D (by omega)];exact V)
 ·rw [a_D (by omega)];exact b_V (by rw [a_D (by omega),a_D (by omega),a_D (by omega)];exact R)
 ·exact b_V (by rw [a_D (by omega),a_D (by omega),a_D (by omega),a_D (by omega)];exact h4)
theorem m_2 {d:List Int} {F G:Nat->Int} {N:Nat} (H:a_f (ntl d)=N) (h:∀ i,i < N->rnd (F i)=G i):r_5 d F=if goodN (ntl d) then (range N).map G else []:=by
 unfold r_5;by_cases A:goodN (ntl d)
 ·rw [if_pos A,if_pos A,H];refine map_congr_left fun i E=>h i ?_;simpa using E
 ·rw [if_neg A,if_neg A]
theorem k_i {L wd st:Nat} (h:1<=wd) (A:wd<=L):b_B L wd st<=L:=by
 unfold b_B;have:=div_le_self (L - wd) st;omega
theorem l_l {L wd st n:Nat} (H:wd<=L) (E:1<=st) (A:n < b_B L wd st):n*st+wd<=L:=by
 unfold b_B at A;have:n<=(L - wd) / st:=by omega
 have:=(le_div_iff_mul_le (by omega)).1 this;omega
theorem p_7 {x:List Int} {n:Nat} (h:x.length=n) (A:1<=n):x≠[]:=by
 intro e;rw [e] at h;simp at h;omega
theorem p_i (R L O wd st S:Nat) (hS:b_B L wd st=S) (h0:1<=wd) (h1:wd<=L) (h2:L<=4096) (h3:1<=st) (h4:st<=64) (hR:1<=R) (hO:1<=O) (h5:O*R*wd<=4096) (h7:R*L<=4096) (h8:O<=4096) (h9:R<=4096) (E M gk:Nat) (pa:Option Addr) (na ca:Nat) (pk:Option Addr) (nk ck:Nat) (x y:List Int) (hx:RI x) (hy:RI y) (I:x.length=R*L) (J:y.length=O*R*wd) (p:Option Addr) (n c:Nat) (w:World) (hT:Hid (Tz w)) (hd:Nums .i64 w (.slice p n c) [(O:Int),(S:Int)])
  (hs:SlC w E R L O wd st) (Z:w.cell? ⟨M,1,none⟩=some (.slice pa na ca)) (V:w.cell? ⟨gk,1,none⟩=some (.slice pk nk ck)) (nx:Nums .i64 w (.slice pa na ca) x) (ny:Nums .i64 w (.slice pk nk ck) y):
  Calls Tryz.prog 159 #[.slice p n c,.func (.func 161) #[] #[.pointer (some ⟨E,0,none⟩),.pointer (some ⟨M,0,none⟩),.pointer (some ⟨gk,0,none⟩)]] w fun e w'=>∃ v',e = .returned (.tuple #[v',.int .i64 (m_0 [(O:Int),(S:Int)])])/\TRes w' w.heap.size v' (l_j [(O:Int),(S:Int)]) (if goodN (ntl [(O:Int),(S:Int)]) then g_e R L wd O S st x y else [])/\Bw w w':=by
 have A:S<=4096:=by rw [<- hS];exact Nat.le_trans (k_i h0 h1) h2
 by_cases hg:goodN (ntl [(O:Int),(S:Int)])
 ·have hG:=t_j.1 hg;have h5:O*R*wd<=4096:=h5;have h6:O*S<=4096:=hG.2.2;have h7:R*L<=4096:=h7
  have hM:O*R*S*wd<=1073741824:=by
   have q2:O*R*S*wd=O*R*wd*S:=by rw [Nat.mul_assoc,Nat.mul_comm S wd,<- Nat.mul_assoc]
   rw [q2];exact Nat.le_trans (Nat.mul_le_mul h5 A) (by decide)
  have:=f_p 161 (fun args W=>by simp [go_sem]) (.pointer (some ⟨E,0,none⟩)) (.pointer (some ⟨M,0,none⟩)) (.pointer (some ⟨gk,0,none⟩)) p n c [(O:Int),(S:Int)] (g_N h8 A) (fun i=>g_g (o_f L R S wd st x y i) R S wd (O*R*S*wd)) (O*R*S*wd) hM w hT hd (by
   intro _ W b H hb aa hz;rw [c_9] at hz ⊢;have la:=a_b Z;have lk:=a_b V;exact j_k R L O wd st S hS h1 h2 h3 h4 h5 h6 h7 h8 h9 b E M gk pa na ca pk nk ck x y hx hy I J W (hs.up H) (a_d Z H) (a_d V H) (nx.up H) (ny.up H) ⟨by omega,by omega⟩ (nx.off (p_7 I (Nat.mul_le_mul hR (show 1<=L by omega))) hb) (ny.off (p_7 J (Nat.mul_le_mul (Nat.mul_le_mul hO hR) h0)) hb) aa hz)
  rw [m_2 (G:=j_j R L wd S st x y) (c_9 _ _) (fun i hi=>m_X x y hi)] at this;exact this
 ·have:=f_p 161 (fun args W=>by simp [go_sem]) (.pointer (some ⟨E,0,none⟩)) (.pointer (some ⟨M,0,none⟩)) (.pointer (some ⟨gk,0,none⟩)) p n c [(O:Int),(S:Int)] (g_N h8 A) (fun i=>0) 0 (by omega) w hT hd (fun h=>absurd h hg);rw [show r_5 [(O:Int),(S:Int)] (fun i=>0) = [] from if_neg hg] at this;rw [if_neg hg];exact this
/-- Row: what the document says. -/
abbrev rwA (d x d' y:List Int) (st:Int):Prop:=isP d x/\isP d' y/\1<=st/\st<=64
abbrev rwS (d d':List Int):Prop:=d.length=2/\d'.length=3/\d.getD 0 0=d'.getD 1 0/\d'.getD 2 0<=d.getD 1 0
def rwO (d d':List Int) (st:Int):List Int:=[d'.getD 0 0,((b_B (d.getD 1 0).toNat (d'.getD 2 0).toNat st.toNat:Nat):Int)]
def rwE (d x d' y:List Int) (st:Int):Int:=if rwA d x d' y st then if rwS d d' then m_0 (rwO d d' st) else 4 else 1
def rwD (d x d' y:List Int) (st:Int):List Int:=if rwA d x d' y st/\rwS d d' then l_j (rwO d d' st) else []
def rwV (d x d' y:List Int) (st:Int):List Int:=if rwA d x d' y st/\rwS d d' then if goodN (ntl (rwO d d' st)) then g_e (d.getD 0 0).toNat (d.getD 1 0).toNat (d'.getD 2 0).toNat (d'.getD 0 0).toNat (b_B (d.getD 1 0).toNat (d'.getD 2 0).toNat st.toNat) st.toNat x y else [] else []
theorem m_3 {d x d' y:List Int} {st:Int} (h:¬ rwA d x d' y st):rwE d x d' y st=1/\rwD d x d' y st = []/\rwV d x d' y st = []:=⟨if_neg h,if_neg fun c=>h c.1,if_neg fun c=>h c.1⟩
theorem f_C {d x d' y:List Int} {st:Int} (A:rwA d x d' y st) (h:¬ rwS d d'):rwE d x d' y st=4/\rwD d x d' y st = []/\rwV d x d' y st = []:=⟨by unfold rwE;rw [if_pos A,if_neg h],if_neg fun c=>h c.2,if_neg fun c=>h c.2⟩
theorem m_4 {x y:List Int} {R L O wd st S:Nat} (E:rwA [(R:Int),(L:Int)] x [(O:Int),(R:Int),(wd:Int)] y st) (h:wd<=L) (H:b_B L wd st=S):rwE [(R:Int),(L:Int)] x [(O:Int),(R:Int),(wd:Int)] y st=m_0 [(O:Int),(S:Int)]/\rwD [(R:Int),(L:Int)] x [(O:Int),(R:Int),(wd:Int)] y st=l_j [(O:Int),(S:Int)]/\rwV [(R:Int),(L:Int)] x [(O:Int),(R:Int),(wd:Int)] y st=if goodN (ntl [(O:Int),(S:Int)]) then g_e R L wd O S st x y else []:=by
 have A:rwS [(R:Int),(L:Int)] [(O:Int),(R:Int),(wd:Int)]:=⟨rfl,rfl,rfl,by simpa using h⟩
 subst H;refine ⟨?_,?_,?_⟩
 ·unfold rwE;rw [if_pos E,if_pos A];rfl
 ·unfold rwD;rw [if_pos ⟨E,A⟩];rfl
 ·unfold rwV;rw [if_pos ⟨E,A⟩];rfl
end Go.Proofs.YtkfpainpomobfaaGreatDoor.Wd
