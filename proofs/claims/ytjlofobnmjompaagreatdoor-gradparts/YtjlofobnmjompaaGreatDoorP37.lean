/- The Ops of a net's plan; how many number -/
import Derived.Test.YtjlofobnmjompaaGreatDoorP36
set_option linter.unusedVariables false
set_option linter.unusedSimpArgs false
set_option maxHeartbeats 16000000
set_option maxRecDepth 16000
namespace Go.Proofs.YtjlofobnmjompaaGreatDoor.Wd
open Go.RowKit Fx
theorem s_s {d:List Int} {ls:List Ly} (h:nE d ls=0):nP d ls=b_5 ls (nS d ls) ls.length:=by
 unfold nP nS;rw [if_pos h,if_pos h]
theorem q_3 {d:List Int} {ls:List Ly} {k cl:Int} {P X y:List Int} (h:nE d ls=0) (D:(gof d ls k P X y cl).1=0):P.length=(nP d ls).toNat:=by
 unfold gof at D;by_cases H:1<=k/\k<=3
 ·rw [if_pos H] at D;unfold gfR at D;by_cases E:(rnF d ls [] P X).1=0
  ·unfold rnF at E;rw [if_pos h] at E;by_cases I:(P.length:Int)=b_5 ls (nS d ls) ls.length/\(X.length:Int)=a_t d
   ·rw [s_s h];omega
   ·rw [if_neg I] at E;cases E
  ·rw [if_neg E] at D;exact absurd D E
 ·rw [if_neg H] at D;cases D
theorem q_4 {d:List Int} {ls:List Ly} {P:List Int} (h:PlC d ls P) (L:RI P) {k cl:Int} {X y:List Int} (I:RI X) (H:RI y):GfO P.length (gof d ls k P X y cl):=t_i (s_f L I fun E st J D=>(h E X st J D).2) H
theorem t_n {P X:List Int}:∀ st,st∈(plF [1] liL (nS [1] liL) P X liL.length).1->st.op=1∨st.op=4∨st.op=8∨st.op=2:=by
 intro st h;rcases List.mem_append.1 (show st∈(plF [1] liL (nS [1] liL) P X 0).1++f_P (lyA liL 0) (shA (nS [1] liL) 0) (plF [1] liL (nS [1] liL) P X 0).1.length (plF [1] liL (nS [1] liL) P X 0).2.1 (plF [1] liL (nS [1] liL) P X 0).2.2.1 (plF [1] liL (nS [1] liL) P X 0).2.2.2 from h) with h|h
 ·simp [plF] at h;subst h;exact .inl rfl
 ·unfold f_P at h;rcases List.mem_append.1 h with h|h
  ·exact .inl (k_e _ _ _ st h)
  ·rw [if_pos (by decide +kernel)] at h;unfold n_v at h
   split at h
   ·simp only [List.mem_cons,List.not_mem_nil,or_false] at h
    rename_i he
    exact absurd he (by decide +kernel)
   ·simp only [List.mem_cons,List.not_mem_nil,or_false] at h;rcases h with h|h|h <;> subst h <;> simp [spD]
theorem o_W (P:List Int):PlC [1] liL P:=fun _ X st E D=>by
 rcases t_n st E with h|h|h|h
 ·exact absurd h D
 ·rw [h];exact ⟨RkC.of (by decide) ck4,fun _=>ga4,fun _=>gb4⟩
 ·rw [h];exact ⟨RkC.of (by decide) ck8,fun _=>ga8,fun h=>absurd h (by decide)⟩
 ·rw [h];exact ⟨RkC.of (by decide) ck2,fun _=>ga2,fun _=>gb2⟩
theorem n_i {W:World} {B g n:Nat} {e:TypeId} {E:List Value} (h:W.ownsRow B e 2 (.slice (some ⟨g,0,none⟩) n n) n E):g < W.heap.size:=by
 rcases h.2 with ⟨D,_⟩|⟨q,cap,I,D,J,H,_⟩
 ·cases D
 ·cases D;exact a_i H
theorem e_3 (W:World) (e:TypeId):LieA (W.alloc (.cells #[.int .i64 0,.int .u64 0] e)) W.heap.size 0 0:=by
 refine ⟨by unfold World.alloc;simp,by simp [go_sem],by simp [go_sem],?_,?_⟩ <;> unfold World.frozen? World.alloc <;> simp
/-- What Sum holds between two examples. -/
structure SumI (w:World) (b0 b1 b2:Nat) (va vb:Value) (F:Int) (W:World):Prop where
 c0:W.cell? ⟨b0,0,none⟩=some va
 c1:W.cell? ⟨b0,1,none⟩=some vb
 l1:LieA W b1 0 0
 l2:LieA W b2 0 F
 iw:InW F
 bel:Below w.heap.size w W
theorem SumI.up {w:World} {H I L:Nat} {E J:Value} {F:Int} {W W':World} (h:SumI w H I L E J F W) (D:Below W.heap.size W W'):SumI w H I L E J F W':=⟨keep D h.c0,keep D h.c1,h.l1.up D,h.l2.up D,h.iw,a_c h.bel D⟩
theorem SumI.stay {w:World} {E H I g:Nat} {L J:Value} {F:Int} {W W':World} (h:SumI w E H I L J F W) (D:Stay g W W') (O:Below g W W') (M:E < g) (U:H < g) (R:I < g) (V:w.heap.size<=g):SumI w E H I L J F W':=⟨D.cell h.c0 (Nat.ne_of_lt M),D.cell h.c1 (Nat.ne_of_lt M),h.l1.stay D (Nat.ne_of_lt U),h.l2.stay D (Nat.ne_of_lt R),h.iw,h.bel.trans (O.mono V)⟩
theorem SumI.put {w:World} {E H D:Nat} {J I:Value} {F y yh yl:Int} {W:World} (h:SumI w E H D J I F W) (L:E < D) (R:H < D) (M:w.heap.size<=D) (O:InW y) (e:wd y = .agg #[.int .i64 yh,.int .u64 yl]):SumI w E H D J I y ((W.setCell ⟨D,0,none⟩ (.int .i64 yh)).setCell ⟨D,0+1,none⟩ (.int .u64 yl)):=by
 have s:Stay D W ((W.setCell ⟨D,0,none⟩ (.int .i64 yh)).setCell ⟨D,0+1,none⟩ (.int .u64 yl)):=((Stay.refl _ _).set _ _).set _ _;unfold wd at e;simp only [Value.agg.injEq,Array.mk.injEq,List.cons.injEq,Value.int.injEq,true_and,and_true] at e;exact ⟨s.cell h.c0 (Nat.ne_of_lt L),s.cell h.c1 (Nat.ne_of_lt L),h.l1.stay s (Nat.ne_of_lt R),h.l2.set e.1.symm e.2.symm,O,(h.bel.setCell (p:=⟨D,0,none⟩) M _).setCell (p:=⟨D,0+1,none⟩) M _⟩
/-- The sums so far: none yet, or a row in a block of its own. -/
def SumV (B n j:Nat) (S:List Int) (v:Value) (W:World):Prop:=if j=0 then v = .slice none 0 0 else ∃ g,v = .slice (some ⟨g,0,none⟩) n n/\B < g/\g < W.heap.size/\WRow W g n S
theorem SumV.zero (B n:Nat) (S:List Int) (W:World):SumV B n 0 S (.slice none 0 0) W:=by
 unfold SumV;rw [if_pos rfl]
theorem SumV.up {B n j:Nat} {S:List Int} {v:Value} {W W':World} (h:SumV B n j S v W) (D:Below W.heap.size W W'):SumV B n j S v W':=by
 unfold SumV at h ⊢
 split
 ·rename_i e
  rwa [if_pos e] at h
 ·rename_i e
  rw [if_neg e] at h;obtain ⟨g,a,b,c,d⟩:=h;exact ⟨g,a,b,Nat.lt_of_lt_of_le c D.size,d.up D⟩
theorem o_X (w:World) (D E:Value) (H I J:TypeId):SumI w w.heap.size (w.heap.size+1) (w.heap.size+1+1) D E 0 (((w.alloc (.cells #[D,E] H)).alloc (.cells #[.int .i64 0,.int .u64 0] I)).alloc (.cells #[.int .i64 0,.int .u64 0] J)):=by
 have M:(w.alloc (.cells #[D,E] H)).heap.size=w.heap.size+1:=by unfold World.alloc;simp
 have L:((w.alloc (.cells #[D,E] H)).alloc (.cells #[.int .i64 0,.int .u64 0] I)).heap.size=w.heap.size+1+1:=by unfold World.alloc;simp
 refine ⟨by simp [go_sem],by simp [go_sem],?_,?_,by unfold InW;omega,g_a (g_a (a_b w _) _) _⟩
 ·have:=e_3 (w.alloc (.cells #[D,E] H)) I;rw [M] at this;exact this.up (a_b _ _)
 ·have:=e_3 ((w.alloc (.cells #[D,E] H)).alloc (.cells #[.int .i64 0,.int .u64 0] I)) J;rw [L] at this;exact this
theorem i_8 (d:List Int) (ls:List Ly) (h0:nE d ls=0) (ac:nP d ls<=1048576) (p V:Option Addr) (n c M c2:Nat) (O:M<=1048576) (w:World) (hK:Hid (Kz w)) (ae:Nums .i64 w (.slice p n c) d) (ab:LyR 0 w V M ls):
  Calls Tryz.prog 29 #[.agg #[.slice p n c,.slice V M c2]] w fun e w'=>∃ g m,e = .returned (.tuple #[.slice (some ⟨g,0,none⟩) m m,.agg #[.int .i64 0,.int .u64 0],.int .i64 0])/\WRow w' g m (List.replicate (nP d ls).toNat 0)/\Below w.heap.size w w'/\w.heap.size<=g/\g < w'.heap.size:=by
 haveI:Nonempty World:=⟨w⟩
 have R:Hid (Nums .i64 w (.slice p n c) d/\LyR 0 w V M ls/\nE d ls=0/\0<=nP d ls/\nP d ls<=1048576/\M<=1048576):=⟨ae,ab,h0,p_v h0,ac,O⟩
 clear ae ab h0 ac O;obtain ⟨m,em⟩:=Int.eq_ofNat_of_zero_le R.out.2.2.2.1;have hm:m<=1048576:=by have:=R.out.2.2.2.2.1;omega
 rw [em,Int.toNat_natCast];obtain ⟨i0,hi,ah,af,ag⟩:=f_R;go_enter Tryz.func29,Tryz.ntmps29;go_wp2_with fail
 generalize U:World.alloc _ _=W0
 have H:Hid (Below w.heap.size w W0/\LieA W0 (w.heap.size+1) 0 0):=by
  rw [<- U];refine ⟨g_a (a_b w _) _,?_⟩;have:=e_3 (w.alloc (.cells #[.slice p n c,.slice V M c2] 33)) 45;rw [show (w.alloc (.cells #[.slice p n c,.slice V M c2] 33)).heap.size=w.heap.size+1 by unfold World.alloc;simp] at this;exact this
 obtain ⟨g0,g1⟩:W0.cell? ⟨w.heap.size,0,none⟩=some (.slice p n c)/\W0.cell? ⟨w.heap.size,1,none⟩=some (.slice V M c2):=by rw [<- U];simp [go_sem]
 clear U;have cc:=k_T p V n c M c2 d ls (by have:=R.out.2.2.2.2.2;omega) W0 (Hid.up_kz hK H.out.1) (R.out.1.up H.out.1) (R.out.2.1.up H.out.1);rw [R.out.2.2.1,em] at cc;refine cc.mono ?_;rintro e E ⟨rfl,aa⟩;have H1:Hid (Below w.heap.size w E/\LieA E (w.heap.size+1) 0 0):=⟨a_c H.out.1 aa,H.out.2.up aa⟩
 clear cc aa H g0 g1 R em;go_wp2_with (at_make;refine wpList_make_full E rfl (.tmp 16) (.tmp 16) 35 rfl E.heap.size 45 i0 _ 2 Tryz.underlying35 hi ah af .i64 .i64 m m m rfl rfl rfl rfl (by rw [ag];omega) (by unfold maxLen;omega) (Nat.le_refl _) ?_;intro w3 L J;have B3:Below E.heap.size E w3:=Below.grown (Below.refl _ _) J (Nat.le_refl _) (fun j hj=>by cases hj);have H3:Hid (WRow w3 E.heap.size m (List.replicate m 0)):=e_F L;have I:E.heap.size < w3.heap.size:=n_i L;clear L J;have L3:=H1.out.2.up B3;have H4:Hid (WRow w3 E.heap.size m (List.replicate m 0)/\Below w.heap.size w w3/\LieA w3 (w.heap.size+1) 0 0/\w.heap.size+1 < E.heap.size/\E.heap.size < w3.heap.size):=⟨H3.out,a_c H1.out.1 B3,L3,H1.out.2.1,I⟩;obtain ⟨a0,a1,a2,a3,a4⟩:=L3;simp only [Nat.zero_add,show (0:Int) / 18446744073709551616=0 from rfl,show (0:Int) % 18446744073709551616=0 from rfl] at a1 a2 a4;clear B3 H3 I H1)
 have L5:=H4.out.2.2.1.set (y:=0) (yh:=0) (yl:=0) rfl rfl;obtain ⟨_,y0,y1,_,_⟩:=L5;have hs:Stay (w.heap.size+1) w3 ((w3.setCell ⟨w.heap.size+1,0,none⟩ (.int .i64 0)).setCell ⟨w.heap.size+1,0+1,none⟩ (.int .u64 0)):=((Stay.refl _ _).set _ _).set _ _;have H6:Hid (WRow ((w3.setCell ⟨w.heap.size+1,0,none⟩ (.int .i64 0)).setCell ⟨w.heap.size+1,0+1,none⟩ (.int .u64 0)) E.heap.size m (List.replicate m 0)/\Below w.heap.size w ((w3.setCell ⟨w.heap.size+1,0,none⟩ (.int .i64 0)).setCell ⟨w.heap.size+1,0+1,none⟩ (.int .u64 0))/\w.heap.size<=E.heap.size/\E.heap.size < ((w3.setCell ⟨w.heap.size+1,0,none⟩ (.int .i64 0)).setCell ⟨w.heap.size+1,0+1,none⟩ (.int .u64 0)).heap.size):=⟨H4.out.1.stay hs (by have:=H4.out.2.2.2.1;omega),(H4.out.2.1.setCell (p:=⟨w.heap.size+1,0,none⟩) (by show _<=w.heap.size+1;omega) _).setCell (p:=⟨w.heap.size+1,0+1,none⟩) (by show _<=w.heap.size+1;omega) _,by have:=H4.out.2.2.2.1;omega,Nat.lt_of_lt_of_le H4.out.2.2.2.2 hs.size⟩
 simp only [Nat.zero_add,show (0:Int) / 18446744073709551616=0 from rfl,show (0:Int) % 18446744073709551616=0 from rfl] at y0 y1 H6;clear hs H4;exact bodyPost_ret (v:=.tuple #[.slice (some ⟨E.heap.size,0,none⟩) m m,.agg #[.int .i64 0,.int .u64 0],.int .i64 0]) (by simp [results,Tryz.results29,go_sem,y0,y1]) rfl ⟨_,_,rfl,H6.out.1,H6.out.2.1,H6.out.2.2.1,H6.out.2.2.2⟩
theorem t_o {d:List Int} {ls:List Ly} {P:List Int} (hO:OfC d ls P) (hC:PlC d ls P):SumD d ls P:=by
 intro h0 k l p U pp pl n c V c2 np cp nl cl aB ba hl aX w hT hK aU aV hp he;haveI:Nonempty World:=⟨w⟩
 have aF:P.length=np:=by
  obtain ⟨_,_,_,e,h⟩:=hp.1.lst;cases e;exact h.out.1
 have HN:Hid (Nums .i64 w (.slice p n c) d/\LyR 0 w U V ls/\RowI w pp np cp P/\ExR w pl nl l/\nE d ls=0/\nP d ls<=1048576):=⟨aU,aV,hp,he,h0,aX⟩
 have HG:Hid (∀ j,j < nl->GfO np (g_s d ls k P (exA l j))/\((g_s d ls k P (exA l j)).1=0->np=(nP d ls).toNat)):=fun j hj=>by
  obtain ⟨q,o,e,px,nx,cx,py,ny,cy,_,_,_,_,rx,ry⟩:=he.2 j hj;refine ⟨?_,fun h=>?_⟩
  ·rw [<- aF];exact q_4 hC hp.2.1 rx.2.1 ry.2.1
  ·rw [<- aF];exact q_3 h0 h
 have CO:Hid (OfC d ls P):=hO;obtain ⟨T,eT⟩:∃ T,n_h d ls k P l=T:=⟨_,rfl⟩
 obtain ⟨NP,aM⟩:∃ N,(nP d ls).toNat=N:=⟨_,rfl⟩
 have HT:Hid (smK (g_s d ls k P) NP l nl=T/\(nP d ls).toNat=NP/\l.length=nl):=⟨by rw [<- eT,<- he.1,<- aM];rfl,aM,he.1⟩
 rw [eT];clear eT aM aU aV hp he hO hC h0 aX aF;obtain ⟨i0,hi,a6,bc,a5⟩:=f_R;go_enter Tryz.func15,Tryz.ntmps15;by_cases hz:nl=0
 ·subst hz;have et:T=(0,List.replicate NP 0,0):=HT.out.1.symm;subst et;go_wp2_with fail
  generalize aD:World.alloc _ _=W0
  have aa:Hid (Below w.heap.size w W0/\LieA W0 (w.heap.size+1) 0 0):=by
   rw [<- aD];refine ⟨g_a (a_b w _) _,?_⟩;have:=e_3 (w.alloc (.cells #[.slice p n c,.slice U V c2] 33)) 45;rw [show (w.alloc (.cells #[.slice p n c,.slice U V c2] 33)).heap.size=w.heap.size+1 by unfold World.alloc;simp] at this;exact this
  obtain ⟨g0,g1⟩:W0.cell? ⟨w.heap.size,0,none⟩=some (.slice p n c)/\W0.cell? ⟨w.heap.size,1,none⟩=some (.slice U V c2):=by rw [<- aD];simp [go_sem]
  have kg:=a_g g0;clear aD;refine (i_8 d ls HN.out.2.2.2.2.1 HN.out.2.2.2.2.2 p U n c V c2 aB W0 (Hid.up_kz hK aa.out.1) (HN.out.1.up aa.out.1) (HN.out.2.1.up aa.out.1)).mono ?_;rintro e w1 ⟨gs,m,rfl,aL,O,bn,bb⟩;rw [HT.out.2.1] at aL;obtain ⟨a0,a1,a2,a3,a4⟩:=aa.out.2.up O;obtain ⟨_,y0,y1,_,_⟩:=(aa.out.2.up O).set (y:=0) (yh:=0) (yl:=0) rfl rfl;have hs:Stay (w.heap.size+1) w1 ((w1.setCell ⟨w.heap.size+1,0,none⟩ (.int .i64 0)).setCell ⟨w.heap.size+1,0+1,none⟩ (.int .u64 0)):=((Stay.refl _ _).set _ _).set _ _;have bj:=aa.out.2.1;have L:Hid (WRow ((w1.setCell ⟨w.heap.size+1,0,none⟩ (.int .i64 0)).setCell ⟨w.heap.size+1,0+1,none⟩ (.int .u64 0)) gs m (List.replicate NP 0)/\(w.heap.size<=gs/\gs < ((w1.setCell ⟨w.heap.size+1,0,none⟩ (.int .i64 0)).setCell ⟨w.heap.size+1,0+1,none⟩ (.int .u64 0)).heap.size)/\Below w.heap.size w ((w1.setCell ⟨w.heap.size+1,0,none⟩ (.int .i64 0)).setCell ⟨w.heap.size+1,0+1,none⟩ (.int .u64 0))):=⟨aL.stay hs (by omega),⟨by omega,Nat.lt_of_lt_of_le bb hs.size⟩,((a_c aa.out.1 O).setCell (p:=⟨w.heap.size+1,0,none⟩) (by show _<=w.heap.size+1;omega) _).setCell (p:=⟨w.heap.size+1,0+1,none⟩) (by show _<=w.heap.size+1;omega) _⟩
  simp only [Nat.zero_add,show (0:Int) / 18446744073709551616=0 from rfl,show (0:Int) % 18446744073709551616=0 from rfl] at a1 a2 a4 y0 y1 L;clear hs aL O g0 g1 aa kg;go_wp2;exact bodyPost_ret (v:=.tuple #[.slice (some ⟨gs,0,none⟩) m m,.agg #[.int .i64 0,.int .u64 0],.int .i64 0]) (by simp [results,Tryz.results15,go_sem,y0,y1]) rfl ⟨_,by rw [i_6],L.out.1.wrd,L.out.2.2,fun ad m' c' e=>by cases e;exact L.out.2.1⟩
 have bg:¬ ((nl:Int)=0):=by omega
 have bl:((nl:Int)==0)=false:=by simpa using bg
 go_wp2_with fail
 generalize aQ:World.alloc _ _=W1
 have bf:Hid (SumI w w.heap.size (w.heap.size+1) (w.heap.size+1+1) (.slice p n c) (.slice U V c2) 0 W1):=by
  rw [<- aQ];exact o_X w _ _ _ _ _
 clear aQ
 go_loopg [11,28] nl (fun gg sv i wr=>∃ (j:Nat) (S:List Int) (F:Int),j<=nl/\gg=nl - j/\i = .int .i64 (j:Int)/\Hid (smK (g_s d ls k P) NP l j=(0,S,F))/\Hid (SumV (w.heap.size+1+1) np j S sv wr)/\Hid (SumI w w.heap.size (w.heap.size+1) (w.heap.size+1+1) (.slice p n c) (.slice U V c2) F wr))
 case atStart=>exact ⟨0,_,_,by omega,by omega,by first|rfl|simp,show Hid _ from rfl,SumV.zero _ _ _ _,bf⟩
 case round=>
  obtain ⟨j,S,F,hj,hg,rfl,HS,HV,HI⟩:=hrel;obtain ⟨R1,a9⟩:∃ R1:World,R1=wr:=⟨_,rfl⟩
  subst a9;by_cases aR:j < nl
  ·have bk:(j:Int) < (nl:Int):=by omega
   obtain ⟨⟨X,y,aG⟩,eX⟩:∃ e,exA l j=e:=⟨_,rfl⟩
   have an:=HG.out j aR;obtain ⟨q,o,rfl,px,nx,cx,py,ny,cy,c0,c1,aJ,aS,rx,ry⟩:=(HN.out.2.2.2.1.up HI.out.bel).2 j aR;rw [eX] at aJ aS rx ry an;obtain ⟨⟨E,H,I⟩,ax⟩:∃ T1,gof d ls k P X y aG=T1:=⟨_,rfl⟩
   have aW:g_s d ls k P (exA l j)=(E,H,I):=by rw [eX];exact ax
   rw [show g_s d ls k P (X,y,aG)=(E,H,I) from ax] at an;have av:Hid (GfO np (E,H,I)/\(E=0->np=NP)):=⟨an.1,fun h=>by rw [<- HT.out.2.1];exact an.2 h⟩
   have aE:Hid (smK (g_s d ls k P) NP l (j+1)=if E=0 then (0,e_o S H,wr (F+I)) else (E,[],0)):=by
    show _=_;rw [smK,HS.out,if_pos rfl,aW]
   have HX:Hid (RowI R1 px nx cx X/\RowI R1 py ny cy y):=⟨rx,ry⟩
   have kq:=a_a c0;have g0:=HI.out.c0;have g1:=HI.out.c1;have kg:=a_g g0;dsimp only at aJ;clear rx ry eX aW an aS;go_wp2_with fail
   generalize aY:World.alloc _ _=K1;have ai:Below R1.heap.size R1 K1:=by rw [<- aY];exact a_b R1 _
   have O:=a_c HI.out.bel ai;have cc:=CO.out k X y aG p U pp px py n c V c2 np cp nx cx ny cy aB ba K1 (Hid.up_tz hT O) (Hid.up_kz hK O) (HN.out.1.up O) (HN.out.2.1.up O) (HN.out.2.2.1.up O) (HX.out.1.up ai) (HX.out.2.up ai);rw [ax] at cc;have H1:Hid (SumI w w.heap.size (w.heap.size+1) (w.heap.size+1+1) (.slice p n c) (.slice U V c2) F K1/\SumV (w.heap.size+1+1) np j S u11 K1):=⟨HI.out.up ai,HV.out.up ai⟩
   clear aY ai O ax c0 c1 aJ kq g0 g1 kg HX HI HV;refine cc.mono ?_;rintro e M ⟨v4,rfl,az,aH⟩;obtain ⟨p4,J,c4,rfl⟩:=az.form_;have H4:Hid (SumI w w.heap.size (w.heap.size+1) (w.heap.size+1+1) (.slice p n c) (.slice U V c2) F M/\SumV (w.heap.size+1+1) np j S u11 M/\OwnK .i64 23 M K1.heap.size (.slice p4 J c4) H/\SumV (w.heap.size+1+1) np j S u11 K1/\w.heap.size+1+1 < K1.heap.size):=⟨H1.out.1.up aH,H1.out.2.up aH,az,H1.out.2,H1.out.1.l2.1⟩
   have aP:H.length=J:=by
    obtain ⟨_,_,_,e,h⟩:=az.nums.lst;cases e;exact h.out.1
   clear cc az aH H1;dsimp only;by_cases hE:E=0
   case neg=>
    have et:T=(E,[],0):=by
     have h1:=aE.out;rw [if_neg hE] at h1;rw [<- HT.out.1];have h2:=k_f (g_s d ls k P) NP l (j+1) (by rw [h1];exact hE) (nl - (j+1));rw [show j+1+(nl - (j+1))=nl by omega] at h2;rw [h2,h1]
    subst et;have bm:(E != 0)=true:=by simpa using hE
    obtain ⟨a0,a1,a2,a3,a4⟩:=H4.out.1.l1;obtain ⟨_,y0,y1,_,_⟩:=H4.out.1.l1.set (y:=0) (yh:=0) (yl:=0) rfl rfl;have L:Hid (Below w.heap.size w ((M.setCell ⟨w.heap.size+1,0,none⟩ (.int .i64 0)).setCell ⟨w.heap.size+1,0+1,none⟩ (.int .u64 0))):=(H4.out.1.bel.setCell (p:=⟨w.heap.size+1,0,none⟩) (by show _<=w.heap.size+1;omega) _).setCell (p:=⟨w.heap.size+1,0+1,none⟩) (by show _<=w.heap.size+1;omega) _;simp only [Nat.zero_add,show (0:Int) / 18446744073709551616=0 from rfl,show (0:Int) % 18446744073709551616=0 from rfl] at a1 a2 a4 y0 y1 L;clear H4 aP;go_wp2;exact bodyPost_ret (v:=.tuple #[.slice none 0 0,.agg #[.int .i64 0,.int .u64 0],.int .i64 E]) (by simp [results,Tryz.results15,go_sem,y0,y1]) rfl ⟨_,by rw [i_6],⟨none,0,0,rfl,WdR.nil _ _⟩,L.out,fun ad m' c' e=>by cases e⟩
   subst hE;have a8:J=np:=by rw [<- aP];exact av.out.1.1 rfl
   subst a8;have ay:Hid (smK (g_s d ls k P) NP l (j+1)=(0,e_o S H,wr (F+I))):=aE.out.trans (if_pos rfl);have ac:Hid (RI H/\InR I/\J=NP):=⟨av.out.1.2.1,av.out.1.2.2,av.out.2 rfl⟩
   clear aE av aP;by_cases aT:j=0
   ·subst aT
    have eS:S=List.replicate J 0:=by
     have:=HS.out;rw [smK] at this;cases this;rw [ac.out.2.2]
    subst eS;clear HS;go_wp2_with (at_make;refine wpList_make_full M rfl (.tmp 49) (.tmp 49) 35 rfl M.heap.size 45 i0 _ 2 Tryz.underlying35 hi a6 bc .i64 .i64 J J J rfl rfl rfl rfl (by rw [a5];omega) (by unfold maxLen;omega) (Nat.le_refl _) ?_;intro w5 am ap;have B5:Below M.heap.size M w5:=Below.grown (Below.refl _ _) ap (Nat.le_refl _) (fun j hj=>by cases hj);have H5:Hid (WRow w5 M.heap.size J (List.replicate J 0)):=e_F am;have ao:M.heap.size < w5.heap.size:=n_i am;clear am ap)
    have HA:Hid (WRow w5 M.heap.size J (List.replicate J 0)/\(∀ W',Stay M.heap.size w5 W'->Nums .i64 W' (.slice p4 J c4) H)/\SumI w w.heap.size (w.heap.size+1) (w.heap.size+1+1) (.slice p n c) (.slice U V c2) F w5/\w.heap.size+1+1 < M.heap.size/\M.heap.size < w5.heap.size):=⟨H5.out,fun W' hs=>((H4.out.2.2.1.up B5).stay hs (H4.out.2.2.1.off_new (Nat.le_refl _))).nums,H4.out.1.up B5,H4.out.1.l2.1,ao⟩
    clear H4 H5 B5 ao;go_wp2_with fail
    refine (g_t M.heap.size J (List.replicate J 0) H (by omega) p4 c4 ac.out.1 w5 HA.out.1 HA.out.2.1).mono ?_;rintro e w6 ⟨rfl,au,ah,aj⟩;have ar:=HA.out.2.2.2.1;have L:Hid (SumI w w.heap.size (w.heap.size+1) (w.heap.size+1+1) (.slice p n c) (.slice U V c2) F w6/\WRow w6 M.heap.size J (e_o (List.replicate J 0) H)/\w.heap.size+1+1 < M.heap.size):=⟨HA.out.2.2.1.stay ah aj (by omega) (by omega) (by omega) (by omega),au,ar⟩
    have aI:Hid (M.heap.size < w6.heap.size):=Nat.lt_of_lt_of_le HA.out.2.2.2.2 ah.size;clear au ah aj HA ar;have wF:=L.out.1.iw;obtain ⟨f1,e1⟩:∃ x,F / 18446744073709551616=x:=⟨_,rfl⟩
    obtain ⟨f2,e2⟩:∃ x,F % 18446744073709551616=x:=⟨_,rfl⟩
    obtain ⟨v1,e3⟩:∃ x,I / 18446744073709551616=x:=⟨_,rfl⟩
    obtain ⟨v2,e4⟩:∃ x,I % 18446744073709551616=x:=⟨_,rfl⟩
    obtain ⟨s_,es⟩:∃ s,Wd.wr (F+I)=s:=⟨_,rfl⟩
    obtain ⟨s1,e5⟩:∃ x,s_ / 18446744073709551616=x:=⟨_,rfl⟩
    obtain ⟨s2,e6⟩:∃ x,s_ % 18446744073709551616=x:=⟨_,rfl⟩
    have ae:wd s_ = .agg #[.int .i64 s1,.int .u64 s2]:=by unfold wd;rw [e5,e6]
    have cO:Hid (∀ W,Below w6.heap.size w6 W->Calls Tryz.prog 31 #[.int .i64 I] W fun e w'=>e = .returned (.agg #[.int .i64 v1,.int .u64 v2])/\Below W.heap.size W w'):=fun W _=>by
     have:=of_any I ac.out.2.1 W;unfold wd at this;rw [e3,e4] at this;exact this
    have cA:Hid (∀ W,Below w6.heap.size w6 W->Calls Tryz.prog 17 #[.agg #[.int .i64 f1,.int .u64 f2],.agg #[.int .i64 v1,.int .u64 v2]] W fun e w'=>e = .returned (.agg #[.int .i64 s1,.int .u64 s2])/\Below W.heap.size W w'):=fun W _=>by
     have:=Wd.add_any F I wF (InR.w ac.out.2.1) W;rw [es,ae] at this;unfold wd at this;rw [e1,e2,e3,e4] at this;exact this
    have ab:Hid (smK (g_s d ls k P) NP l (0+1)=(0,e_o (List.replicate J 0) H,s_)/\InW s_/\wd s_ = .agg #[.int .i64 s1,.int .u64 s2]):=⟨by rw [ay.out,es],by rw [<- es];exact c_9 _,ae⟩
    obtain ⟨kb,l0,l1,_,_⟩:=L.out.1.l2;rw [e1] at l0;rw [e2] at l1;simp only [Nat.zero_add] at l1;clear e1 e2 e3 e4 e5 e6 es ae wF ay;go_wp2_with fail
    refine rel [] 4 61 (by kernel_rfl) rfl rfl (by kernel_rfl) (by rfl) ?_ ?_
    ·intro e he;simp at he
    apply Exists.intro;refine ⟨fun x=>?_,?_,?_⟩
    ·simp only [List.take_succ_cons,List.take_zero]
     iterate 2
      refine a_l rfl rfl ?_;apply Exists.intro;refine ⟨fun F hF hf K hK=>?_,?_⟩
      ·have hFc:=hF.cell;have hFf:=hF.frozen
       go_big_quiet_op
       first|exact hK|(apply Exists.intro;refine ⟨fun _=>?_,?_⟩;(· fail);exact hK)
      (try simp only [Act.put,sA_,sB_,sC_])
     refine a_l rfl rfl ?_;apply Exists.intro;refine ⟨fun F hF hf K hK=>?_,?_⟩
     ·have hFc:=hF.cell;have hFf:=hF.frozen
      go_big_quiet_op
      first|exact hK|(apply Exists.intro;refine ⟨fun _=>?_,?_⟩;(· exact hF.call (cO.out _ (hF.below _)));exact hK)
     (try simp only [Act.put,sA_,sB_,sC_])
     refine a_l rfl rfl ?_;apply Exists.intro;refine ⟨fun F hF hf K hK=>?_,?_⟩
     ·have hFc:=hF.cell;have hFf:=hF.frozen
      go_big_quiet_op
      first|exact hK|(apply Exists.intro;refine ⟨fun _=>?_,?_⟩;(· exact hF.call (cA.out _ (hF.below _)));exact hK)
     (try simp only [Act.put,sA_,sB_,sC_])
     refine b_a ?_;exact rfl
    ·intro x;simp only [b_k,List.foldl_nil]
    ·intro w9 xs R hf;simp only [List.drop_succ_cons,List.drop_zero];have H9:Hid (SumI w w.heap.size (w.heap.size+1) (w.heap.size+1+1) (.slice p n c) (.slice U V c2) F w9/\WRow w9 M.heap.size J (e_o (List.replicate J 0) H)):=⟨L.out.1.up R,L.out.2.1.up R⟩
     have ag:Stay (w.heap.size+1+1) w9 ((w9.setCell ⟨w.heap.size+1+1,0,none⟩ (.int .i64 s1)).setCell ⟨w.heap.size+1+1,0+1,none⟩ (.int .u64 s2)):=((Stay.refl _ _).set _ _).set _ _
     have af:Hid (SumV (w.heap.size+1+1) J (0+1) (e_o (List.replicate J 0) H) (.slice (some ⟨M.heap.size,0,none⟩) J J) ((w9.setCell ⟨w.heap.size+1+1,0,none⟩ (.int .i64 s1)).setCell ⟨w.heap.size+1+1,0+1,none⟩ (.int .u64 s2))/\SumI w w.heap.size (w.heap.size+1) (w.heap.size+1+1) (.slice p n c) (.slice U V c2) s_ ((w9.setCell ⟨w.heap.size+1+1,0,none⟩ (.int .i64 s1)).setCell ⟨w.heap.size+1+1,0+1,none⟩ (.int .u64 s2))):=⟨by
      unfold SumV;rw [if_neg (by omega)];exact ⟨_,rfl,L.out.2.2,Nat.lt_of_lt_of_le aI.out (Nat.le_trans R.size ag.size),H9.out.2.stay ag (by have:=L.out.2.2;omega)⟩,H9.out.1.put (by omega) (by omega) (by omega) ab.out.2.1 ab.out.2.2⟩
     obtain ⟨a7,be,aN,bh,aO⟩:=H9.out.1.l2;simp only [Nat.zero_add] at af aN aO;clear hf R ag l0 l1 kb H9 L cO cA;go_wp2;go_roundg (nl - (0+1))
     case measure=>omega
     case rel=>exact ⟨0+1,_,_,by omega,rfl,by first|rfl|simp,ab.out.1,af.out.1,af.out.2⟩
   ·have bi:¬ ((j:Int)=0):=by omega
    have hV:=H4.out.2.1;have aK:=H4.out.2.2.2.1;unfold SumV at hV aK;rw [if_neg aT] at hV aK;obtain ⟨G,eG,hG,aw,hW⟩:=hV;obtain ⟨G',bd,_,aA,_⟩:=aK;subst eG;cases bd;have HA:Hid (WRow M G J S/\(∀ W',Stay G M W'->Nums .i64 W' (.slice p4 J c4) H)/\SumI w w.heap.size (w.heap.size+1) (w.heap.size+1+1) (.slice p n c) (.slice U V c2) F M/\w.heap.size+1+1 < G/\G < M.heap.size):=⟨hW,fun W' hs=>(H4.out.2.2.1.stay hs (H4.out.2.2.1.off aA)).nums,H4.out.1,hG,aw⟩
    clear H4 hW hG aw aA HS;go_wp2_with fail
    refine (g_t G J S H (by omega) p4 c4 ac.out.1 M HA.out.1 HA.out.2.1).mono ?_;rintro e w6 ⟨rfl,au,ah,aj⟩;have ar:=HA.out.2.2.2.1;have L:Hid (SumI w w.heap.size (w.heap.size+1) (w.heap.size+1+1) (.slice p n c) (.slice U V c2) F w6/\WRow w6 G J (e_o S H)/\w.heap.size+1+1 < G):=⟨HA.out.2.2.1.stay ah aj (by omega) (by omega) (by omega) (by omega),au,ar⟩
    have aI:Hid (G < w6.heap.size):=Nat.lt_of_lt_of_le HA.out.2.2.2.2 ah.size;clear au ah aj HA ar;have wF:=L.out.1.iw;obtain ⟨f1,e1⟩:∃ x,F / 18446744073709551616=x:=⟨_,rfl⟩
    obtain ⟨f2,e2⟩:∃ x,F % 18446744073709551616=x:=⟨_,rfl⟩
    obtain ⟨v1,e3⟩:∃ x,I / 18446744073709551616=x:=⟨_,rfl⟩
    obtain ⟨v2,e4⟩:∃ x,I % 18446744073709551616=x:=⟨_,rfl⟩
    obtain ⟨s_,es⟩:∃ s,Wd.wr (F+I)=s:=⟨_,rfl⟩
    obtain ⟨s1,e5⟩:∃ x,s_ / 18446744073709551616=x:=⟨_,rfl⟩
    obtain ⟨s2,e6⟩:∃ x,s_ % 18446744073709551616=x:=⟨_,rfl⟩
    have ae:wd s_ = .agg #[.int .i64 s1,.int .u64 s2]:=by unfold wd;rw [e5,e6]
    have cO:Hid (∀ W,Below w6.heap.size w6 W->Calls Tryz.prog 31 #[.int .i64 I] W fun e w'=>e = .returned (.agg #[.int .i64 v1,.int .u64 v2])/\Below W.heap.size W w'):=fun W _=>by
     have:=of_any I ac.out.2.1 W;unfold wd at this;rw [e3,e4] at this;exact this
    have cA:Hid (∀ W,Below w6.heap.size w6 W->Calls Tryz.prog 17 #[.agg #[.int .i64 f1,.int .u64 f2],.agg #[.int .i64 v1,.int .u64 v2]] W fun e w'=>e = .returned (.agg #[.int .i64 s1,.int .u64 s2])/\Below W.heap.size W w'):=fun W _=>by
     have:=Wd.add_any F I wF (InR.w ac.out.2.1) W;rw [es,ae] at this;unfold wd at this;rw [e1,e2,e3,e4] at this;exact this
    have ab:Hid (smK (g_s d ls k P) NP l (j+1)=(0,e_o S H,s_)/\InW s_/\wd s_ = .agg #[.int .i64 s1,.int .u64 s2]):=⟨by rw [ay.out,es],by rw [<- es];exact c_9 _,ae⟩
    obtain ⟨kb,l0,l1,_,_⟩:=L.out.1.l2;rw [e1] at l0;rw [e2] at l1;simp only [Nat.zero_add] at l1;clear e1 e2 e3 e4 e5 e6 es ae wF ay;go_wp2_with fail
    refine rel [] 4 61 (by kernel_rfl) rfl rfl (by kernel_rfl) (by rfl) ?_ ?_
    ·intro e he;simp at he
    apply Exists.intro;refine ⟨fun x=>?_,?_,?_⟩
    ·simp only [List.take_succ_cons,List.take_zero]
     iterate 2
      refine a_l rfl rfl ?_;apply Exists.intro;refine ⟨fun F hF hf K hK=>?_,?_⟩
      ·have hFc:=hF.cell;have hFf:=hF.frozen
       go_big_quiet_op
       first|exact hK|(apply Exists.intro;refine ⟨fun _=>?_,?_⟩;(· fail);exact hK)
      (try simp only [Act.put,sA_,sB_,sC_])
     refine a_l rfl rfl ?_;apply Exists.intro;refine ⟨fun F hF hf K hK=>?_,?_⟩
     ·have hFc:=hF.cell;have hFf:=hF.frozen
      go_big_quiet_op
      first|exact hK|(apply Exists.intro;refine ⟨fun _=>?_,?_⟩;(· exact hF.call (cO.out _ (hF.below _)));exact hK)
     (try simp only [Act.put,sA_,sB_,sC_])
     refine a_l rfl rfl ?_;apply Exists.intro;refine ⟨fun F hF hf K hK=>?_,?_⟩
     ·have hFc:=hF.cell;have hFf:=hF.frozen
      go_big_quiet_op
      first|exact hK|(apply Exists.intro;refine ⟨fun _=>?_,?_⟩;(· exact hF.call (cA.out _ (hF.below _)));exact hK)
     (try simp only [Act.put,sA_,sB_,sC_])
     refine b_a ?_;exact rfl
    ·intro x;simp only [b_k,List.foldl_nil]
    ·intro w9 xs R hf;simp only [List.drop_succ_cons,List.drop_zero];have H9:Hid (SumI w w.heap.size (w.heap.size+1) (w.heap.size+1+1) (.slice p n c) (.slice U V c2) F w9/\WRow w9 G J (e_o S H)):=⟨L.out.1.up R,L.out.2.1.up R⟩
     have ag:Stay (w.heap.size+1+1) w9 ((w9.setCell ⟨w.heap.size+1+1,0,none⟩ (.int .i64 s1)).setCell ⟨w.heap.size+1+1,0+1,none⟩ (.int .u64 s2)):=((Stay.refl _ _).set _ _).set _ _
     have af:Hid (SumV (w.heap.size+1+1) J (j+1) (e_o S H) (.slice (some ⟨G,0,none⟩) J J) ((w9.setCell ⟨w.heap.size+1+1,0,none⟩ (.int .i64 s1)).setCell ⟨w.heap.size+1+1,0+1,none⟩ (.int .u64 s2))/\SumI w w.heap.size (w.heap.size+1) (w.heap.size+1+1) (.slice p n c) (.slice U V c2) s_ ((w9.setCell ⟨w.heap.size+1+1,0,none⟩ (.int .i64 s1)).setCell ⟨w.heap.size+1+1,0+1,none⟩ (.int .u64 s2))):=⟨by
      unfold SumV;rw [if_neg (by omega)];exact ⟨_,rfl,L.out.2.2,Nat.lt_of_lt_of_le aI.out (Nat.le_trans R.size ag.size),H9.out.2.stay ag (by have:=L.out.2.2;omega)⟩,H9.out.1.put (by omega) (by omega) (by omega) ab.out.2.1 ab.out.2.2⟩
     obtain ⟨a7,be,aN,bh,aO⟩:=H9.out.1.l2;simp only [Nat.zero_add] at af aN aO;clear hf R ag l0 l1 kb H9 L cO cA;go_wp2;go_roundg (nl - (j+1))
     case measure=>omega
     case rel=>exact ⟨j+1,_,_,by omega,rfl,by first|rfl|simp,ab.out.1,af.out.1,af.out.2⟩
  ·obtain rfl:j=nl:=by omega
   have et:T=(0,S,F):=HT.out.1.symm.trans HS.out;subst et;have hV:=HV.out;unfold SumV at hV;rw [if_neg hz] at hV;obtain ⟨G,eG,hG,aw,hW⟩:=hV;subst eG;obtain ⟨fh,aq⟩:∃ x,F / 18446744073709551616=x:=⟨_,rfl⟩
   obtain ⟨fl,ak⟩:∃ x,F % 18446744073709551616=x:=⟨_,rfl⟩
   have aZ:wd F = .agg #[.int .i64 fh,.int .u64 fl]:=by unfold wd;rw [aq,ak]
   obtain ⟨b0,b1,b2,_,_⟩:=HI.out.l2;rw [aq] at b1;rw [ak] at b2;obtain ⟨a0,a1,a2,a3,a4⟩:=HI.out.l1;obtain ⟨_,y0,y1,_,_⟩:=HI.out.l1.set (y:=F) (yh:=fh) (yl:=fl) aq.symm ak.symm;rw [aq] at y0;rw [ak] at y1;have hs:Stay (w.heap.size+1) R1 ((R1.setCell ⟨w.heap.size+1,0,none⟩ (.int .i64 fh)).setCell ⟨w.heap.size+1,0+1,none⟩ (.int .u64 fl)):=((Stay.refl _ _).set _ _).set _ _;have L:Hid (WRow ((R1.setCell ⟨w.heap.size+1,0,none⟩ (.int .i64 fh)).setCell ⟨w.heap.size+1,0+1,none⟩ (.int .u64 fl)) G np S/\(w.heap.size<=G/\G < ((R1.setCell ⟨w.heap.size+1,0,none⟩ (.int .i64 fh)).setCell ⟨w.heap.size+1,0+1,none⟩ (.int .u64 fl)).heap.size)/\Below w.heap.size w ((R1.setCell ⟨w.heap.size+1,0,none⟩ (.int .i64 fh)).setCell ⟨w.heap.size+1,0+1,none⟩ (.int .u64 fl)))   := ⟨hW.stay hs (by omega),⟨by omega,Nat.lt_of_lt_of_le aw hs.size⟩,(HI.out.bel.setCell (p:=⟨w.heap.size+1,0,none⟩) (by show _<=w.heap.size+1;omega) _).setCell (p:=⟨w.heap.size+1,0+1,none⟩) (by show _<=w.heap.size+1;omega) _⟩
   simp only [Nat.zero_add,show (0:Int) / 18446744073709551616=0 from rfl,show (0:Int) % 18446744073709551616=0 from rfl] at a1 a2 a4 b1 b2 y0 y1 L;have HW:Hid (wd F = .agg #[.int .i64 fh,.int .u64 fl]):=aZ;clear hs hW HI HV HS aZ aq ak hG aw HG;go_wp2;go_region;go_wp2;exact bodyPost_ret (v:=.tuple #[.slice (some ⟨G,0,none⟩) np np,.agg #[.int .i64 fh,.int .u64 fl],.int .i64 0]) (by simp [results,Tryz.results15,go_sem,y0,y1]) rfl ⟨_,by rw [HW.out],L.out.1.wrd,L.out.2.2.trans ⟨rfl,rfl,rfl,Nat.le_refl _,fun _ _=>rfl⟩,fun ad m' c' e=>by cases e;exact L.out.2.1⟩
/-- Numbers that a tape's change leaves as they are. -/
def KeptL (B:Nat) (W:World) (v:Value) (l:List Int):Prop:=∀ W',Below B W W'->Only SC W W'->Nums .i64 W' v l
theorem KeptL.up {B:Nat} {W W':World} {v:Value} {l:List Int} (h:KeptL B W v l) (I:Below B W W') (D:Only SC W W'):KeptL B W' v l:=fun H J E=>h H (I.trans J) (D.trans E)
theorem KeptL.nums {B:Nat} {W:World} {v:Value} {l:List Int} (h:KeptL B W v l):Nums .i64 W v l:=h W (Below.refl _ _) (Only.refl _ _)
theorem OwnK.keptL {e:TypeId} {B E:Nat} {W:World} {v:Value} {l:List Int} (h:OwnK .i64 e W E v l) (he:e∉SC):KeptL B W v l:=fun W' _ D=>(h.only D he).nums
theorem KeptL.low {B:Nat} {w W:World} {v:Value} {l:List Int} (h:Nums .i64 w v l) (D:w.heap.size<=B) (E:Below B w W):KeptL B W v l:=fun W' hb _=>h.up ((E.trans hb).mono D)
theorem KeptL.nil (B:Nat) (W:World):KeptL B W (.slice none 0 0) []:=fun _ _ _=>.inl ⟨rfl,rfl⟩
/-- A step that may be laid. -/
structure StpOk (s:Nd):Prop where
 r:InR s.op/\InR s.a/\InR s.b/\InR s.k
 D:RI s.D
 X:RI s.X
 c:s.op≠1->RkC s.op
theorem q_5 {op:Int} (h:op=2∨op=3∨op=4∨op=9∨op=10∨op=11):RkC op:=by
 rcases h with rfl|rfl|rfl|rfl|rfl|rfl
 ·exact RkC.of (by omega) ck2
 ·exact RkC.of (by omega) ck3
 ·exact RkC.of (by omega) ck4
 ·exact RkC.of (by omega) ck9
 ·exact RkC.of (by omega) t_N
 ·exact RkC.of (by omega) t_w
theorem c_E {op a b k:Int} (h:op=2∨op=3∨op=4∨op=9∨op=10∨op=11) (E:InR a) (hb:InR b) (D:InR k):StpOk (opS op a b k):=⟨⟨by show InR op;unfold InR;omega,E,hb,D⟩,b_M,b_M,fun _=>q_5 h⟩
theorem e_4 {y:List Int} (D:RI y) (H:y.length<=4096):StpOk (lfS y):=by
 refine ⟨⟨by show InR 1;unfold InR;omega,by show InR 0;unfold InR;omega,by show InR 0;unfold InR;omega,by show InR 0;unfold InR;omega⟩,fun z E=>?_,D,fun h=>absurd rfl h⟩;have:z=(y.length:Int):=by simpa [lfS] using E
 subst this;omega
theorem i_9 (B I:Nat) (ns:List Nd) (hG:NodesG ns) (s:Nd) (ac:StpOk s) (p:Option Addr) (n c:Nat) (p2:Option Addr) (n2 c2:Nat) (w:World) (hT:TapC w B I ns) (ab:Hid (Tz w)) (h1:Nums .i64 w (.slice p n c) s.D) (h2:Nums .i64 w (.slice p2 n2 c2) s.X):
  Calls Tryz.prog 84 #[.pointer (some ⟨I,0,none⟩),.agg #[.int .i64 s.op,.int .i64 s.a,.int .i64 s.b,.int .i64 s.k,.slice p n c,.slice p2 n2 c2]] w fun e J=>e = .returned (.tuple #[.int .i64 (lsR ns s),.int .i64 (lsE ns s)])/\TapC J B I (lsN ns s)/\Below B w J/\Only SC w J/\Spar2 I w J:=by
 obtain ⟨op,a,b,k,D,X⟩:=s;obtain ⟨hr,rD,rX,aa⟩:=ac;simp only [] at hr rD rX h1 h2 aa ⊢;obtain ⟨R,eR⟩:∃ R,lsR ns ⟨op,a,b,k,D,X⟩=R:=⟨_,rfl⟩
 obtain ⟨E,eE⟩:∃ R,lsE ns ⟨op,a,b,k,D,X⟩=R:=⟨_,rfl⟩
 obtain ⟨NS,eN⟩:∃ R,lsN ns ⟨op,a,b,k,D,X⟩=R:=⟨_,rfl⟩
 rw [eR,eE,eN]
 have HZ:Hid (B<=w.heap.size):=by
  obtain ⟨hb,v,xs,hv,_⟩:=hT;exact Nat.le_trans hb (Nat.le_of_lt (a_i hv))
 by_cases h0:op=1
 ·subst h0
  have cl:Hid (∀ W,Below w.heap.size w W->Calls Tryz.prog 82 #[.pointer (some ⟨I,0,none⟩),.agg #[.slice p n c,.slice p2 n2 c2]] W fun e J=>e = .returned (.tuple #[.int .i64 R,.int .i64 E])/\TapC J B I NS/\Below B W J/\Only SC W J/\Spar2 I W J):=fun W hW=>by
   have:=j_Y B I ns hG p p2 n c n2 c2 D X rD rX W (hT.up hW) (h1.up hW) (h2.up hW);rw [<- eR,<- eE,<- eN];exact this
  clear eR eE eN hT h1 h2 aa rD rX hr;go_enter Tryz.func84,Tryz.ntmps84;go_wp2_with fail
  generalize O:World.alloc _ _=W0;have H:Hid (Below w.heap.size w W0):=by rw [<- O];exact a_b w _
  clear O;refine (cl.out W0 H.out).mono ?_;rintro e w1 ⟨rfl,M,L,U,V⟩;have HF:Hid (TapC w1 B I NS/\Below B w w1/\Only SC w w1/\Spar2 I w w1):=⟨M,(H.out.mono HZ.out).trans L,(Only.of H.out).trans U,Spar2.trans (Spar2.of H.out) V H.out.size⟩
  clear M L U V cl;go_wp2;go_ret2;exact ⟨rfl,HF.out⟩
 ·have ad:(op==1)=false:=by simpa using h0
  have cd:Hid (∀ W,Below w.heap.size w W->Calls Tryz.prog 83 #[.pointer (some ⟨I,0,none⟩),.int .i64 op,.int .i64 a,.int .i64 b,.int .i64 k] W fun e J=>e = .returned (.tuple #[.int .i64 R,.int .i64 E])/\TapC J B I NS/\Below B W J/\Only SC W J/\Spar2 I W J):=fun W hW=>by
   have:=p_n B I ns hG op a b k (aa h0) hr W (hT.up hW) (Hid.up_tz ab hW);rw [<- eR,<- eE,<- eN];unfold lsR lsE lsN;simp only [if_neg h0];exact this
  clear eR eE eN hT h1 h2 aa rD rX hr;go_enter Tryz.func84,Tryz.ntmps84;go_wp2_with fail
  generalize O:World.alloc _ _=W0;have H:Hid (Below w.heap.size w W0):=by rw [<- O];exact a_b w _
  clear O;refine (cd.out W0 H.out).mono ?_;rintro e w1 ⟨rfl,M,L,U,V⟩;have HF:Hid (TapC w1 B I NS/\Below B w w1/\Only SC w w1/\Spar2 I w w1):=⟨M,(H.out.mono HZ.out).trans L,(Only.of H.out).trans U,Spar2.trans (Spar2.of H.out) V H.out.size⟩
  clear M L U V cd;go_wp2;go_ret2;exact ⟨rfl,HF.out⟩
/-- How a step lies in a literal's cells. -/
def StL (B:Nat) (w:World) (cs:List Value) (i:Nat) (s:Nd):Prop:=∃ p n c p2 n2 c2,cs[i*6]?=some (.int .i64 s.op)/\cs[i*6+1]?=some (.int .i64 s.a)/\cs[i*6+2]?=some (.int .i64 s.b)/\cs[i*6+3]?=some (.int .i64 s.k)/\cs[i*6+4]?=some (.slice p n c)/\cs[i*6+5]?=some (.slice p2 n2 c2)/\KeptL B w (.slice p n c) s.D/\KeptL B w (.slice p2 n2 c2) s.X
theorem d_F {W:World} {g:Nat} {D:List Value} {e:TypeId} (h:W.heap[g]?=some (.cells D.toArray e (0,0))) {j:Nat} {v:Value} (E:D[j]?=some v):W.cell? ⟨g,j,none⟩=some v:=by
 unfold World.cell?;simp [h,E]
theorem h_i (B I:Nat) (ns:List Nd) (hG:NodesG ns) (sts:List Nd) (O:∀ i,i < sts.length->StpOk (stA sts i)) (ah:ns.length<=512) (g m:Nat) (cs:List Value) (hm:sts.length=m) (az:m<=20) (w:World) (hT:TapC w B I ns) (aj:Hid (∀ W,Below B w W->Tz W)) (hc:w.heap[g]?=some (.cells cs.toArray 136 (0,0))) (ad:∀ i,i < m->StL B w cs i (stA sts i)):
  Calls Tryz.prog 63 #[.pointer (some ⟨I,0,none⟩),.slice (some ⟨g,0,none⟩) m m] w fun e w'=>e = .returned (.tuple #[.int .i64 (lyR ns sts),.int .i64 (lyE ns sts)])/\TapC w' B I (lyM ns sts)/\Below B w w'/\Only SC w w'/\Spar2 I w w':=by
 haveI:Nonempty World:=⟨w⟩
 have V:=d_D B I ns w hT
 have av:B<=w.heap.size:=by
  obtain ⟨hb,_,_,hv,_⟩:=hT;exact Nat.le_trans hb (Nat.le_of_lt (a_i hv))
 by_cases hP:lyP ns sts
 case neg=>
  have e1:lyR ns sts=0:=if_neg fun h=>hP h.1;have e2:lyE ns sts=2:=if_neg hP;have e3:lyM ns sts=ns:=if_neg hP;rw [e1,e2,e3];have HT:Hid (TapC w B I ns):=hT;obtain ⟨N,eN⟩:∃ N:Nat,ns.length=N:=⟨_,rfl⟩
  rw [eN] at V ah
  have hN:(512:Int) < (N:Int)+(m:Int):=by
   have:¬ ns.length+sts.length<=512:=hP;omega
  have ax:(N:Int)<=512:=by omega
  have aC:(m:Int)<=20:=by omega
  clear e1 e2 e3 hP ad hc O hT hG aj eN hm;go_enter Tryz.func63,Tryz.ntmps63;go_wp2_with fail
  refine V.mono ?_;rintro e M ⟨rfl,rfl⟩;clear V;go_wp2;go_ret2;exact ⟨rfl,HT.out,Below.refl _ _,Only.refl _ _,Spar2.of (Below.refl _ _)⟩
 have U:=j_W sts ns
 have e1:lyR ns sts=if (lyF sts ns m).1=0 then (lyF sts ns m).2.2 else 0:=by
  subst hm;by_cases h:(lyF sts ns sts.length).1=0
  ·rw [if_pos h];exact if_pos ⟨hP,h⟩
  ·rw [if_neg h];exact if_neg fun h'=>h h'.2
 have e2:lyE ns sts=(lyF sts ns m).1:=(if_pos hP).trans (by rw [hm]);have e3:lyM ns sts=(lyF sts ns m).2.1:=(if_pos hP).trans (by rw [hm]);rw [e1,e2,e3];obtain ⟨F,eF⟩:∃ F,lyF sts ns=F:=⟨_,rfl⟩
 have h0:F 0=(0,ns,0):=by rw [<- eF];rfl
 have hs:∀ i,(F i).1=0->F (i+1)=(lsE (F i).2.1 (stA sts i),lsN (F i).2.1 (stA sts i),lsR (F i).2.1 (stA sts i)):=fun i h=>by
  rw [<- eF] at h ⊢
  conv=>lhs;unfold lyF
  rw [if_pos h]
 rw [eF] at U ⊢;obtain ⟨N,eN⟩:∃ N:Nat,ns.length=N:=⟨_,rfl⟩
 have hN:(N:Int)+(m:Int)<=512:=by
  have:ns.length+sts.length<=512:=hP;omega
 rw [eN] at V;have HF:Hid (F 0=(0,ns,0)/\(∀ i,(F i).1=0->F (i+1)=(lsE (F i).2.1 (stA sts i),lsN (F i).2.1 (stA sts i),lsR (F i).2.1 (stA sts i)))/\(∀ i,(F i).1≠0->∀ k,F (i+k)=F i)):=⟨h0,hs,U⟩
 have HK:Hid (B<=w.heap.size/\w.heap[g]?=some (.cells cs.toArray 136 (0,0))/\(∀ i,i < m->StL B w cs i (stA sts i))/\(∀ i,i < m->StpOk (stA sts i))):=⟨av,hc,ad,by rw [<- hm];exact O⟩
 have HT:Hid (TapC w B I ns/\NodesG ns):=⟨hT,hG⟩
 obtain ⟨LR,ag⟩:∃ z,(if (F m).1=0 then (F m).2.2 else 0)=z:=⟨_,rfl⟩
 rw [ag];have aq:Hid ((if (F m).1=0 then (F m).2.2 else 0)=LR):=ag;have ay:(m:Int)<=20:=by omega
 clear ag h0 hs U eF hc hm O hT hG ah av ad e1 e2 e3 hP eN;go_enter Tryz.func63,Tryz.ntmps63;go_wp2_with fail
 refine V.mono ?_;rintro e M ⟨rfl,rfl⟩;clear V;go_wp2_with fail
 go_loopg [6,19] m (fun gg u i wr=>∃ (k:Nat),k<=m/\gg=m - k/\u = .int .i64 (F k).2.2/\i = .int .i64 (k:Int)/\Hid ((F k).1=0/\TapC wr B I (F k).2.1/\NodesG (F k).2.1/\Below B M wr/\Only SC M wr/\Spar2 I M wr))
 case atStart=>
  refine ⟨0,by omega,by omega,by rw [HF.out.1],rfl,?_⟩;show _/\_;rw [HF.out.1];exact ⟨rfl,HT.out.1,HT.out.2,Below.refl _ _,Only.refl _ _,Spar2.of (Below.refl _ _)⟩
 case round=>
  obtain ⟨k,hk,hg,rfl,rfl,L⟩:=hrel;by_cases ak:k < m
  ·have aB:(k:Int) < (m:Int):=by omega
   have O:=HK.out.2.2.2 k ak;have J:=HF.out.2.1 k L.out.1;have H:=L.out.2.2.2.2.1.keep HK.out.2.1 (by decide);obtain ⟨s1,n1,c1,s2,n2,c2,z0,z1,z2,z3,z4,z5,k1,k2⟩:=HK.out.2.2.1 k ak;obtain ⟨st,ao⟩:∃ st,stA sts k=st:=⟨_,rfl⟩
   rw [ao] at z0 z1 z2 z3 k1 k2 J O;have y0:=d_F H z0;have y1:=d_F H z1;have y2:=d_F H z2;have y3:=d_F H z3;have y4:=d_F H z4;have y5:=d_F H z5;have af:B<=wr.heap.size:=Nat.le_trans HK.out.1 L.out.2.2.2.2.1.1
   have cL:Hid (∀ W,Below wr.heap.size wr W->Calls Tryz.prog 84 #[.pointer (some ⟨I,0,none⟩),.agg #[.int .i64 st.op,.int .i64 st.a,.int .i64 st.b,.int .i64 st.k,.slice s1 n1 c1,.slice s2 n2 c2]] W fun e w'=>e = .returned (.tuple #[.int .i64 (lsR (F k).2.1 st),.int .i64 (lsE (F k).2.1 st)])/\TapC w' B I (lsN (F k).2.1 st)/\Below B W w'/\Only SC W w'/\Spar2 I W w'):=fun W hW=>by
    have hb:Below B M W:=L.out.2.2.2.1.trans (hW.mono af);have ho:Only SC M W:=L.out.2.2.2.2.1.trans (Only.of hW);exact i_9 B I (F k).2.1 L.out.2.2.1 st O s1 n1 c1 s2 n2 c2 W (L.out.2.1.up hW) (aj.out W hb) (k1 W hb ho) (k2 W hb ho)
   have ap:Hid (NodesG (lsN (F k).2.1 st)):=L.out.2.2.1.ls O.X;have HZ:Hid (B<=wr.heap.size):=af;obtain ⟨E,eE⟩:∃ E,lsE (F k).2.1 st=E:=⟨_,rfl⟩
   obtain ⟨R,eR⟩:∃ E,lsR (F k).2.1 st=E:=⟨_,rfl⟩
   obtain ⟨NS,eN⟩:∃ E,lsN (F k).2.1 st=E:=⟨_,rfl⟩
   rw [eE,eR,eN] at cL J;rw [eN] at ap;have ab:Hid (F (k+1)=(E,NS,R)):=J;obtain ⟨op,a,b,kk,D,X⟩:=st;simp only [] at y0 y1 y2 y3 cL;have aw:=a_g y0;clear O J k1 k2 ao eE eR eN z0 z1 z2 z3 z4 z5 H af;go_wp2_with fail
   generalize ar:World.alloc _ _=W2;have ac:Hid (Below wr.heap.size wr W2):=by rw [<- ar];exact a_b wr _
   clear ar y0 y1 y2 y3 y4 y5 aw;refine (cL.out W2 ac.out).mono ?_;rintro e w3 ⟨rfl,an,ai,am,au⟩;have aa:Hid (TapC w3 B I NS/\Below B M w3/\Only SC M w3/\Spar2 I M w3):=⟨an,L.out.2.2.2.1.trans ((ac.out.mono HZ.out).trans ai),L.out.2.2.2.2.1.trans ((Only.of ac.out).trans am),Spar2.trans L.out.2.2.2.2.2 (Spar2.trans (Spar2.of ac.out) au ac.out.size) L.out.2.2.2.2.1.1⟩
   clear an ai am au cL;by_cases hE:E=0
   case neg=>
    have aA:(E != 0)=true:=by simpa using hE
    have HE:Hid (F m=(E,NS,R)):=by
     have h4:=HF.out.2.2 (k+1) (by rw [ab.out];exact hE) (m - (k+1));rw [show k+1+(m - (k+1))=m by omega] at h4;show _=_;rw [h4,ab.out]
    have ae:Hid (Ending.returned (.tuple #[.int .i64 0,.int .i64 E]) = .returned (.tuple #[.int .i64 LR,.int .i64 (F m).1])/\TapC w3 B I (F m).2.1/\Below B M w3/\Only SC M w3/\Spar2 I M w3):=by
     show _/\_;have e1:(F m).1=E:=by rw [HE.out]
     have e2:=aq.out;rw [if_neg (by rw [e1];exact hE)] at e2;rw [<- e2,e1];refine ⟨rfl,?_,aa.out.2⟩;rw [HE.out];exact aa.out.1
    clear HE aa ab L;go_wp2;exact bodyPost_ret (v:=.tuple #[.int .i64 0,.int .i64 E]) (by simp [results,Tryz.results63,go_sem]) rfl ae.out
   subst hE
   have HN:Hid ((F (k+1)).1=0/\TapC w3 B I (F (k+1)).2.1/\NodesG (F (k+1)).2.1/\Below B M w3/\Only SC M w3/\Spar2 I M w3):=by
    show _/\_;rw [ab.out];exact ⟨rfl,aa.out.1,ap.out,aa.out.2⟩
   have HL:Hid ((F (k+1)).2.2=R):=by show _=_;rw [ab.out]
   clear aa L ab;go_wp2;go_roundg (m - (k+1))
   case measure=>omega
   case rel=>exact ⟨k+1,by omega,rfl,by rw [HL.out],by first|rfl|simp,HN⟩
  ·obtain rfl:k=m:=by omega
   have ae:Hid (Ending.returned (.tuple #[.int .i64 (F k).2.2,.int .i64 0]) = .returned (.tuple #[.int .i64 LR,.int .i64 (F k).1])/\TapC wr B I (F k).2.1/\Below B M wr/\Only SC M wr/\Spar2 I M wr):=by
    show _/\_;have e2:=aq.out;rw [if_pos L.out.1] at e2;rw [<- e2,L.out.1];exact ⟨rfl,L.out.2.1,L.out.2.2.2⟩
   go_wp2;exact bodyPost_ret (v:=.tuple #[.int .i64 (F k).2.2,.int .i64 0]) (by simp [results,Tryz.results63,go_sem]) rfl ae.out
end Go.Proofs.YtjlofobnmjompaaGreatDoor.Wd
