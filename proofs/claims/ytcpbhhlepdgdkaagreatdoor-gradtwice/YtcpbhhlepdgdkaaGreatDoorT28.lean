/- Examples' gradients, summed. · The code' -/
import Derived.Test.YtcpbhhlepdgdkaaGreatDoorT27
set_option linter.unusedVariables false
set_option linter.unusedSimpArgs false
set_option maxHeartbeats 16000000
set_option maxRecDepth 16000
namespace Go.Proofs.YtcpbhhlepdgdkaaGreatDoor.Wd
open Go.RowKit Fx
theorem n_p {W:World} {B g n:Nat} {e:TypeId} {J:List Value} (h:W.ownsRow B e 2 (.slice (some ⟨g,0,none⟩) n n) n J):g < W.heap.size:=by
 rcases h.2 with ⟨D,_⟩|⟨q,E,H,D,L,I,_⟩
 ·cases D
 ·cases D;exact a_i I
theorem e_7 (W:World) (e:TypeId):LieA (W.alloc (.cells #[.int .i64 0,.int .u64 0] e)) W.heap.size 0 0:=by
 refine ⟨by unfold World.alloc;simp,by simp [go_sem],by simp [go_sem],?_,?_⟩ <;> unfold World.frozen? World.alloc <;> simp
/-- What Sum holds between two examples. -/
structure SumI (w:World) (b0 b1 b2:Nat) (va vb:Value) (F:Int) (W:World):Prop where
 c0:W.cell? ⟨b0,0,none⟩=some va
 c1:W.cell? ⟨b0,1,none⟩=some vb
 l1:LieA W b1 0 0
 l2:LieA W b2 0 F
 iw:InW F
 bel:Below w.heap.size w W
theorem SumI.up {w:World} {I J L:Nat} {E H:Value} {F:Int} {W W':World} (h:SumI w I J L E H F W) (D:Below W.heap.size W W'):SumI w I J L E H F W':=⟨keep D h.c0,keep D h.c1,h.l1.up D,h.l2.up D,h.iw,a_c h.bel D⟩
theorem SumI.stay {w:World} {E H I g:Nat} {J L:Value} {F:Int} {W W':World} (h:SumI w E H I J L F W) (D:Stay g W W') (R:Below g W W') (M:E < g) (U:H < g) (O:I < g) (V:w.heap.size<=g):SumI w E H I J L F W':=⟨D.cell h.c0 (Nat.ne_of_lt M),D.cell h.c1 (Nat.ne_of_lt M),h.l1.stay D (Nat.ne_of_lt U),h.l2.stay D (Nat.ne_of_lt O),h.iw,h.bel.trans (R.mono V)⟩
theorem SumI.put {w:World} {E H D:Nat} {I J:Value} {F y yh yl:Int} {W:World} (h:SumI w E H D I J F W) (L:E < D) (O:H < D) (M:w.heap.size<=D) (R:InW y) (e:wd y = .agg #[.int .i64 yh,.int .u64 yl]):SumI w E H D I J y ((W.setCell ⟨D,0,none⟩ (.int .i64 yh)).setCell ⟨D,0+1,none⟩ (.int .u64 yl)):=by
 have s:Stay D W ((W.setCell ⟨D,0,none⟩ (.int .i64 yh)).setCell ⟨D,0+1,none⟩ (.int .u64 yl)):=((Stay.refl _ _).set _ _).set _ _;unfold wd at e;simp only [Value.agg.injEq,Array.mk.injEq,List.cons.injEq,Value.int.injEq,true_and,and_true] at e;exact ⟨s.cell h.c0 (Nat.ne_of_lt L),s.cell h.c1 (Nat.ne_of_lt L),h.l1.stay s (Nat.ne_of_lt O),h.l2.set e.1.symm e.2.symm,R,(h.bel.setCell (p:=⟨D,0,none⟩) M _).setCell (p:=⟨D,0+1,none⟩) M _⟩
/-- The sums so far: none yet, or a row in a block of its own. -/
def SumV (B n j:Nat) (S:List Int) (v:Value) (W:World):Prop:=if j=0 then v = .slice none 0 0 else ∃ g,v = .slice (some ⟨g,0,none⟩) n n/\B < g/\g < W.heap.size/\WRow W g n S
theorem SumV.zero (B n:Nat) (S:List Int) (W:World):SumV B n 0 S (.slice none 0 0) W:=by
 unfold SumV;rw [if_pos rfl]
theorem SumV.up {B n j:Nat} {S:List Int} {v:Value} {W W':World} (h:SumV B n j S v W) (D:Below W.heap.size W W'):SumV B n j S v W':=by
 unfold SumV at h ⊢
 split
 ·rename_i e
  rwa [if_pos e] at h
 ·rename_i e
  rw [if_neg e] at h;obtain ⟨g,a,b,c,d⟩:=h;exact ⟨g,a,b,Nat.lt_of_lt_of_le c D.size,d.up D⟩
theorem o_6 (w:World) (D E:Value) (H I J:TypeId):SumI w w.heap.size (w.heap.size+1) (w.heap.size+1+1) D E 0 (((w.alloc (.cells #[D,E] H)).alloc (.cells #[.int .i64 0,.int .u64 0] I)).alloc (.cells #[.int .i64 0,.int .u64 0] J)):=by
 have L:(w.alloc (.cells #[D,E] H)).heap.size=w.heap.size+1:=by unfold World.alloc;simp
 have M:((w.alloc (.cells #[D,E] H)).alloc (.cells #[.int .i64 0,.int .u64 0] I)).heap.size=w.heap.size+1+1:=by unfold World.alloc;simp
 refine ⟨by simp [go_sem],by simp [go_sem],?_,?_,by unfold InW;omega,g_f (g_f (a_b w _) _) _⟩
 ·have:=e_7 (w.alloc (.cells #[D,E] H)) I;rw [L] at this;exact this.up (a_b _ _)
 ·have:=e_7 ((w.alloc (.cells #[D,E] H)).alloc (.cells #[.int .i64 0,.int .u64 0] I)) J;rw [M] at this;exact this
theorem j_j (d:List Int) (ls:List Ly) (h0:nE d ls=0) (ae:nP d ls<=1048576) (p R:Option Addr) (n c M c2:Nat) (O:M<=1048576) (w:World) (hK:Hid (Kz w)) (ad:Nums .i64 w (.slice p n c) d) (ac:LyR 0 w R M ls):
  Calls Tryz.prog 17 #[.agg #[.slice p n c,.slice R M c2]] w fun e w'=>∃ g m,e = .returned (.tuple #[.slice (some ⟨g,0,none⟩) m m,.agg #[.int .i64 0,.int .u64 0],.int .i64 0])/\WRow w' g m (List.replicate (nP d ls).toNat 0)/\Below w.heap.size w w'/\w.heap.size<=g/\g < w'.heap.size:=by
 haveI:Nonempty World:=⟨w⟩
 have HN:Hid (Nums .i64 w (.slice p n c) d/\LyR 0 w R M ls/\nE d ls=0/\0<=nP d ls/\nP d ls<=1048576/\M<=1048576):=⟨ad,ac,h0,p_H h0,ae,O⟩
 clear ad ac h0 ae O;obtain ⟨m,em⟩:=Int.eq_ofNat_of_zero_le HN.out.2.2.2.1;have hm:m<=1048576:=by have:=HN.out.2.2.2.2.1;omega
 rw [em,Int.toNat_natCast];obtain ⟨i0,hi,ag,ah,af⟩:=f_X;go_enter Tryz.func17,Tryz.ntmps17;go_wp2_with fail
 generalize U:World.alloc _ _=W0
 have H:Hid (Below w.heap.size w W0/\LieA W0 (w.heap.size+1) 0 0):=by
  rw [<- U];refine ⟨g_f (a_b w _) _,?_⟩;have:=e_7 (w.alloc (.cells #[.slice p n c,.slice R M c2] 25)) 38;rw [show (w.alloc (.cells #[.slice p n c,.slice R M c2] 25)).heap.size=w.heap.size+1 by unfold World.alloc;simp] at this;exact this
 obtain ⟨g0,g1⟩:W0.cell? ⟨w.heap.size,0,none⟩=some (.slice p n c)/\W0.cell? ⟨w.heap.size,1,none⟩=some (.slice R M c2):=by rw [<- U];simp [go_sem]
 clear U;have cc:=k_Z p R n c M c2 d ls (by have:=HN.out.2.2.2.2.2;omega) W0 (Hid.up_kz hK H.out.1) (HN.out.1.up H.out.1) (HN.out.2.1.up H.out.1);rw [HN.out.2.2.1,em] at cc;refine cc.mono ?_;rintro e E ⟨rfl,aa⟩;have H1:Hid (Below w.heap.size w E/\LieA E (w.heap.size+1) 0 0):=⟨a_c H.out.1 aa,H.out.2.up aa⟩
 clear cc aa H g0 g1 HN em;go_wp2_with (at_make;refine wpList_make_full E rfl (.tmp 16) (.tmp 16) 35 rfl E.heap.size 38 i0 _ 2 Tryz.underlying35 hi ag ah .i64 .i64 m m m rfl rfl rfl rfl (by rw [af];omega) (by unfold maxLen;omega) (Nat.le_refl _) ?_;intro w3 L I;have B3:Below E.heap.size E w3:=Below.grown (Below.refl _ _) I (Nat.le_refl _) (fun j hj=>by cases hj);have H3:Hid (WRow w3 E.heap.size m (List.replicate m 0)):=e_I L;have J:E.heap.size < w3.heap.size:=n_p L;clear L I;have L3:=H1.out.2.up B3;have V:Hid (WRow w3 E.heap.size m (List.replicate m 0)/\Below w.heap.size w w3/\LieA w3 (w.heap.size+1) 0 0/\w.heap.size+1 < E.heap.size/\E.heap.size < w3.heap.size):=⟨H3.out,a_c H1.out.1 B3,L3,H1.out.2.1,J⟩;obtain ⟨a0,a1,a2,a3,a4⟩:=L3;simp only [Nat.zero_add,show (0:Int) / 18446744073709551616=0 from rfl,show (0:Int) % 18446744073709551616=0 from rfl] at a1 a2 a4;clear B3 H3 J H1)
 have L5:=V.out.2.2.1.set (y:=0) (yh:=0) (yl:=0) rfl rfl;obtain ⟨_,y0,y1,_,_⟩:=L5;have hs:Stay (w.heap.size+1) w3 ((w3.setCell ⟨w.heap.size+1,0,none⟩ (.int .i64 0)).setCell ⟨w.heap.size+1,0+1,none⟩ (.int .u64 0)):=((Stay.refl _ _).set _ _).set _ _;have H6:Hid (WRow ((w3.setCell ⟨w.heap.size+1,0,none⟩ (.int .i64 0)).setCell ⟨w.heap.size+1,0+1,none⟩ (.int .u64 0)) E.heap.size m (List.replicate m 0)/\Below w.heap.size w ((w3.setCell ⟨w.heap.size+1,0,none⟩ (.int .i64 0)).setCell ⟨w.heap.size+1,0+1,none⟩ (.int .u64 0))/\w.heap.size<=E.heap.size/\E.heap.size < ((w3.setCell ⟨w.heap.size+1,0,none⟩ (.int .i64 0)).setCell ⟨w.heap.size+1,0+1,none⟩ (.int .u64 0)).heap.size):=⟨V.out.1.stay hs (by have:=V.out.2.2.2.1;omega),(V.out.2.1.setCell (p:=⟨w.heap.size+1,0,none⟩) (by show _<=w.heap.size+1;omega) _).setCell (p:=⟨w.heap.size+1,0+1,none⟩) (by show _<=w.heap.size+1;omega) _,by have:=V.out.2.2.2.1;omega,Nat.lt_of_lt_of_le V.out.2.2.2.2 hs.size⟩
 simp only [Nat.zero_add,show (0:Int) / 18446744073709551616=0 from rfl,show (0:Int) % 18446744073709551616=0 from rfl] at y0 y1 H6;clear hs V;exact bodyPost_ret (v:=.tuple #[.slice (some ⟨E.heap.size,0,none⟩) m m,.agg #[.int .i64 0,.int .u64 0],.int .i64 0]) (by simp [results,Tryz.results17,go_sem,y0,y1]) rfl ⟨_,_,rfl,H6.out.1,H6.out.2.1,H6.out.2.2.1,H6.out.2.2.2⟩
theorem t_E {d:List Int} {ls:List Ly} {P:List Int} (hO:OfC d ls P) (hC:PlC d ls P):SumD d ls P:=by
 intro h0 k l p p2 pp pl n c V c2 np cp U cl aB a9 hl aV w hT hK aS aR hp he;haveI:Nonempty World:=⟨w⟩
 have aF:P.length=np:=by
  obtain ⟨_,_,_,e,h⟩:=hp.1.lst;cases e;exact h.out.1
 have HN:Hid (Nums .i64 w (.slice p n c) d/\LyR 0 w p2 V ls/\RowI w pp np cp P/\ExR w pl U l/\nE d ls=0/\nP d ls<=1048576):=⟨aS,aR,hp,he,h0,aV⟩
 have HG:Hid (∀ j,j < U->GfO np (h_i d ls k P (exA l j))/\((h_i d ls k P (exA l j)).1=0->np=(nP d ls).toNat)):=fun j hj=>by
  obtain ⟨q,o,e,px,nx,cx,py,ny,cy,_,_,_,_,rx,ry⟩:=he.2 j hj;refine ⟨?_,fun h=>?_⟩
  ·rw [<- aF];exact r_j hC hp.2.1 rx.2.1 ry.2.1
  ·rw [<- aF];exact r_i h0 h
 have CO:Hid (OfC d ls P):=hO;obtain ⟨T,eT⟩:∃ T,n_C d ls k P l=T:=⟨_,rfl⟩
 obtain ⟨NP,aI⟩:∃ N,(nP d ls).toNat=N:=⟨_,rfl⟩
 have HT:Hid (smK (h_i d ls k P) NP l U=T/\(nP d ls).toNat=NP/\l.length=U):=⟨by rw [<- eT,<- he.1,<- aI];rfl,aI,he.1⟩
 rw [eT];clear eT aI aS aR hp he hO hC h0 aV aF;obtain ⟨i0,hi,bg,bh,a7⟩:=f_X;go_enter Tryz.func8,Tryz.ntmps8;by_cases hz:U=0
 ·subst hz;have et:T=(0,List.replicate NP 0,0):=HT.out.1.symm;subst et;go_wp2_with fail
  generalize aE:World.alloc _ _=W0
  have aa:Hid (Below w.heap.size w W0/\LieA W0 (w.heap.size+1) 0 0):=by
   rw [<- aE];refine ⟨g_f (a_b w _) _,?_⟩;have:=e_7 (w.alloc (.cells #[.slice p n c,.slice p2 V c2] 25)) 38;rw [show (w.alloc (.cells #[.slice p n c,.slice p2 V c2] 25)).heap.size=w.heap.size+1 by unfold World.alloc;simp] at this;exact this
  obtain ⟨g0,g1⟩:W0.cell? ⟨w.heap.size,0,none⟩=some (.slice p n c)/\W0.cell? ⟨w.heap.size,1,none⟩=some (.slice p2 V c2):=by rw [<- aE];simp [go_sem]
  have kg:=a_g g0;clear aE;refine (j_j d ls HN.out.2.2.2.2.1 HN.out.2.2.2.2.2 p p2 n c V c2 aB W0 (Hid.up_kz hK aa.out.1) (HN.out.1.up aa.out.1) (HN.out.2.1.up aa.out.1)).mono ?_;rintro e w1 ⟨gs,m,rfl,aJ,O,bm,bf⟩;rw [HT.out.2.1] at aJ;obtain ⟨a0,a1,a2,a3,a4⟩:=aa.out.2.up O;obtain ⟨_,y0,y1,_,_⟩:=(aa.out.2.up O).set (y:=0) (yh:=0) (yl:=0) rfl rfl;have hs:Stay (w.heap.size+1) w1 ((w1.setCell ⟨w.heap.size+1,0,none⟩ (.int .i64 0)).setCell ⟨w.heap.size+1,0+1,none⟩ (.int .u64 0)):=((Stay.refl _ _).set _ _).set _ _;have bk:=aa.out.2.1;have L:Hid (WRow ((w1.setCell ⟨w.heap.size+1,0,none⟩ (.int .i64 0)).setCell ⟨w.heap.size+1,0+1,none⟩ (.int .u64 0)) gs m (List.replicate NP 0)/\(w.heap.size<=gs/\gs < ((w1.setCell ⟨w.heap.size+1,0,none⟩ (.int .i64 0)).setCell ⟨w.heap.size+1,0+1,none⟩ (.int .u64 0)).heap.size)/\Below w.heap.size w ((w1.setCell ⟨w.heap.size+1,0,none⟩ (.int .i64 0)).setCell ⟨w.heap.size+1,0+1,none⟩ (.int .u64 0))):=⟨aJ.stay hs (by omega),⟨by omega,Nat.lt_of_lt_of_le bf hs.size⟩,((a_c aa.out.1 O).setCell (p:=⟨w.heap.size+1,0,none⟩) (by show _<=w.heap.size+1;omega) _).setCell (p:=⟨w.heap.size+1,0+1,none⟩) (by show _<=w.heap.size+1;omega) _⟩
  simp only [Nat.zero_add,show (0:Int) / 18446744073709551616=0 from rfl,show (0:Int) % 18446744073709551616=0 from rfl] at a1 a2 a4 y0 y1 L;clear hs aJ O g0 g1 aa kg;go_wp2;exact bodyPost_ret (v:=.tuple #[.slice (some ⟨gs,0,none⟩) m m,.agg #[.int .i64 0,.int .u64 0],.int .i64 0]) (by simp [results,Tryz.results8,go_sem,y0,y1]) rfl ⟨_,by rw [j_h],L.out.1.wrd,L.out.2.2,fun ad m' c' e=>by cases e;exact L.out.2.1⟩
 have ba:¬ ((U:Int)=0):=by omega
 have bn:((U:Int)==0)=false:=by simpa using ba
 go_wp2_with fail
 generalize aX:World.alloc _ _=W1
 have bb:Hid (SumI w w.heap.size (w.heap.size+1) (w.heap.size+1+1) (.slice p n c) (.slice p2 V c2) 0 W1):=by
  rw [<- aX];exact o_6 w _ _ _ _ _
 clear aX
 go_loopg [11,28] U (fun gg sv i wr=>∃ (j:Nat) (S:List Int) (F:Int),j<=U/\gg=U - j/\i = .int .i64 (j:Int)/\Hid (smK (h_i d ls k P) NP l j=(0,S,F))/\Hid (SumV (w.heap.size+1+1) np j S sv wr)/\Hid (SumI w w.heap.size (w.heap.size+1) (w.heap.size+1+1) (.slice p n c) (.slice p2 V c2) F wr))
 case atStart=>exact ⟨0,_,_,by omega,by omega,by first|rfl|simp,show Hid _ from rfl,SumV.zero _ _ _ _,bb⟩
 case round=>
  obtain ⟨j,S,F,hj,hg,rfl,HS,HV,HI⟩:=hrel;obtain ⟨R1,a6⟩:∃ R1:World,R1=wr:=⟨_,rfl⟩
  subst a6;by_cases aQ:j < U
  ·have bj:(j:Int) < (U:Int):=by omega
   obtain ⟨⟨X,y,aN⟩,eX⟩:∃ e,exA l j=e:=⟨_,rfl⟩
   have aj:=HG.out j aQ;obtain ⟨q,o,rfl,px,nx,cx,py,ny,cy,c0,c1,aM,aW,rx,ry⟩:=(HN.out.2.2.2.1.up HI.out.bel).2 j aQ;rw [eX] at aM aW rx ry aj;obtain ⟨⟨E,H,I⟩,ax⟩:∃ T1,gof d ls k P X y aN=T1:=⟨_,rfl⟩
   have aU:h_i d ls k P (exA l j)=(E,H,I):=by rw [eX];exact ax
   rw [show h_i d ls k P (X,y,aN)=(E,H,I) from ax] at aj;have ak:Hid (GfO np (E,H,I)/\(E=0->np=NP)):=⟨aj.1,fun h=>by rw [<- HT.out.2.1];exact aj.2 h⟩
   have aP:Hid (smK (h_i d ls k P) NP l (j+1)=if E=0 then (0,e_O S H,wr (F+I)) else (E,[],0)):=by
    show _=_;rw [smK,HS.out,if_pos rfl,aU]
   have HX:Hid (RowI R1 px nx cx X/\RowI R1 py ny cy y):=⟨rx,ry⟩
   have kq:=a_a c0;have g0:=HI.out.c0;have g1:=HI.out.c1;have kg:=a_g g0;dsimp only at aM;clear rx ry eX aU aj aW;go_wp2_with fail
   generalize aY:World.alloc _ _=K1;have ai:Below R1.heap.size R1 K1:=by rw [<- aY];exact a_b R1 _
   have O:=a_c HI.out.bel ai;have cc:=CO.out k X y aN p p2 pp px py n c V c2 np cp nx cx ny cy aB a9 K1 (Hid.up_tz hT O) (Hid.up_kz hK O) (HN.out.1.up O) (HN.out.2.1.up O) (HN.out.2.2.1.up O) (HX.out.1.up ai) (HX.out.2.up ai);rw [ax] at cc;have H1:Hid (SumI w w.heap.size (w.heap.size+1) (w.heap.size+1+1) (.slice p n c) (.slice p2 V c2) F K1/\SumV (w.heap.size+1+1) np j S u11 K1):=⟨HI.out.up ai,HV.out.up ai⟩
   clear aY ai O ax c0 c1 aM kq g0 g1 kg HX HI HV;refine cc.mono ?_;rintro e M ⟨v4,rfl,az,aH⟩;obtain ⟨p4,J,c4,rfl⟩:=az.form_;have H4:Hid (SumI w w.heap.size (w.heap.size+1) (w.heap.size+1+1) (.slice p n c) (.slice p2 V c2) F M/\SumV (w.heap.size+1+1) np j S u11 M/\OwnK .i64 48 M K1.heap.size (.slice p4 J c4) H/\SumV (w.heap.size+1+1) np j S u11 K1/\w.heap.size+1+1 < K1.heap.size):=⟨H1.out.1.up aH,H1.out.2.up aH,az,H1.out.2,H1.out.1.l2.1⟩
   have aG:H.length=J:=by
    obtain ⟨_,_,_,e,h⟩:=az.nums.lst;cases e;exact h.out.1
   clear cc az aH H1;dsimp only;by_cases hE:E=0
   case neg=>
    have et:T=(E,[],0):=by
     have h1:=aP.out;rw [if_neg hE] at h1;rw [<- HT.out.1];have h2:=h_j (h_i d ls k P) NP l (j+1) (by rw [h1];exact hE) (U - (j+1));rw [show j+1+(U - (j+1))=U by omega] at h2;rw [h2,h1]
    subst et;have bl:(E != 0)=true:=by simpa using hE
    obtain ⟨a0,a1,a2,a3,a4⟩:=H4.out.1.l1;obtain ⟨_,y0,y1,_,_⟩:=H4.out.1.l1.set (y:=0) (yh:=0) (yl:=0) rfl rfl;have L:Hid (Below w.heap.size w ((M.setCell ⟨w.heap.size+1,0,none⟩ (.int .i64 0)).setCell ⟨w.heap.size+1,0+1,none⟩ (.int .u64 0))):=(H4.out.1.bel.setCell (p:=⟨w.heap.size+1,0,none⟩) (by show _<=w.heap.size+1;omega) _).setCell (p:=⟨w.heap.size+1,0+1,none⟩) (by show _<=w.heap.size+1;omega) _;simp only [Nat.zero_add,show (0:Int) / 18446744073709551616=0 from rfl,show (0:Int) % 18446744073709551616=0 from rfl] at a1 a2 a4 y0 y1 L;clear H4 aG;go_wp2;exact bodyPost_ret (v:=.tuple #[.slice none 0 0,.agg #[.int .i64 0,.int .u64 0],.int .i64 E]) (by simp [results,Tryz.results8,go_sem,y0,y1]) rfl ⟨_,by rw [j_h],⟨none,0,0,rfl,WdR.nil _ _⟩,L.out,fun ad m' c' e=>by cases e⟩
   subst hE;have bd:J=np:=by rw [<- aG];exact ak.out.1.1 rfl
   subst bd;have ay:Hid (smK (h_i d ls k P) NP l (j+1)=(0,e_O S H,wr (F+I))):=aP.out.trans (if_pos rfl);have ah:Hid (RI H/\InR I/\J=NP):=⟨ak.out.1.2.1,ak.out.1.2.2,ak.out.2 rfl⟩
   clear aP ak aG;by_cases aZ:j=0
   ·subst aZ
    have eS:S=List.replicate J 0:=by
     have:=HS.out;rw [smK] at this;cases this;rw [ah.out.2.2]
    subst eS;clear HS;go_wp2_with (at_make;refine wpList_make_full M rfl (.tmp 49) (.tmp 49) 35 rfl M.heap.size 38 i0 _ 2 Tryz.underlying35 hi bg bh .i64 .i64 J J J rfl rfl rfl rfl (by rw [a7];omega) (by unfold maxLen;omega) (Nat.le_refl _) ?_;intro w5 ao an;have B5:Below M.heap.size M w5:=Below.grown (Below.refl _ _) an (Nat.le_refl _) (fun j hj=>by cases hj);have H5:Hid (WRow w5 M.heap.size J (List.replicate J 0)):=e_I ao;have au:M.heap.size < w5.heap.size:=n_p ao;clear ao an)
    have HA:Hid (WRow w5 M.heap.size J (List.replicate J 0)/\(∀ W',Stay M.heap.size w5 W'->Nums .i64 W' (.slice p4 J c4) H)/\SumI w w.heap.size (w.heap.size+1) (w.heap.size+1+1) (.slice p n c) (.slice p2 V c2) F w5/\w.heap.size+1+1 < M.heap.size/\M.heap.size < w5.heap.size):=⟨H5.out,fun W' hs=>((H4.out.2.2.1.up B5).stay hs (H4.out.2.2.1.off_new (Nat.le_refl _))).nums,H4.out.1.up B5,H4.out.1.l2.1,au⟩
    clear H4 H5 B5 au;go_wp2_with fail
    refine (g_y M.heap.size J (List.replicate J 0) H (by omega) p4 c4 ah.out.1 w5 HA.out.1 HA.out.2.1).mono ?_;rintro e w6 ⟨rfl,ar,ac,aw⟩;have am:=HA.out.2.2.2.1;have L:Hid (SumI w w.heap.size (w.heap.size+1) (w.heap.size+1+1) (.slice p n c) (.slice p2 V c2) F w6/\WRow w6 M.heap.size J (e_O (List.replicate J 0) H)/\w.heap.size+1+1 < M.heap.size):=⟨HA.out.2.2.1.stay ac aw (by omega) (by omega) (by omega) (by omega),ar,am⟩
    have aD:Hid (M.heap.size < w6.heap.size):=Nat.lt_of_lt_of_le HA.out.2.2.2.2 ac.size;clear ar ac aw HA am;have wF:=L.out.1.iw;obtain ⟨f1,e1⟩:∃ x,F / 18446744073709551616=x:=⟨_,rfl⟩
    obtain ⟨f2,e2⟩:∃ x,F % 18446744073709551616=x:=⟨_,rfl⟩
    obtain ⟨v1,e3⟩:∃ x,I / 18446744073709551616=x:=⟨_,rfl⟩
    obtain ⟨v2,e4⟩:∃ x,I % 18446744073709551616=x:=⟨_,rfl⟩
    obtain ⟨s_,es⟩:∃ s,Wd.wr (F+I)=s:=⟨_,rfl⟩
    obtain ⟨s1,e5⟩:∃ x,s_ / 18446744073709551616=x:=⟨_,rfl⟩
    obtain ⟨s2,e6⟩:∃ x,s_ % 18446744073709551616=x:=⟨_,rfl⟩
    have af:wd s_ = .agg #[.int .i64 s1,.int .u64 s2]:=by unfold wd;rw [e5,e6]
    have cO:Hid (∀ W,Below w6.heap.size w6 W->Calls Tryz.prog 19 #[.int .i64 I] W fun e w'=>e = .returned (.agg #[.int .i64 v1,.int .u64 v2])/\Below W.heap.size W w'):=fun W _=>by
     have:=of_any I ah.out.2.1 W;unfold wd at this;rw [e3,e4] at this;exact this
    have cA:Hid (∀ W,Below w6.heap.size w6 W->Calls Tryz.prog 11 #[.agg #[.int .i64 f1,.int .u64 f2],.agg #[.int .i64 v1,.int .u64 v2]] W fun e w'=>e = .returned (.agg #[.int .i64 s1,.int .u64 s2])/\Below W.heap.size W w'):=fun W _=>by
     have:=Wd.add_any F I wF (InR.w ah.out.2.1) W;rw [es,af] at this;unfold wd at this;rw [e1,e2,e3,e4] at this;exact this
    have ab:Hid (smK (h_i d ls k P) NP l (0+1)=(0,e_O (List.replicate J 0) H,s_)/\InW s_/\wd s_ = .agg #[.int .i64 s1,.int .u64 s2]):=⟨by rw [ay.out,es],by rw [<- es];exact d_d _,af⟩
    obtain ⟨kb,l0,l1,_,_⟩:=L.out.1.l2;rw [e1] at l0;rw [e2] at l1;simp only [Nat.zero_add] at l1;clear e1 e2 e3 e4 e5 e6 es af wF ay;go_wp2_with fail
    refine rel [] 4 61 (by kernel_rfl) rfl rfl (by kernel_rfl) (by rfl) ?_ ?_
    ·intro e he;simp at he
    apply Exists.intro;refine ⟨fun x=>?_,?_,?_⟩
    ·simp only [List.take_succ_cons,List.take_zero]
     iterate 2
      refine a_l rfl rfl ?_;apply Exists.intro;refine ⟨fun F hF hf K hK=>?_,?_⟩
      ·have hFc:=hF.cell;have hFf:=hF.frozen
       go_big_quiet_op
       first|exact hK|(apply Exists.intro;refine ⟨fun _=>?_,?_⟩;(· fail);exact hK)
      (try simp only [Act.put,sA_,sB_,sC_])
     refine a_l rfl rfl ?_;apply Exists.intro;refine ⟨fun F hF hf K hK=>?_,?_⟩
     ·have hFc:=hF.cell;have hFf:=hF.frozen
      go_big_quiet_op
      first|exact hK|(apply Exists.intro;refine ⟨fun _=>?_,?_⟩;(· exact hF.call (cO.out _ (hF.below _)));exact hK)
     (try simp only [Act.put,sA_,sB_,sC_])
     refine a_l rfl rfl ?_;apply Exists.intro;refine ⟨fun F hF hf K hK=>?_,?_⟩
     ·have hFc:=hF.cell;have hFf:=hF.frozen
      go_big_quiet_op
      first|exact hK|(apply Exists.intro;refine ⟨fun _=>?_,?_⟩;(· exact hF.call (cA.out _ (hF.below _)));exact hK)
     (try simp only [Act.put,sA_,sB_,sC_])
     refine b_c ?_;exact rfl
    ·intro x;simp only [b_l,List.foldl_nil]
    ·intro w9 xs R hf;simp only [List.drop_succ_cons,List.drop_zero];have H9:Hid (SumI w w.heap.size (w.heap.size+1) (w.heap.size+1+1) (.slice p n c) (.slice p2 V c2) F w9/\WRow w9 M.heap.size J (e_O (List.replicate J 0) H)):=⟨L.out.1.up R,L.out.2.1.up R⟩
     have ae:Stay (w.heap.size+1+1) w9 ((w9.setCell ⟨w.heap.size+1+1,0,none⟩ (.int .i64 s1)).setCell ⟨w.heap.size+1+1,0+1,none⟩ (.int .u64 s2)):=((Stay.refl _ _).set _ _).set _ _
     have ag:Hid (SumV (w.heap.size+1+1) J (0+1) (e_O (List.replicate J 0) H) (.slice (some ⟨M.heap.size,0,none⟩) J J) ((w9.setCell ⟨w.heap.size+1+1,0,none⟩ (.int .i64 s1)).setCell ⟨w.heap.size+1+1,0+1,none⟩ (.int .u64 s2))/\SumI w w.heap.size (w.heap.size+1) (w.heap.size+1+1) (.slice p n c) (.slice p2 V c2) s_ ((w9.setCell ⟨w.heap.size+1+1,0,none⟩ (.int .i64 s1)).setCell ⟨w.heap.size+1+1,0+1,none⟩ (.int .u64 s2))):=⟨by
      unfold SumV;rw [if_neg (by omega)];exact ⟨_,rfl,L.out.2.2,Nat.lt_of_lt_of_le aD.out (Nat.le_trans R.size ae.size),H9.out.2.stay ae (by have:=L.out.2.2;omega)⟩,H9.out.1.put (by omega) (by omega) (by omega) ab.out.2.1 ab.out.2.2⟩
     obtain ⟨a5,a8,aL,be,aK⟩:=H9.out.1.l2;simp only [Nat.zero_add] at ag aL aK;clear hf R ae l0 l1 kb H9 L cO cA;go_wp2;go_roundg (U - (0+1))
     case measure=>omega
     case rel=>exact ⟨0+1,_,_,by omega,rfl,by first|rfl|simp,ab.out.1,ag.out.1,ag.out.2⟩
   ·have bi:¬ ((j:Int)=0):=by omega
    have hV:=H4.out.2.1;have aO:=H4.out.2.2.2.1;unfold SumV at hV aO;rw [if_neg aZ] at hV aO;obtain ⟨G,eG,hG,aq,hW⟩:=hV;obtain ⟨G',bc,_,aA,_⟩:=aO;subst eG;cases bc;have HA:Hid (WRow M G J S/\(∀ W',Stay G M W'->Nums .i64 W' (.slice p4 J c4) H)/\SumI w w.heap.size (w.heap.size+1) (w.heap.size+1+1) (.slice p n c) (.slice p2 V c2) F M/\w.heap.size+1+1 < G/\G < M.heap.size):=⟨hW,fun W' hs=>(H4.out.2.2.1.stay hs (H4.out.2.2.1.off aA)).nums,H4.out.1,hG,aq⟩
    clear H4 hW hG aq aA HS;go_wp2_with fail
    refine (g_y G J S H (by omega) p4 c4 ah.out.1 M HA.out.1 HA.out.2.1).mono ?_;rintro e w6 ⟨rfl,ar,ac,aw⟩;have am:=HA.out.2.2.2.1;have L:Hid (SumI w w.heap.size (w.heap.size+1) (w.heap.size+1+1) (.slice p n c) (.slice p2 V c2) F w6/\WRow w6 G J (e_O S H)/\w.heap.size+1+1 < G):=⟨HA.out.2.2.1.stay ac aw (by omega) (by omega) (by omega) (by omega),ar,am⟩
    have aD:Hid (G < w6.heap.size):=Nat.lt_of_lt_of_le HA.out.2.2.2.2 ac.size;clear ar ac aw HA am;have wF:=L.out.1.iw;obtain ⟨f1,e1⟩:∃ x,F / 18446744073709551616=x:=⟨_,rfl⟩
    obtain ⟨f2,e2⟩:∃ x,F % 18446744073709551616=x:=⟨_,rfl⟩
    obtain ⟨v1,e3⟩:∃ x,I / 18446744073709551616=x:=⟨_,rfl⟩
    obtain ⟨v2,e4⟩:∃ x,I % 18446744073709551616=x:=⟨_,rfl⟩
    obtain ⟨s_,es⟩:∃ s,Wd.wr (F+I)=s:=⟨_,rfl⟩
    obtain ⟨s1,e5⟩:∃ x,s_ / 18446744073709551616=x:=⟨_,rfl⟩
    obtain ⟨s2,e6⟩:∃ x,s_ % 18446744073709551616=x:=⟨_,rfl⟩
    have af:wd s_ = .agg #[.int .i64 s1,.int .u64 s2]:=by unfold wd;rw [e5,e6]
    have cO:Hid (∀ W,Below w6.heap.size w6 W->Calls Tryz.prog 19 #[.int .i64 I] W fun e w'=>e = .returned (.agg #[.int .i64 v1,.int .u64 v2])/\Below W.heap.size W w'):=fun W _=>by
     have:=of_any I ah.out.2.1 W;unfold wd at this;rw [e3,e4] at this;exact this
    have cA:Hid (∀ W,Below w6.heap.size w6 W->Calls Tryz.prog 11 #[.agg #[.int .i64 f1,.int .u64 f2],.agg #[.int .i64 v1,.int .u64 v2]] W fun e w'=>e = .returned (.agg #[.int .i64 s1,.int .u64 s2])/\Below W.heap.size W w'):=fun W _=>by
     have:=Wd.add_any F I wF (InR.w ah.out.2.1) W;rw [es,af] at this;unfold wd at this;rw [e1,e2,e3,e4] at this;exact this
    have ab:Hid (smK (h_i d ls k P) NP l (j+1)=(0,e_O S H,s_)/\InW s_/\wd s_ = .agg #[.int .i64 s1,.int .u64 s2]):=⟨by rw [ay.out,es],by rw [<- es];exact d_d _,af⟩
    obtain ⟨kb,l0,l1,_,_⟩:=L.out.1.l2;rw [e1] at l0;rw [e2] at l1;simp only [Nat.zero_add] at l1;clear e1 e2 e3 e4 e5 e6 es af wF ay;go_wp2_with fail
    refine rel [] 4 61 (by kernel_rfl) rfl rfl (by kernel_rfl) (by rfl) ?_ ?_
    ·intro e he;simp at he
    apply Exists.intro;refine ⟨fun x=>?_,?_,?_⟩
    ·simp only [List.take_succ_cons,List.take_zero]
     iterate 2
      refine a_l rfl rfl ?_;apply Exists.intro;refine ⟨fun F hF hf K hK=>?_,?_⟩
      ·have hFc:=hF.cell;have hFf:=hF.frozen
       go_big_quiet_op
       first|exact hK|(apply Exists.intro;refine ⟨fun _=>?_,?_⟩;(· fail);exact hK)
      (try simp only [Act.put,sA_,sB_,sC_])
     refine a_l rfl rfl ?_;apply Exists.intro;refine ⟨fun F hF hf K hK=>?_,?_⟩
     ·have hFc:=hF.cell;have hFf:=hF.frozen
      go_big_quiet_op
      first|exact hK|(apply Exists.intro;refine ⟨fun _=>?_,?_⟩;(· exact hF.call (cO.out _ (hF.below _)));exact hK)
     (try simp only [Act.put,sA_,sB_,sC_])
     refine a_l rfl rfl ?_;apply Exists.intro;refine ⟨fun F hF hf K hK=>?_,?_⟩
     ·have hFc:=hF.cell;have hFf:=hF.frozen
      go_big_quiet_op
      first|exact hK|(apply Exists.intro;refine ⟨fun _=>?_,?_⟩;(· exact hF.call (cA.out _ (hF.below _)));exact hK)
     (try simp only [Act.put,sA_,sB_,sC_])
     refine b_c ?_;exact rfl
    ·intro x;simp only [b_l,List.foldl_nil]
    ·intro w9 xs R hf;simp only [List.drop_succ_cons,List.drop_zero];have H9:Hid (SumI w w.heap.size (w.heap.size+1) (w.heap.size+1+1) (.slice p n c) (.slice p2 V c2) F w9/\WRow w9 G J (e_O S H)):=⟨L.out.1.up R,L.out.2.1.up R⟩
     have ae:Stay (w.heap.size+1+1) w9 ((w9.setCell ⟨w.heap.size+1+1,0,none⟩ (.int .i64 s1)).setCell ⟨w.heap.size+1+1,0+1,none⟩ (.int .u64 s2)):=((Stay.refl _ _).set _ _).set _ _
     have ag:Hid (SumV (w.heap.size+1+1) J (j+1) (e_O S H) (.slice (some ⟨G,0,none⟩) J J) ((w9.setCell ⟨w.heap.size+1+1,0,none⟩ (.int .i64 s1)).setCell ⟨w.heap.size+1+1,0+1,none⟩ (.int .u64 s2))/\SumI w w.heap.size (w.heap.size+1) (w.heap.size+1+1) (.slice p n c) (.slice p2 V c2) s_ ((w9.setCell ⟨w.heap.size+1+1,0,none⟩ (.int .i64 s1)).setCell ⟨w.heap.size+1+1,0+1,none⟩ (.int .u64 s2))):=⟨by
      unfold SumV;rw [if_neg (by omega)];exact ⟨_,rfl,L.out.2.2,Nat.lt_of_lt_of_le aD.out (Nat.le_trans R.size ae.size),H9.out.2.stay ae (by have:=L.out.2.2;omega)⟩,H9.out.1.put (by omega) (by omega) (by omega) ab.out.2.1 ab.out.2.2⟩
     obtain ⟨a5,a8,aL,be,aK⟩:=H9.out.1.l2;simp only [Nat.zero_add] at ag aL aK;clear hf R ae l0 l1 kb H9 L cO cA;go_wp2;go_roundg (U - (j+1))
     case measure=>omega
     case rel=>exact ⟨j+1,_,_,by omega,rfl,by first|rfl|simp,ab.out.1,ag.out.1,ag.out.2⟩
  ·obtain rfl:j=U:=by omega
   have et:T=(0,S,F):=HT.out.1.symm.trans HS.out;subst et;have hV:=HV.out;unfold SumV at hV;rw [if_neg hz] at hV;obtain ⟨G,eG,hG,aq,hW⟩:=hV;subst eG;obtain ⟨fh,av⟩:∃ x,F / 18446744073709551616=x:=⟨_,rfl⟩
   obtain ⟨fl,ap⟩:∃ x,F % 18446744073709551616=x:=⟨_,rfl⟩
   have aT:wd F = .agg #[.int .i64 fh,.int .u64 fl]:=by unfold wd;rw [av,ap]
   obtain ⟨b0,b1,b2,_,_⟩:=HI.out.l2;rw [av] at b1;rw [ap] at b2;obtain ⟨a0,a1,a2,a3,a4⟩:=HI.out.l1;obtain ⟨_,y0,y1,_,_⟩:=HI.out.l1.set (y:=F) (yh:=fh) (yl:=fl) av.symm ap.symm;rw [av] at y0;rw [ap] at y1;have hs:Stay (w.heap.size+1) R1 ((R1.setCell ⟨w.heap.size+1,0,none⟩ (.int .i64 fh)).setCell ⟨w.heap.size+1,0+1,none⟩ (.int .u64 fl)):=((Stay.refl _ _).set _ _).set _ _;have L:Hid (WRow ((R1.setCell ⟨w.heap.size+1,0,none⟩ (.int .i64 fh)).setCell ⟨w.heap.size+1,0+1,none⟩ (.int .u64 fl)) G np S/\(w.heap.size<=G/\G < ((R1.setCell ⟨w.heap.size+1,0,none⟩ (.int .i64 fh)).setCell ⟨w.heap.size+1,0+1,none⟩ (.int .u64 fl)).heap.size)/\Below w.heap.size w ((R1.setCell ⟨w.heap.size+1,0,none⟩ (.int .i64 fh)).setCell ⟨w.heap.size+1,0+1,none⟩ (.int .u64 fl)))   := ⟨hW.stay hs (by omega),⟨by omega,Nat.lt_of_lt_of_le aq hs.size⟩,(HI.out.bel.setCell (p:=⟨w.heap.size+1,0,none⟩) (by show _<=w.heap.size+1;omega) _).setCell (p:=⟨w.heap.size+1,0+1,none⟩) (by show _<=w.heap.size+1;omega) _⟩
   simp only [Nat.zero_add,show (0:Int) / 18446744073709551616=0 from rfl,show (0:Int) % 18446744073709551616=0 from rfl] at a1 a2 a4 b1 b2 y0 y1 L;have HW:Hid (wd F = .agg #[.int .i64 fh,.int .u64 fl]):=aT;clear hs hW HI HV HS aT av ap hG aq HG;go_wp2;go_region;go_wp2;exact bodyPost_ret (v:=.tuple #[.slice (some ⟨G,0,none⟩) np np,.agg #[.int .i64 fh,.int .u64 fl],.int .i64 0]) (by simp [results,Tryz.results8,go_sem,y0,y1]) rfl ⟨_,by rw [HW.out],L.out.1.wrd,L.out.2.2.trans ⟨rfl,rfl,rfl,Nat.le_refl _,fun _ _=>rfl⟩,fun ad m' c' e=>by cases e;exact L.out.2.1⟩
/-- Numbers that a tape's change leaves as they are. -/
def KeptL (B:Nat) (W:World) (v:Value) (l:List Int):Prop:=∀ W',Below B W W'->Only SC W W'->Nums .i64 W' v l
theorem KeptL.up {B:Nat} {W W':World} {v:Value} {l:List Int} (h:KeptL B W v l) (E:Below B W W') (H:Only SC W W'):KeptL B W' v l:=fun D I J=>h D (E.trans I) (H.trans J)
theorem KeptL.nums {B:Nat} {W:World} {v:Value} {l:List Int} (h:KeptL B W v l):Nums .i64 W v l:=h W (Below.refl _ _) (Only.refl _ _)
theorem OwnK.keptL {e:TypeId} {B D:Nat} {W:World} {v:Value} {l:List Int} (h:OwnK .i64 e W D v l) (he:e∉SC):KeptL B W v l:=fun W' _ E=>(h.only E he).nums
theorem KeptL.nil (B:Nat) (W:World):KeptL B W (.slice none 0 0) []:=fun _ _ _=>.inl ⟨rfl,rfl⟩
/-- A step that may be laid. -/
structure StpOk (s:Nd):Prop where
 r:InR s.op/\InR s.a/\InR s.b/\InR s.k
 D:RI s.D
 X:RI s.X
 c:s.op≠1->RkC s.op
theorem r_k {op:Int} (h:op=2∨op=3∨op=4∨op=9∨op=10∨op=11):RkC op:=by
 rcases h with rfl|rfl|rfl|rfl|rfl|rfl
 ·exact RkC.of (by omega) ck2
 ·exact RkC.of (by omega) ck3
 ·exact RkC.of (by omega) ck4
 ·exact RkC.of (by omega) ck9
 ·exact RkC.of (by omega) t_5
 ·exact RkC.of (by omega) t_P
theorem c_G {op a b k:Int} (h:op=2∨op=3∨op=4∨op=9∨op=10∨op=11) (D:InR a) (hb:InR b) (E:InR k):StpOk (opS op a b k):=⟨⟨by show InR op;unfold InR;omega,D,hb,E⟩,b_M,b_M,fun _=>r_k h⟩
theorem e_8 {y:List Int} (E:RI y) (H:y.length<=4096):StpOk (lfS y):=by
 refine ⟨⟨by show InR 1;unfold InR;omega,by show InR 0;unfold InR;omega,by show InR 0;unfold InR;omega,by show InR 0;unfold InR;omega⟩,fun z D=>?_,E,fun h=>absurd rfl h⟩;have:z=(y.length:Int):=by simpa [lfS] using D
 subst this;omega
theorem j_k (B I:Nat) (ns:List Nd) (hG:NodesG ns) (s:Nd) (ab:StpOk s) (p:Option Addr) (n c:Nat) (p2:Option Addr) (n2 c2:Nat) (w:World) (hT:TapC w B I ns) (ac:Hid (Tz w)) (h1:Nums .i64 w (.slice p n c) s.D) (h2:Nums .i64 w (.slice p2 n2 c2) s.X):
  Calls Tryz.prog 73 #[.pointer (some ⟨I,0,none⟩),.agg #[.int .i64 s.op,.int .i64 s.a,.int .i64 s.b,.int .i64 s.k,.slice p n c,.slice p2 n2 c2]] w fun e J=>e = .returned (.tuple #[.int .i64 (lsR ns s),.int .i64 (lsE ns s)])/\TapC J B I (lsN ns s)/\Below B w J/\Only SC w J/\Spar2 I w J:=by
 obtain ⟨op,a,b,k,D,X⟩:=s;obtain ⟨hr,rD,rX,aa⟩:=ab;simp only [] at hr rD rX h1 h2 aa ⊢;obtain ⟨R,eR⟩:∃ R,lsR ns ⟨op,a,b,k,D,X⟩=R:=⟨_,rfl⟩
 obtain ⟨E,eE⟩:∃ R,lsE ns ⟨op,a,b,k,D,X⟩=R:=⟨_,rfl⟩
 obtain ⟨NS,eN⟩:∃ R,lsN ns ⟨op,a,b,k,D,X⟩=R:=⟨_,rfl⟩
 rw [eR,eE,eN]
 have HZ:Hid (B<=w.heap.size):=by
  obtain ⟨hb,v,xs,hv,_⟩:=hT;exact Nat.le_trans hb (Nat.le_of_lt (a_i hv))
 by_cases h0:op=1
 ·subst h0
  have cl:Hid (∀ W,Below w.heap.size w W->Calls Tryz.prog 71 #[.pointer (some ⟨I,0,none⟩),.agg #[.slice p n c,.slice p2 n2 c2]] W fun e J=>e = .returned (.tuple #[.int .i64 R,.int .i64 E])/\TapC J B I NS/\Below B W J/\Only SC W J/\Spar2 I W J):=fun W hW=>by
   have:=j_7 B I ns hG p p2 n c n2 c2 D X rD rX W (hT.up hW) (h1.up hW) (h2.up hW);rw [<- eR,<- eE,<- eN];exact this
  clear eR eE eN hT h1 h2 aa rD rX hr;go_enter Tryz.func73,Tryz.ntmps73;go_wp2_with fail
  generalize O:World.alloc _ _=W0;have H:Hid (Below w.heap.size w W0):=by rw [<- O];exact a_b w _
  clear O;refine (cl.out W0 H.out).mono ?_;rintro e w1 ⟨rfl,L,M,V,U⟩;have HF:Hid (TapC w1 B I NS/\Below B w w1/\Only SC w w1/\Spar2 I w w1):=⟨L,(H.out.mono HZ.out).trans M,(Only.of H.out).trans V,Spar2.trans (Spar2.of H.out) U H.out.size⟩
  clear L M V U cl;go_wp2;go_ret2;exact ⟨rfl,HF.out⟩
 ·have ad:(op==1)=false:=by simpa using h0
  have cd:Hid (∀ W,Below w.heap.size w W->Calls Tryz.prog 72 #[.pointer (some ⟨I,0,none⟩),.int .i64 op,.int .i64 a,.int .i64 b,.int .i64 k] W fun e J=>e = .returned (.tuple #[.int .i64 R,.int .i64 E])/\TapC J B I NS/\Below B W J/\Only SC W J/\Spar2 I W J):=fun W hW=>by
   have:=p_z B I ns hG op a b k (aa h0) hr W (hT.up hW) (Hid.up_tz ac hW);rw [<- eR,<- eE,<- eN];unfold lsR lsE lsN;simp only [if_neg h0];exact this
  clear eR eE eN hT h1 h2 aa rD rX hr;go_enter Tryz.func73,Tryz.ntmps73;go_wp2_with fail
  generalize O:World.alloc _ _=W0;have H:Hid (Below w.heap.size w W0):=by rw [<- O];exact a_b w _
  clear O;refine (cd.out W0 H.out).mono ?_;rintro e w1 ⟨rfl,L,M,V,U⟩;have HF:Hid (TapC w1 B I NS/\Below B w w1/\Only SC w w1/\Spar2 I w w1):=⟨L,(H.out.mono HZ.out).trans M,(Only.of H.out).trans V,Spar2.trans (Spar2.of H.out) U H.out.size⟩
  clear L M V U cd;go_wp2;go_ret2;exact ⟨rfl,HF.out⟩
/-- How a step lies in a literal's cells. -/
def StL (B:Nat) (w:World) (cs:List Value) (i:Nat) (s:Nd):Prop:=∃ p n c p2 n2 c2,cs[i*6]?=some (.int .i64 s.op)/\cs[i*6+1]?=some (.int .i64 s.a)/\cs[i*6+2]?=some (.int .i64 s.b)/\cs[i*6+3]?=some (.int .i64 s.k)/\cs[i*6+4]?=some (.slice p n c)/\cs[i*6+5]?=some (.slice p2 n2 c2)/\KeptL B w (.slice p n c) s.D/\KeptL B w (.slice p2 n2 c2) s.X
theorem d_I {W:World} {g:Nat} {D:List Value} {e:TypeId} (h:W.heap[g]?=some (.cells D.toArray e (0,0))) {j:Nat} {v:Value} (E:D[j]?=some v):W.cell? ⟨g,j,none⟩=some v:=by
 unfold World.cell?;simp [h,E]
theorem h_r (B I:Nat) (ns:List Nd) (hG:NodesG ns) (sts:List Nd) (O:∀ i,i < sts.length->StpOk (stA sts i)) (ao:ns.length<=512) (g m:Nat) (cs:List Value) (hm:sts.length=m) (aB:m<=20) (w:World) (hT:TapC w B I ns) (am:Hid (∀ W,Below B w W->Tz W)) (hc:w.heap[g]?=some (.cells cs.toArray 128 (0,0))) (ad:∀ i,i < m->StL B w cs i (stA sts i)):
  Calls Tryz.prog 53 #[.pointer (some ⟨I,0,none⟩),.slice (some ⟨g,0,none⟩) m m] w fun e w'=>e = .returned (.tuple #[.int .i64 (lyR ns sts),.int .i64 (lyE ns sts)])/\TapC w' B I (lyM ns sts)/\Below B w w'/\Only SC w w'/\Spar2 I w w':=by
 haveI:Nonempty World:=⟨w⟩
 have V:=d_G B I ns w hT
 have ak:B<=w.heap.size:=by
  obtain ⟨hb,_,_,hv,_⟩:=hT;exact Nat.le_trans hb (Nat.le_of_lt (a_i hv))
 by_cases hP:lyP ns sts
 case neg=>
  have e1:lyR ns sts=0:=if_neg fun h=>hP h.1;have e2:lyE ns sts=2:=if_neg hP;have e3:lyM ns sts=ns:=if_neg hP;rw [e1,e2,e3];have HT:Hid (TapC w B I ns):=hT;obtain ⟨N,eN⟩:∃ N:Nat,ns.length=N:=⟨_,rfl⟩
  rw [eN] at V ao
  have hN:(512:Int) < (N:Int)+(m:Int):=by
   have:¬ ns.length+sts.length<=512:=hP;omega
  have aA:(N:Int)<=512:=by omega
  have aC:(m:Int)<=20:=by omega
  clear e1 e2 e3 hP ad hc O hT hG am eN hm;go_enter Tryz.func53,Tryz.ntmps53;go_wp2_with fail
  refine V.mono ?_;rintro e M ⟨rfl,rfl⟩;clear V;go_wp2;go_ret2;exact ⟨rfl,HT.out,Below.refl _ _,Only.refl _ _,Spar2.of (Below.refl _ _)⟩
 have U:=j_5 sts ns
 have e1:lyR ns sts=if (lyF sts ns m).1=0 then (lyF sts ns m).2.2 else 0:=by
  subst hm;by_cases h:(lyF sts ns sts.length).1=0
  ·rw [if_pos h];exact if_pos ⟨hP,h⟩
  ·rw [if_neg h];exact if_neg fun h'=>h h'.2
 have e2:lyE ns sts=(lyF sts ns m).1:=(if_pos hP).trans (by rw [hm]);have e3:lyM ns sts=(lyF sts ns m).2.1:=(if_pos hP).trans (by rw [hm]);rw [e1,e2,e3];obtain ⟨F,eF⟩:∃ F,lyF sts ns=F:=⟨_,rfl⟩
 have h0:F 0=(0,ns,0):=by rw [<- eF];rfl
 have hs:∀ i,(F i).1=0->F (i+1)=(lsE (F i).2.1 (stA sts i),lsN (F i).2.1 (stA sts i),lsR (F i).2.1 (stA sts i)):=fun i h=>by
  rw [<- eF] at h ⊢
  conv=>lhs;unfold lyF
  rw [if_pos h]
 rw [eF] at U ⊢;obtain ⟨N,eN⟩:∃ N:Nat,ns.length=N:=⟨_,rfl⟩
 have hN:(N:Int)+(m:Int)<=512:=by
  have:ns.length+sts.length<=512:=hP;omega
 rw [eN] at V;have HF:Hid (F 0=(0,ns,0)/\(∀ i,(F i).1=0->F (i+1)=(lsE (F i).2.1 (stA sts i),lsN (F i).2.1 (stA sts i),lsR (F i).2.1 (stA sts i)))/\(∀ i,(F i).1≠0->∀ k,F (i+k)=F i)):=⟨h0,hs,U⟩
 have HK:Hid (B<=w.heap.size/\w.heap[g]?=some (.cells cs.toArray 128 (0,0))/\(∀ i,i < m->StL B w cs i (stA sts i))/\(∀ i,i < m->StpOk (stA sts i))):=⟨ak,hc,ad,by rw [<- hm];exact O⟩
 have HT:Hid (TapC w B I ns/\NodesG ns):=⟨hT,hG⟩
 obtain ⟨LR,ag⟩:∃ z,(if (F m).1=0 then (F m).2.2 else 0)=z:=⟨_,rfl⟩
 rw [ag];have aq:Hid ((if (F m).1=0 then (F m).2.2 else 0)=LR):=ag;have az:(m:Int)<=20:=by omega
 clear ag h0 hs U eF hc hm O hT hG ao ak ad e1 e2 e3 hP eN;go_enter Tryz.func53,Tryz.ntmps53;go_wp2_with fail
 refine V.mono ?_;rintro e M ⟨rfl,rfl⟩;clear V;go_wp2_with fail
 go_loopg [6,19] m (fun gg u i wr=>∃ (k:Nat),k<=m/\gg=m - k/\u = .int .i64 (F k).2.2/\i = .int .i64 (k:Int)/\Hid ((F k).1=0/\TapC wr B I (F k).2.1/\NodesG (F k).2.1/\Below B M wr/\Only SC M wr/\Spar2 I M wr))
 case atStart=>
  refine ⟨0,by omega,by omega,by rw [HF.out.1],rfl,?_⟩;show _/\_;rw [HF.out.1];exact ⟨rfl,HT.out.1,HT.out.2,Below.refl _ _,Only.refl _ _,Spar2.of (Below.refl _ _)⟩
 case round=>
  obtain ⟨k,hk,hg,rfl,rfl,L⟩:=hrel;by_cases ar:k < m
  ·have ay:(k:Int) < (m:Int):=by omega
   have O:=HK.out.2.2.2 k ar;have J:=HF.out.2.1 k L.out.1;have H:=L.out.2.2.2.2.1.keep HK.out.2.1 (by decide);obtain ⟨s1,n1,c1,s2,n2,c2,z0,z1,z2,z3,z4,z5,k1,k2⟩:=HK.out.2.2.1 k ar;obtain ⟨st,ah⟩:∃ st,stA sts k=st:=⟨_,rfl⟩
   rw [ah] at z0 z1 z2 z3 k1 k2 J O;have y0:=d_I H z0;have y1:=d_I H z1;have y2:=d_I H z2;have y3:=d_I H z3;have y4:=d_I H z4;have y5:=d_I H z5;have af:B<=wr.heap.size:=Nat.le_trans HK.out.1 L.out.2.2.2.2.1.1
   have cL:Hid (∀ W,Below wr.heap.size wr W->Calls Tryz.prog 73 #[.pointer (some ⟨I,0,none⟩),.agg #[.int .i64 st.op,.int .i64 st.a,.int .i64 st.b,.int .i64 st.k,.slice s1 n1 c1,.slice s2 n2 c2]] W fun e w'=>e = .returned (.tuple #[.int .i64 (lsR (F k).2.1 st),.int .i64 (lsE (F k).2.1 st)])/\TapC w' B I (lsN (F k).2.1 st)/\Below B W w'/\Only SC W w'/\Spar2 I W w'):=fun W hW=>by
    have hb:Below B M W:=L.out.2.2.2.1.trans (hW.mono af);have ho:Only SC M W:=L.out.2.2.2.2.1.trans (Only.of hW);exact j_k B I (F k).2.1 L.out.2.2.1 st O s1 n1 c1 s2 n2 c2 W (L.out.2.1.up hW) (am.out W hb) (k1 W hb ho) (k2 W hb ho)
   have aj:Hid (NodesG (lsN (F k).2.1 st)):=L.out.2.2.1.ls O.X;have HZ:Hid (B<=wr.heap.size):=af;obtain ⟨E,eE⟩:∃ E,lsE (F k).2.1 st=E:=⟨_,rfl⟩
   obtain ⟨R,eR⟩:∃ E,lsR (F k).2.1 st=E:=⟨_,rfl⟩
   obtain ⟨NS,eN⟩:∃ E,lsN (F k).2.1 st=E:=⟨_,rfl⟩
   rw [eE,eR,eN] at cL J;rw [eN] at aj;have ab:Hid (F (k+1)=(E,NS,R)):=J;obtain ⟨op,a,b,kk,D,X⟩:=st;simp only [] at y0 y1 y2 y3 cL;have aw:=a_g y0;clear O J k1 k2 ah eE eR eN z0 z1 z2 z3 z4 z5 H af;go_wp2_with fail
   generalize ai:World.alloc _ _=W2;have ac:Hid (Below wr.heap.size wr W2):=by rw [<- ai];exact a_b wr _
   clear ai y0 y1 y2 y3 y4 y5 aw;refine (cL.out W2 ac.out).mono ?_;rintro e w3 ⟨rfl,au,av,an,ap⟩;have aa:Hid (TapC w3 B I NS/\Below B M w3/\Only SC M w3/\Spar2 I M w3):=⟨au,L.out.2.2.2.1.trans ((ac.out.mono HZ.out).trans av),L.out.2.2.2.2.1.trans ((Only.of ac.out).trans an),Spar2.trans L.out.2.2.2.2.2 (Spar2.trans (Spar2.of ac.out) ap ac.out.size) L.out.2.2.2.2.1.1⟩
   clear au av an ap cL;by_cases hE:E=0
   case neg=>
    have ax:(E != 0)=true:=by simpa using hE
    have HE:Hid (F m=(E,NS,R)):=by
     have h4:=HF.out.2.2 (k+1) (by rw [ab.out];exact hE) (m - (k+1));rw [show k+1+(m - (k+1))=m by omega] at h4;show _=_;rw [h4,ab.out]
    have ae:Hid (Ending.returned (.tuple #[.int .i64 0,.int .i64 E]) = .returned (.tuple #[.int .i64 LR,.int .i64 (F m).1])/\TapC w3 B I (F m).2.1/\Below B M w3/\Only SC M w3/\Spar2 I M w3):=by
     show _/\_;have e1:(F m).1=E:=by rw [HE.out]
     have e2:=aq.out;rw [if_neg (by rw [e1];exact hE)] at e2;rw [<- e2,e1];refine ⟨rfl,?_,aa.out.2⟩;rw [HE.out];exact aa.out.1
    clear HE aa ab L;go_wp2;exact bodyPost_ret (v:=.tuple #[.int .i64 0,.int .i64 E]) (by simp [results,Tryz.results53,go_sem]) rfl ae.out
   subst hE
   have HN:Hid ((F (k+1)).1=0/\TapC w3 B I (F (k+1)).2.1/\NodesG (F (k+1)).2.1/\Below B M w3/\Only SC M w3/\Spar2 I M w3):=by
    show _/\_;rw [ab.out];exact ⟨rfl,aa.out.1,aj.out,aa.out.2⟩
   have HL:Hid ((F (k+1)).2.2=R):=by show _=_;rw [ab.out]
   clear aa L ab;go_wp2;go_roundg (m - (k+1))
   case measure=>omega
   case rel=>exact ⟨k+1,by omega,rfl,by rw [HL.out],by first|rfl|simp,HN⟩
  ·obtain rfl:k=m:=by omega
   have ae:Hid (Ending.returned (.tuple #[.int .i64 (F k).2.2,.int .i64 0]) = .returned (.tuple #[.int .i64 LR,.int .i64 (F k).1])/\TapC wr B I (F k).2.1/\Below B M wr/\Only SC M wr/\Spar2 I M wr):=by
    show _/\_;have e2:=aq.out;rw [if_pos L.out.1] at e2;rw [<- e2,L.out.1];exact ⟨rfl,L.out.2.1,L.out.2.2.2⟩
   go_wp2;exact bodyPost_ret (v:=.tuple #[.int .i64 (F k).2.2,.int .i64 0]) (by simp [results,Tryz.results53,go_sem]) rfl ae.out
theorem e_J (p:Option Addr) (n c:Nat) (w:World) (L:n<=4096):
  Calls Tryz.prog 54 #[.slice p n c] w fun e E=>∃ g,e = .returned (.agg #[.slice (some ⟨g,0,none⟩) 1 1,.slice p n c])/\OwnK .i64 3 E w.heap.size (.slice (some ⟨g,0,none⟩) 1 1) [(n:Int)]/\Below w.heap.size w E:=by
 have H:(n:Int)<=4096:=by omega
 go_enter Tryz.func54,Tryz.ntmps54;go_wp2;have I:Below w.heap.size w ((w.alloc (.cells #[.slice (some ⟨w.heap.size+1,0,none⟩) 1 1,.slice p n c] 77)).alloc (.cells #[.int .i64 (n:Int)] 3)):=by go_grown
 have J:OwnK .i64 3 ((w.alloc (.cells #[.slice (some ⟨w.heap.size+1,0,none⟩) 1 1,.slice p n c] 77)).alloc (.cells #[.int .i64 (n:Int)] 3)) w.heap.size (.slice (some ⟨w.heap.size+1,0,none⟩) 1 1) [(n:Int)]:=by
  have D:=c_b (k:=.i64) (e:=3) (w.alloc (.cells #[.slice (some ⟨w.heap.size+1,0,none⟩) 1 1,.slice p n c] 77)) [(n:Int)] 1 rfl (by decide);rw [e_A] at D;exact D.low (Nat.le_succ _)
 exact bodyPost_ret (v:=.agg #[.slice (some ⟨w.heap.size+1,0,none⟩) 1 1,.slice p n c]) (by simp [results,Tryz.results54,go_sem]) rfl ⟨_,rfl,J,I⟩
theorem i_p (B tb:Nat) (ns:List Nd) (hG:NodesG ns) (o:Int) (p:Option Addr) (n c:Nat) (y:List Int) (w:World) (U:TapC w B tb ns) (h:Nums .i64 w (.slice p n c) y):
  Calls Tryz.prog 52 #[.pointer (some ⟨tb,0,none⟩),.int .i64 o,.slice p n c] w fun e w'=>e = .returned (.int .i64 (e_0 ns o y))/\Below w.heap.size w w':=by
 obtain ⟨_,_,_,e4,HX⟩:=h.lst;cases e4;have O:=HX.out.1;clear HX h;by_cases ho:0<=o/\o < (ns.length:Int)
 case neg=>
  have e1:e_0 ns o y=1:=if_neg fun R=>ho R.1;rw [e1];have M:=e_2 B tb ns o (by omega) w U;clear e1 ho O U hG;go_enter Tryz.func52,Tryz.ntmps52;go_wp2_with fail
  refine M.mono ?_;rintro e w1 ⟨rfl,I⟩;have H:Hid (Below w.heap.size w w1):=I;clear I M;go_wp2;go_ret;exact ⟨rfl,a_c H.out (a_b _ _)⟩
 obtain ⟨i,rfl⟩:∃ i:Nat,o=(i:Int):=⟨o.toNat,by omega⟩
 have hi:ns[i]?=some (ns[i]'(by omega)):=List.getElem?_eq_getElem _;have M:=b_9 B tb ns hG i _ hi w U;have J:=k_Q hi;obtain ⟨nd,e5⟩:∃ nd,ns[i]'(by omega)=nd:=⟨_,rfl⟩
 rw [e5] at M J;obtain ⟨E,eE⟩:∃ E,e_0 ns (i:Int) y=E:=⟨_,rfl⟩
 have HE:Hid ((if y.length=nd.X.length then if nd.D.length=1 then (0:Int) else 4 else 1)=E):=by
  show _=_;rw [<- eE];unfold e_0;rw [J];by_cases R:y.length=nd.X.length
  ·exact (if_pos R).trans (if_pos (show (0<=(i:Int)/\(i:Int) < (ns.length:Int))/\y.length=nd.X.length from ⟨ho,R⟩)).symm
  ·exact (if_neg R).trans (if_neg (show ¬ ((0<=(i:Int)/\(i:Int) < (ns.length:Int))/\y.length=nd.X.length) from fun V=>R V.2)).symm
 rw [eE];clear eE ho hi J e5 U hG;obtain ⟨op,a,b,k,D,X⟩:=nd;simp only [] at M HE;go_enter Tryz.func52,Tryz.ntmps52;go_wp2_with fail
 refine M.mono ?_;rintro e w1 ⟨v,rfl,hv,I⟩;obtain ⟨q,m,r,q2,m2,r2,rfl,h1,V⟩:=hv.own;obtain ⟨_,_,_,e6,H1⟩:=h1.nums.lst;cases e6;obtain ⟨_,_,_,e7,H2⟩:=V.nums.lst;cases e7;have L:=HE.out;rw [O,H1.out.1,H2.out.1] at L;have H:Hid (Below w.heap.size w w1):=I;clear I M h1 V H1 H2 O HE hv;by_cases hm:n=m2
 case neg=>
  rw [if_neg hm] at L;subst L;have aa:((n:Int) != (m2:Int))=true:=by simp;omega
  clear hm;go_wp2;go_ret;exact ⟨rfl,a_c H.out (a_b _ _)⟩
 subst hm;rw [if_pos rfl] at L;by_cases hd:m=1
 ·subst hd;rw [if_pos rfl] at L;subst L;go_wp2;go_ret;exact ⟨rfl,a_c H.out (a_b _ _)⟩
 ·rw [if_neg hd] at L;subst L;have aa:((m:Int) != 1)=true:=by simp;omega
  clear hd;go_wp2;go_ret;exact ⟨rfl,a_c H.out (a_b _ _)⟩
theorem o_7 (B tb:Nat) (ns:List Nd) (hG:NodesG ns) (o cl:Int) (w:World) (U:TapC w B tb ns):
  Calls Tryz.prog 55 #[.pointer (some ⟨tb,0,none⟩),.int .i64 o,.int .i64 cl] w fun e w'=>e = .returned (.tuple #[.int .i64 (m_D ns o cl:Int),.int .i64 (i_V ns o cl)])/\Below w.heap.size w w':=by
 by_cases V:0<=o/\o < (ns.length:Int)
 case neg=>
  have e1:i_V ns o cl=1:=if_neg V;have e2:m_D ns o cl=0:=if_neg (by rw [e1];decide);rw [e1,e2];have O:=e_2 B tb ns o (by omega) w U;clear e1 e2 V U hG;go_enter Tryz.func55,Tryz.ntmps55;go_wp2_with fail
  refine O.mono ?_;rintro e w1 ⟨rfl,I⟩;have H:Hid (Below w.heap.size w w1):=I;clear I O;go_wp2;go_ret2;exact ⟨rfl,a_c H.out (a_b _ _)⟩
 obtain ⟨i,rfl⟩:∃ i:Nat,o=(i:Int):=⟨o.toNat,by omega⟩
 have hi:ns[i]?=some (ns[i]'(by omega)):=List.getElem?_eq_getElem _;have O:=b_9 B tb ns hG i _ hi w U;have J:=k_Q hi;obtain ⟨nd,e5⟩:∃ nd,ns[i]'(by omega)=nd:=⟨_,rfl⟩
 rw [e5] at O J;obtain ⟨E,eE⟩:∃ E,i_V ns (i:Int) cl=E:=⟨_,rfl⟩
 obtain ⟨R,eR⟩:∃ R:Int,((m_D ns (i:Int) cl:Nat):Int)=R:=⟨_,rfl⟩
 have HE:Hid ((if nd.D.length=1/\0<=cl/\cl < (nd.X.length:Int) then ((nd.X.length:Int),(0:Int)) else (0,4))=(R,E)):=by
  show _=_;rw [<- eE,<- eR];unfold m_D i_V;rw [J,if_pos V];by_cases L:nd.D.length=1/\0<=cl/\cl < (nd.X.length:Int)
  ·rw [if_pos L,if_pos L,if_pos rfl]
  ·rw [if_neg L,if_neg L,if_neg (by decide)];rfl
 rw [eE,eR];clear eE eR V hi J e5 U hG;obtain ⟨op,a,b,k,D,X⟩:=nd;simp only [] at O HE;go_enter Tryz.func55,Tryz.ntmps55;go_wp2_with fail
 refine O.mono ?_;rintro e w1 ⟨v,rfl,hv,I⟩;obtain ⟨q,m,r,q2,m2,r2,rfl,h1,h2⟩:=hv.own;obtain ⟨_,_,_,e6,H1⟩:=h1.nums.lst;cases e6;obtain ⟨_,_,_,e7,H2⟩:=h2.nums.lst;cases e7;have M:=HE.out;rw [H1.out.1,H2.out.1] at M;have H:Hid (Below w.heap.size w w1):=I;clear I O h1 h2 H1 H2 HE hv;by_cases hd:m=1
 case neg=>
  rw [if_neg fun L=>hd L.1] at M;cases M;have ac:((m:Int) != 1)=true:=by simp;omega
  clear hd;go_wp2;go_ret2;exact ⟨rfl,a_c H.out (a_b _ _)⟩
 subst hd;by_cases ab:cl < 0
 ·rw [if_neg fun L=>by have:=L.2.1;omega] at M;cases M;go_wp2;go_ret2;exact ⟨rfl,a_c H.out (a_b _ _)⟩
 by_cases aa:(m2:Int)<=cl
 ·rw [if_neg fun L=>by have:=L.2.2;omega] at M;cases M;go_wp2;go_ret2;exact ⟨rfl,a_c H.out (a_b _ _)⟩
 rw [if_pos ⟨rfl,by omega,by omega⟩] at M;cases M;go_wp2;go_ret2;exact ⟨rfl,a_c H.out (a_b _ _)⟩
theorem f_Y (n:Nat) (hn:1<=n/\n<=4096) (a t:Int) (E:Nat) (au:E < n) (w:World):
  Calls Tryz.prog 56 #[.int .i64 (n:Int),.int .i64 a,.int .i64 (E:Int),.int .i64 t] w fun e w'=>∃ g g2 c2,e = .returned (.agg #[.slice (some ⟨g,0,none⟩) 1 1,.slice (some ⟨g2,0,none⟩) n c2])/\OwnK .i64 3 w' w.heap.size (.slice (some ⟨g,0,none⟩) 1 1) [(n:Int)]/\OwnK .i64 48 w' w.heap.size (.slice (some ⟨g2,0,none⟩) n c2) (l_g n a (E:Int) t)/\Below w.heap.size w w':=by
 obtain ⟨V,eV⟩:∃ V,List.replicate n a=V:=⟨_,rfl⟩
 obtain ⟨U,eU⟩:∃ U,l_g n a (E:Int) t=U:=⟨_,rfl⟩
 have J:Hid (V.length=n/\(∀ k,k < n->V.getD k 0=a)/\V.set E t=U/\n<=4096):=by
  refine ⟨by rw [<- eV];simp,fun k hk=>?_,?_,hn.2⟩
  ·rw [<- eV,List.getD_eq_getElem?_getD,List.getElem?_replicate,if_pos hk];rfl
  ·rw [<- eV,<- eU];rfl
 have az:(n:Int)<=4096/\1<=(n:Int):=by omega
 have ax:(E:Int) < (n:Int):=by omega
 rw [eU];clear eV eU;go_enter Tryz.func56,Tryz.ntmps56;go_wp2_with (at_make;generalize ae:World.alloc _ _=W0;have I:=b_1 (w:=w) ae (by go_grown);have XR:Hid (Cel W0 w.heap.size (.slice none 0 0) (.slice none 0 0)):=a_F ae (by simp [go_sem]);clear ae;refine a_y k_C (by decide) _ rfl (.tmp 11) (.tmp 11) rfl .i64 .i64 n n n rfl rfl rfl rfl (by omega) w.heap.size w I.out.size I.out ?_;intro w4 ah B4 ar;clear ar)
 obtain ⟨g,hg⟩:∃ g,W0.heap.size=g:=⟨_,rfl⟩
 have aq:=a_N (a_c I.out B4) B4;rw [hg] at ah ⊢;have hz:=a_a XR.out.1;have Hg:Hid (W0.heap.size=g/\w.heap.size < W0.heap.size):=⟨hg,hz⟩
 have aw:Hid (OwnK .i64 48 w4 g (.slice (some ⟨g,0,none⟩) n n) (b_I V 0)):=by
  show OwnK _ _ _ _ _ _;rw [a_1,J.out.1];exact ah.out
 clear ah B4 hg hz
 go_loopg [15] n (fun gg i wr=>∃ (k:Nat),k<=n/\gg=n - k/\i = .int .i64 (k:Int)/\Hid (OwnK .i64 48 wr g (.slice (some ⟨g,0,none⟩) n n) (b_I V k))/\Hid (Below w.heap.size w wr/\Stay g w4 wr))
 case atStart=>exact ⟨0,by omega,by omega,by first|rfl|simp,aw,aq.out.1,Stay.refl _ _⟩
 case round=>
  obtain ⟨k,hk,hg,rfl,aj,L⟩:=hrel;obtain ⟨R,av⟩:∃ R:World,R=wr:=⟨_,rfl⟩
  subst av;by_cases ac:k < n
  ·have ay:(k:Int) < (n:Int):=by omega
   obtain ⟨ab,am⟩:=aj.out.cell (by rw [a_z];exact J.out.1) k ac
   have H5:Hid (OwnK .i64 48 (R.setCell ⟨g,k,none⟩ (.int .i64 a)) g (.slice (some ⟨g,0,none⟩) n n) (b_I V (k+1))):=by
    have:=aj.out.store (by rw [a_z];exact J.out.1) k a;have ao:=J.out.2.1 k ac;rw [<- ao,b_r V k (by rw [J.out.1];exact ac)] at this;rw [<- ao];exact this
   have ag:w.heap.size<=g:=by have:=Hg.out;omega
   have H6:Hid (Below w.heap.size w (R.setCell ⟨g,k,none⟩ (.int .i64 a))/\Stay g w4 (R.setCell ⟨g,k,none⟩ (.int .i64 a))):=⟨L.out.1.setCell (p:=⟨g,k,none⟩) ag _,L.out.2.set _ _⟩
   go_wp2;go_roundg (n - (k+1))
   case measure=>omega
   case rel=>exact ⟨k+1,by omega,rfl,by first|rfl|simp,H5,H6⟩
  ·obtain rfl:k=n:=by omega
   have aa:w.heap.size≠g:=by have:=Hg.out;omega
   have ap:=(XR.out.up aq.out.2).stay L.out.2 aa;have D:=aj.out;rw [<- J.out.1,b_h,J.out.1] at D;obtain ⟨ab,am⟩:=D.cell J.out.1 E au;have ad:=D.store J.out.1 E t;rw [J.out.2.2.1] at ad;have ag:w.heap.size<=g:=by have:=Hg.out;omega
   have H:Hid (OwnK .i64 48 (R.setCell ⟨g,E,none⟩ (.int .i64 t)) g (.slice (some ⟨g,0,none⟩) k k) U/\Below w.heap.size w (R.setCell ⟨g,E,none⟩ (.int .i64 t))):=⟨ad,L.out.1.setCell (p:=⟨g,E,none⟩) ag _⟩
   have af:Hid (Cel (R.setCell ⟨g,E,none⟩ (.int .i64 t)) w.heap.size (.slice none 0 0) (.slice none 0 0)):=ap.stay (Stay.refl _ _ |>.set _ _) aa;have an:Hid (∀ W,Calls Tryz.prog 54 #[.slice (some ⟨g,0,none⟩) k k] W fun e w'=>∃ g',e = .returned (.agg #[.slice (some ⟨g',0,none⟩) 1 1,.slice (some ⟨g,0,none⟩) k k])/\OwnK .i64 3 w' W.heap.size (.slice (some ⟨g',0,none⟩) 1 1) [(k:Int)]/\Below W.heap.size W w'):=fun W=>e_J _ k k W J.out.2.2.2;clear D ap ad;go_wp2_with fail
   generalize hK:World.setCell _ _ _=K at H af ⊢;clear hK ab am;refine (an.out K).mono ?_;rintro e w6 ⟨O,rfl,h6,M⟩;have hs:g < K.heap.size:=H.out.1.size
   have ai:Hid (TRes (set2 w6 w.heap.size (.slice (some ⟨O,0,none⟩) 1 1) (.slice (some ⟨g,0,none⟩) k k)) W0.heap.size (.agg #[.slice (some ⟨O,0,none⟩) 1 1,.slice (some ⟨g,0,none⟩) k k]) [(k:Int)] U/\Below w.heap.size w (set2 w6 w.heap.size (.slice (some ⟨O,0,none⟩) 1 1) (.slice (some ⟨g,0,none⟩) k k))):=
    ⟨TRes.set (h6.low (by have:=Hg.out;omega)) ((H.out.1.up M).low (by have:=Hg.out;omega)) Hg.out.2,a_j (a_c H.out.2 M) _ (Nat.le_refl _) _ _⟩
   have ak:Hid (∃ g' g2 c2,Ending.returned (.agg #[.slice (some ⟨O,0,none⟩) 1 1,.slice (some ⟨g,0,none⟩) k k]) = .returned (.agg #[.slice (some ⟨g',0,none⟩) 1 1,.slice (some ⟨g2,0,none⟩) k c2])/\OwnK .i64 3 (set2 w6 w.heap.size (.slice (some ⟨O,0,none⟩) 1 1) (.slice (some ⟨g,0,none⟩) k k)) w.heap.size (.slice (some ⟨g',0,none⟩) 1 1) [(k:Int)]/\OwnK .i64 48 (set2 w6 w.heap.size (.slice (some ⟨O,0,none⟩) 1 1) (.slice (some ⟨g,0,none⟩) k k)) w.heap.size (.slice (some ⟨g2,0,none⟩) k c2) U/\Below w.heap.size w (set2 w6 w.heap.size (.slice (some ⟨O,0,none⟩) 1 1) (.slice (some ⟨g,0,none⟩) k k))):=by
    obtain ⟨s_,t_,e_,q1,q2⟩:=ai.out.1;cases e_;exact ⟨_,_,_,rfl,q1.low I.out.size,q2.low I.out.size,ai.out.2⟩
   have xr:=af.out.up M;have cf:=xr.set (.slice (some ⟨O,0,none⟩) 1 1) (.slice (some ⟨g,0,none⟩) k k);clear ai h6 M H af hs;obtain ⟨x0,x1,x2,x3⟩:=xr;obtain ⟨f0,f1,_,_⟩:=cf;go_wp2;exact bodyPost_ret (v:=.agg #[.slice (some ⟨O,0,none⟩) 1 1,.slice (some ⟨g,0,none⟩) k k]) (by first|(simp [results,Tryz.results56,go_sem];done)|(simp [results,Tryz.results56,go_sem,f0,f1])) rfl ak.out
end Go.Proofs.YtcpbhhlepdgdkaaGreatDoor.Wd
