/- The reference's Row. · The reference's P -/
import Derived.Test.YtkfpainpomobfaaGreatDoorR31
import Derived.Test.YtkfpainpomobfaaGreatDoorR30
set_option linter.unusedVariables false
set_option linter.unusedSimpArgs false
set_option maxHeartbeats 16000000
set_option maxRecDepth 16000
namespace Go.Proofs.YtkfpainpomobfaaGreatDoor.Wd
open Go.RowKit Fx List World Nat
theorem r_0 (p p2 p3 p4:Option Addr) (n c n2 c2 n3 c3 n4 c4:Nat) (d x d' y:List Int) (st:Int) (hd:RI d) (hx:RI x) (ar:RI d') (hy:RI y) (w:World) (h1:Nums .i64 w (.slice p n c) d) (h2:Nums .i64 w (.slice p2 n2 c2) x) (h3:Nums .i64 w (.slice p3 n3 c3) d') (h4:Nums .i64 w (.slice p4 n4 c4) y) (al:rwA d x d' y st/\rwS d d'):
  Calls Tryz.prog 77 #[.agg #[.slice p n c,.slice p2 n2 c2],.agg #[.slice p3 n3 c3,.slice p4 n4 c4],.int .i64 st] w fun e w'=>∃ v',e = .returned (.tuple #[v',.int .i64 (rwE d x d' y st)])/\TRes w' w.heap.size v' (rwD d x d' y st) (rwV d x d' y st)/\Bw w w':=by
 have cA:=fun W (J:Bw w W)=>c_6 _ _ d x hd W (h1.up J) (h2.up J);have cB:=fun W (J:Bw w W)=>c_6 _ _ d' y ar W (h3.up J) (h4.up J);obtain ⟨_,_,_,e4,O⟩:=h1.lst;cases e4;obtain ⟨_,_,_,e4,A⟩:=h3.lst;cases e4;haveI:Nonempty World:=⟨w⟩
 obtain ⟨I,E⟩:=al;have aa:Hid (isP d x):=I.1;have ah:Hid (isP d' y):=I.2.1;have hs:=I.2.2;rw [decide_eq_true I.1] at cA;rw [decide_eq_true I.2.1] at cB;obtain ⟨stN,rfl⟩:∃ q:Nat,st=q:=⟨st.toNat,by omega⟩
 obtain rfl:n=2:=by rw [<- O.1];exact E.1
 obtain rfl:n3=3:=by rw [<- A.1];exact E.2.1
 obtain ⟨V,L,rfl,aq,k0,k1,k2⟩:=b_G aa.out O.1;obtain ⟨R,Z,H,rfl,aj,l0,l1,l2,l3⟩:=e_l ah.out A.1
 have ae:Hid ((∃ q o,p=some ⟨q,o,none⟩/\w.cell? ⟨q,o,none⟩=some (.int .i64 (V:Int))/\w.cell? ⟨q,o+1,none⟩=some (.int .i64 (L:Int)))/\(∃ q o,p3=some ⟨q,o,none⟩/\w.cell? ⟨q,o,none⟩=some (.int .i64 (R:Int))/\w.cell? ⟨q,o+1,none⟩=some (.int .i64 (Z:Int))/\w.cell? ⟨q,o+2,none⟩=some (.int .i64 (H:Int)))):=by
  obtain ⟨q,o,rfl,ao⟩:=O.2 0 (by omega);obtain ⟨q',o',M,ag⟩:=O.2 1 (by omega);cases M;obtain ⟨r,s,rfl,am⟩:=A.2 0 (by omega);obtain ⟨r',s',M,af⟩:=A.2 1 (by omega);cases M;obtain ⟨r',s',M,ab⟩:=A.2 2 (by omega);cases M;exact ⟨⟨_,_,rfl,ao,ag⟩,_,_,rfl,am,af,ab⟩
 obtain ⟨⟨qa,oa,rfl,ac,an⟩,qb,ob,rfl,ak,ai,ad⟩:=ae.out;have zD:=d_C k2 k0 k1;have ap:R*Z<=4096:=Nat.le_trans (Nat.le_mul_of_pos_right _ l2) l3;have zE:=d_C ap l0 l1;have au:H<=4096:=by have:=Nat.mul_le_mul (Nat.mul_le_mul l0 l1) (Nat.le_refl H);omega
 have aw:(R:Int)<=4096/\(Z:Int)<=4096/\(H:Int)<=4096:=by omega
 have av:(V:Int)<=4096/\(L:Int)<=4096:=by omega
 obtain rfl:V=Z:=by have:=E.2.2.1;simp at this;omega
 have hw:H<=L:=by have:=E.2.2.2;simp at this;omega
 obtain ⟨S,hS⟩:∃ S,b_B L H stN=S:=⟨_,rfl⟩
 obtain ⟨e1,e2,e3⟩:=m_4 I hw hS;rw [e1,e2,e3];exact n_8 V L R H stN S hS l2 hw zD.2 (by omega) (by omega) k0 l0 l3 k2 zE.1 zD.1 qa oa qb ob p2 p4 c n2 c2 c3 n4 c4 x y hx hy aq aj w ac an ak ai ad h2 h4 cA cB
theorem i_L {B:Nat} {W W':World} {b o:Nat} {v:Value} (h:W.cell? ⟨b,o,none⟩=some v) (hb:b < B) (A:Below B W W'):W'.cell? ⟨b,o,none⟩=some v:=by
 unfold cell? at h ⊢;rw [A.block b hb];exact h
theorem g_t {B:Nat} {W W':World} {b o:Nat} (hb:b < B) (A:Below B W W'):W'.frozen? ⟨b,o,none⟩=W.frozen? ⟨b,o,none⟩:=by
 unfold frozen?;rw [A.block b hb]
theorem Cel.lowB {B:Nat} {W W':World} {b:Nat} {s t:Value} (h:Cel W b s t) (hb:b < B) (A:Below B W W'):Cel W' b s t:=
 ⟨i_L h.1 hb A,i_L h.2.1 hb A,by rw [g_t hb A];exact h.2.2.1,by rw [g_t hb A];exact h.2.2.2⟩
theorem OwnK.lowB {k:IntKind} {e:TypeId} {B H:Nat} {W W':World} {v:Value} {l:List Int} (h:OwnK k e W H v l) (J:∀ j,v.ownBlock=some j->j < B) (L:Below B W W'):OwnK k e W' H v l:=by
 refine ⟨h.1,?_⟩;rcases h.2 with h|⟨q,E,A,I,O,M,R⟩
 ·exact .inl h
 ·refine .inr ⟨q,E,A,I,O,?_,R⟩;rw [L.block q (J q (by rw [I];rfl))];exact M
theorem OwnK.blk {k:IntKind} {e:TypeId} {A:Nat} {W:World} {v:Value} {l:List Int} (h:OwnK k e W A v l):∀ j,v.ownBlock=some j->j < W.heap.size:=fun j E=>(ownsRow.lt h j E).2
/-- What the reference's Pool reads and has made: the parameter's box, the answer's, the new tensor's, its shape. -/
def PlC (W:World) (ba br bt:Nat) (sa ta sd td:Value) (D:List Int) (B0:Nat):Prop:=Cel W ba sa ta/\Cel W br (.slice none 0 0) (.slice none 0 0)/\Cel W bt sd td/\OwnK .i64 3 W B0 sd D
theorem PlC.up {W W':World} {J H O:Nat} {I L R M:Value} {D:List Int} {E:Nat} (h:PlC W J H O I L R M D E) (A:Bw W W'):PlC W' J H O I L R M D E:=⟨h.1.up A,h.2.1.up A,h.2.2.1.up A,h.2.2.2.up A⟩
theorem PlC.stay {g:Nat} {W W':World} {H E I:Nat} {O R J M:Value} {D:List Int} {L:Nat} (h:PlC W H E I O R J M D L) (A:Stay g W W') (V:H≠g) (h2:E≠g) (Z:I≠g) (h4:Off g J):PlC W' H E I O R J M D L:=⟨h.1.stay A V,h.2.1.stay A h2,h.2.2.1.stay A Z,h.2.2.2.stay A h4⟩
theorem PlC.lowB {B:Nat} {W W':World} {H E I:Nat} {O R J M:Value} {D:List Int} {L:Nat} (h:PlC W H E I O R J M D L) (V:H < B) (h2:E < B) (Z:I < B) (h4:∀ j,J.ownBlock=some j->j < B) (A:Below B W W'):PlC W' H E I O R J M D L:=⟨h.1.lowB V A,h.2.1.lowB h2 A,h.2.2.1.lowB Z A,h.2.2.2.lowB h4 A⟩
theorem n_9 (l:List Int) (k:Nat) (h:k < l.length):l.take k++[l.getD k 0]=l.take (k+1):=by
 rw [take_add_one,getD_eq_getElem?_getD,getElem?_eq_getElem h];rfl
theorem p_R (p p2:Option Addr) (n c n2 c2:Nat) (d x:List Int) (wd:Int) (hd:RI d) (hx:RI x) (w:World) (h1:Nums .i64 w (.slice p n c) d) (h2:Nums .i64 w (.slice p2 n2 c2) x) (bF:isP d x/\d.length=2/\plW d wd):
  Calls Tryz.prog 78 #[.agg #[.slice p n c,.slice p2 n2 c2],.int .i64 wd] w fun e w'=>∃ v' u',e = .returned (.tuple #[v',u',.int .i64 (plE d x wd)])/\TRes w' w.heap.size v' (plD d x wd) (plV d x wd)/\OwnK .i64 3 w' w.heap.size u' (plP d x wd)/\Bw w w':=by
 have cA:=fun W (hW:Bw w W)=>c_6 _ _ d x hd W (h1.up hW) (h2.up hW);obtain ⟨_,_,_,e4,HD⟩:=h1.lst;cases e4;obtain ⟨_,_,_,e4,HX⟩:=h2.lst;cases e4;haveI:Nonempty World:=⟨w⟩
 obtain ⟨hp,bx,bt⟩:=bF;rw [decide_eq_true hp] at cA;obtain rfl:n=2:=by rw [<- HD.1];exact bx
 obtain ⟨E,I,rfl,aG,k0,k1,k2⟩:=b_G hp HD.1
 have bc:Hid (∃ q o,p=some ⟨q,o,none⟩/\w.cell? ⟨q,o,none⟩=some (.int .i64 (E:Int))/\w.cell? ⟨q,o+1,none⟩=some (.int .i64 (I:Int))):=by
  obtain ⟨q,o,rfl,bq⟩:=HD.2 0 (by omega);obtain ⟨q',o',e',bp⟩:=HD.2 1 (by omega);cases e';exact ⟨_,_,rfl,bq,bp⟩
 obtain ⟨qa,oa,rfl,bl,bv⟩:=bc.out;have zD:=d_C k2 k0 k1;have b5:(E:Int)<=4096/\(I:Int)<=4096:=by omega
 have hw:1<=wd/\wd<=(I:Int):=bt;obtain ⟨L,rfl⟩:∃ q:Nat,wd=q:=⟨wd.toNat,by omega⟩
 have am:isP [(E:Int),(I:Int)] x/\[(E:Int),(I:Int)].length=2/\plW [(E:Int),(I:Int)] (L:Int):=⟨hp,rfl,hw⟩
 obtain ⟨q,eq⟩:∃ q,I / L=q:=⟨_,rfl⟩
 have e1:plE [(E:Int),(I:Int)] x (L:Int)=0/\plD [(E:Int),(I:Int)] x (L:Int) = [(E:Int),(q:Int)]/\plV [(E:Int),(I:Int)] x (L:Int)=g_A E I q L x/\plP [(E:Int),(I:Int)] x (L:Int)=i_r E I q L x:=by
  rw [<- eq];refine ⟨?_,?_,?_,?_⟩
  ·unfold plE;rw [if_pos hp,if_pos (show [(E:Int),(I:Int)].length=2 from rfl),if_pos am.2.2]
  ·unfold plD;rw [if_pos am];rfl
  ·unfold plV;rw [if_pos am];rfl
  ·unfold plP;rw [if_pos am];rfl
 rw [e1.1,e1.2.1,e1.2.2.1,e1.2.2.2];have br:1<=L/\L<=I:=by omega
 have aO:q*L<=I:=by rw [<- eq];exact div_mul_le_self I L
 have a4:1<=q:=by rw [<- eq];exact (le_div_iff_mul_le (by omega)).2 (by omega)
 have bA:q<=I:=by rw [<- eq];exact div_le_self I L
 have bS:(I:Int) / (L:Int)=(q:Int):=by rw [<- eq];rfl
 obtain ⟨M,ab⟩:∃ N,E*q=N:=⟨_,rfl⟩
 have bJ:1<=M/\M<=4096:=⟨by rw [<- ab];exact Nat.mul_le_mul k0 a4,by rw [<- ab];exact Nat.le_trans (mul_le_mul_left E bA) k2⟩
 have bO:1<=(M:Int)/\(M:Int)<=4096:=by omega
 have hg:goodN (ntl [(E:Int),(q:Int)]):=t_j.2 ⟨k0,a4,by rw [ab];exact bJ.2⟩
 have cN:Hid (∀ W v,Nums .i64 W v [(E:Int),(q:Int)]->Calls Tryz.prog 95 #[v,.int .i64 0] W fun e w'=>∃ v',e = .returned v'/\t_q w' W.heap.size v' [(E:Int),(q:Int)] M (replicate M 0)/\Bw W w'):=fun W v hv=>by
  have:=e_P v [(E:Int),(q:Int)] (g_N zD.1 (by omega)) hg 0 W hv;rw [c_9,ab] at this;exact this
 obtain ⟨V,eV⟩:∃ V,g_A E I q L x=V:=⟨_,rfl⟩
 obtain ⟨PL,eP⟩:∃ P,i_r E I q L x=P:=⟨_,rfl⟩
 rw [eV,eP]
 have HV:Hid (V.length=M/\PL.length=M/\(∀ i,i < M->PL.getD i 0=((e_n I q L x i:Nat):Int)/\V.getD i 0=x.getD (e_n I q L x i) 0/\i / q*I+i % q*L+L<=E*I/\e_n I q L x i < E*I)):=by
  refine ⟨by rw [<- eV,g_f,ab],by rw [<- eP,i_s,ab],fun i hi=>?_⟩;rw [<- ab] at hi;exact ⟨by rw [<- eP];exact k_k _ _ _ _ _ _ hi,by rw [<- eV];exact k_l _ _ _ _ _ _ hi,m_T x hi br.1 aO⟩
 have aT:Hid (E*q=M):=ab;have bE:Hid (q*L<=I):=aO;have ad:Hid (RI x/\x.length=E*I/\n2=E*I/\E*I<=4096/\True/\Nums .i64 w (.slice p2 n2 c2) x):=⟨hx,aG,by rw [<- HX.1];exact aG,k2,trivial,h2⟩
 have ca:1<=(L:Int)/\(L:Int)<=(I:Int)/\(q:Int)<=4096/\1<=(q:Int):=by omega
 have b4:decide ((L:Int) < 1)=false:=decide_eq_false (by omega);have bK:decide (I < L)=false:=decide_eq_false (by omega);have bM:decide ((I:Int) < (L:Int))=false:=decide_eq_false (by omega);clear e1 am eV eP ab eq hp hx aG h1 h2 HD bc k0 k1 k2 aO hw hd hg;go_enter Tryz.func78,Tryz.ntmps78;go_wp2_with fail
 generalize bb:alloc _ _=W0;obtain ⟨aX,XA,XR⟩:=i_M bb;clear bb;refine (cA W0 aX).mono ?_;rintro e w1 ⟨rfl,aE⟩;have aq:=b_5 (a_c aX aE) aE;clear aE cA;obtain ⟨a0,a1,_,_⟩:=XA.out.up aq.2;have a9:=a_b a0;have a2:=a_d bl aq.1;have bH:=a_d bv aq.1;have bG:=a_b a2;go_wp2_with fail
 go_quiet (fail)
 generalize bk:drewN w1 nq=w5;have aa:Hid (Bw w w5/\Bw W0 w5):=by rw [<- bk];exact ⟨a_i aq.1 nq,a_i aq.2 nq⟩
 clear bk a0 a1 a9 a2 bH bG;go_wp2_with fail
 generalize aD:alloc _ _=W7;have aN:Bw w5 W7:=by rw [<- aD];exact a_a w5 _
 have aj:=b_5 (a_c aa.1 aN) (a_c aa.2 aN);have ba:Hid (Nums .i64 W7 (.slice (some ⟨w5.heap.size,0,none⟩) 2 2) [(E:Int),(q:Int)]):=by show Nums _ _ _ _;rw [<- aD];exact a_8 (k:=.i64) w5 [(E:Int),(q:Int)] 2 (0,0) rfl
 clear aD aN aa;refine (cN.out W7 _ ba.out).mono ?_;rintro e w8 ⟨v8,rfl,⟨s8,g,cg,rfl,av,aS,aB,a3⟩,al⟩;obtain ⟨p8,n8,c8,rfl,_⟩:=av.nums.lst;clear ba cN;go_wp2_with fail
 generalize aM:alloc _ _=W9;have B9:Bw w8 W9:=by rw [<- aM];exact a_a w8 _
 have XT:Cel W9 w8.heap.size (.slice p8 n8 c8) (.slice (some ⟨g,0,none⟩) M cg):=by unfold Cel;rw [<- aM];simp [go_sem]
 have hU:=a_c al B9;have hz:=a_b XR.1;have aV:=aS.size;obtain ⟨B,aH⟩:∃ B,B=W9.heap.size:=⟨_,rfl⟩
 have bw:=a_b XT.1
 have H9:Hid (OwnK .i64 48 W9 g (.slice (some ⟨g,0,none⟩) M cg) (b_l V (0*q))/\OwnK .i64 3 W9 B (.slice none 0 0) (PL.take (0*q))/\PlC W9 w.heap.size (w.heap.size+1) w8.heap.size (.slice (some ⟨qa,oa,none⟩) 2 c) (.slice p2 n2 c2) (.slice p8 n8 c8) (.slice (some ⟨g,0,none⟩) M cg) [(E:Int),(q:Int)] W7.heap.size/\Bw w W9/\B<=W9.heap.size):=
  ⟨by rw [Nat.zero_mul,a_W,HV.1];exact (aS.up B9).base,by rw [Nat.zero_mul,take_zero];exact OwnK.nil _ _ _ _,⟨XA.out.up (a_c aj.2 hU),XR.out.up (a_c aj.2 hU),XT,av.up B9⟩,a_c aj.1 hU,Nat.le_of_eq aH⟩
 have Hg:Hid (g < B/\w.heap.size+1 < g/\g < w8.heap.size/\w8.heap.size < B/\w.heap.size+1 < W7.heap.size/\W7.heap.size<=g):=⟨by omega,by have:=aj.2.size;omega,aV,by omega,by have:=aj.2.size;omega,a3⟩
 have bd:Hid (Off g (.slice p8 n8 c8)/\∀ j,(Value.slice p8 n8 c8).ownBlock=some j->j < B):=⟨aB,by rw [aH];exact (av.up B9).blk⟩
 obtain ⟨b8,be⟩:∃ b8,w8.heap.size=b8:=⟨_,rfl⟩
 rw [be] at H9 Hg ⊢;clear aM B9 hz aV av aS al a3 aB aj be aH XT hU bw;go_wp2_with fail
 go_loopg [11,12] E (fun gg r i wr=>∃ (P:Nat),P<=E/\gg=E - P/\i = .int .i64 (P:Int)/\Hid (OwnK .i64 48 wr g (.slice (some ⟨g,0,none⟩) M cg) (b_l V (P*q))/\OwnK .i64 3 wr B r (PL.take (P*q))/\PlC wr w.heap.size (w.heap.size+1) b8 (.slice (some ⟨qa,oa,none⟩) 2 c) (.slice p2 n2 c2) (.slice p8 n8 c8) (.slice (some ⟨g,0,none⟩) M cg) [(E:Int),(q:Int)] W7.heap.size/\Bw w wr/\B<=wr.heap.size))
 case atStart=>exact ⟨0,by omega,by omega,by first|rfl|simp,H9⟩
 case round=>
  obtain ⟨P,hP,b2,rfl,HI⟩:=hrel;obtain ⟨R1,bC⟩:∃ R1:World,R1=wr:=⟨_,rfl⟩
  subst bC;by_cases aL:P < E
  ·have b0:(P:Int) < (E:Int):=by omega
   go_wp2_with fail
   rw [show P*q=P*q+0 from rfl] at HI
   go_loopg [11,13] q (fun gg r i wr=>∃ (J:Nat),J<=q/\gg=q - J/\i = .int .i64 (J:Int)/\Hid (OwnK .i64 48 wr g (.slice (some ⟨g,0,none⟩) M cg) (b_l V (P*q+J))/\OwnK .i64 3 wr B r (PL.take (P*q+J))/\PlC wr w.heap.size (w.heap.size+1) b8 (.slice (some ⟨qa,oa,none⟩) 2 c) (.slice p2 n2 c2) (.slice p8 n8 c8) (.slice (some ⟨g,0,none⟩) M cg) [(E:Int),(q:Int)] W7.heap.size/\Bw w wr/\B<=wr.heap.size))
   case atStart=>exact ⟨0,by omega,by omega,by first|rfl|simp,HI⟩
   case round=>
    obtain ⟨J,hJ,bU,rfl,H⟩:=hrel;obtain ⟨R2,bm⟩:∃ R2:World,R2=wr:=⟨_,rfl⟩
    subst bm;by_cases ao:J < q
    ·have bP:(J:Int) < (q:Int):=by omega
     have bz:P*I+J*L+L<=E*I:=by
      have q1:(P+1)*I<=E*I:=mul_le_mul_right I aL;have q2:(J+1)*L<=q*L:=mul_le_mul_right L ao;have q3:=bE.out;rw [Nat.add_mul,Nat.one_mul] at q1 q2;omega
     have b3:=ad.2.2.2.1;obtain ⟨A,eA⟩:∃ a,P*I=a:=⟨_,rfl⟩
     have bY:(P:Int)*(I:Int)=(A:Int):=by rw [<- eA];push_cast;rfl
     obtain ⟨Bq,eB⟩:∃ a,J*L=a:=⟨_,rfl⟩
     have bQ:(J:Int)*(L:Int)=(Bq:Int):=by rw [<- eB];push_cast;rfl
     obtain ⟨C,eC⟩:∃ a,A+Bq=a:=⟨_,rfl⟩
     have cb:(A:Int)+(Bq:Int)=(C:Int):=by omega
     have HC:Hid (P*I+J*L=C/\C+L<=E*I):=⟨by omega,by omega⟩
     have b7:(A:Int)<=4096/\(Bq:Int)<=4096/\(C:Int)<=4096:=by omega
     clear eA eB eC bz;go_wp2_with fail
     go_loopg [14,15] (L - 1) (fun gg b i wr=>∃ (Y:Nat),1<=Y/\Y<=L/\gg=L - Y/\i = .int .i64 (Y:Int)/\b = .int .i64 ((b_P x C (Y - 1):Nat):Int)/\Hid (Bw R2 wr))
     case atStart=>exact ⟨1,by omega,by omega,by omega,by first|rfl|simp,by first|rfl|simp [b_P],Below.refl _ _⟩
     case round=>
      obtain ⟨Y,bX,hY,bV,rfl,rfl,ag⟩:=hrel;obtain ⟨R3,bI⟩:∃ R3:World,R3=wr:=⟨_,rfl⟩
      subst bI;by_cases bR:Y < L
      ·have bW:(Y:Int) < (L:Int):=by omega
       have aR:=(e_S x C (Y - 1))
       obtain ⟨bst,O⟩:∃ b,b_P x C (Y - 1)=b:=⟨_,rfl⟩
       rw [O] at aR;have hD:C+Y < E*I:=by have:=HC.2;omega
       have aW:bst < E*I:=by have:=HC.2;omega
       have ah:=ad.2.2.1;have aw:=ad.2.2.2.1;obtain ⟨_,_,_,e4,ae⟩:=ad.2.2.2.2.2.lst;cases e4;obtain ⟨qx,ox,aQ,ai⟩:=ae.2 (C+Y) (by omega);obtain ⟨b1,bT,bs,aU⟩:=ae.2 bst (by omega);subst aQ;cases bs;have af:=a_c H.2.2.2.1 ag.out;have R:=a_d ai af;have au:=a_d aU af;have ay:=a_b R;obtain ⟨a0,a1,_,_⟩:=H.2.2.1.1.up ag.out;have a9:=a_b a0;obtain ⟨Xv,eX⟩:∃ X,x.getD (C+Y) 0=X:=⟨_,rfl⟩
       obtain ⟨Yv,eY⟩:∃ X,x.getD bst 0=X:=⟨_,rfl⟩
       rw [eX] at R;rw [eY] at au;obtain ⟨D,eD⟩:∃ a,C+Y=a:=⟨_,rfl⟩
       have b6:(C:Int)+(Y:Int)=(D:Int):=by omega
       rw [eD] at R hD eX;have bn:(D:Int) < (n2:Int)/\(bst:Int) < (n2:Int)/\(n2:Int)<=4096:=by omega
       have aA:Y+1 - 1=(Y - 1)+1:=by omega
       rw [O];by_cases az:Yv < Xv
       ·have hN:Hid (b_P x C (Y+1 - 1)=D):=by
         show _=_;rw [aA,b_P,O,eY,show C+(Y - 1+1)=D by omega,eX,if_pos az]
        have bB:=decide_eq_true az;clear eX eY O eD ai aU ae aR aA af ah aw hD aW;go_wp2_with fail
        go_quiet (fail)
        generalize ar:drewN R3 nq=w8;have al:Hid (Bw R2 w8):=by show Below _ _ _;rw [<- ar];exact a_i ag.out nq
        clear ar a0 a1 a9 R au ay;go_wp2;go_roundg (L - (Y+1))
        case measure=>omega
        case rel=>exact ⟨Y+1,by omega,by omega,rfl,by first|rfl|simp,by rw [hN.out],al⟩
       ·have hN:Hid (b_P x C (Y+1 - 1)=bst):=by
         show _=_;rw [aA,b_P,O,eY,show C+(Y - 1+1)=D by omega,eX,if_neg az]
        have bB:=decide_eq_false az;clear eX eY O eD ai aU ae aR aA af ah aw hD aW;go_wp2_with fail
        go_quiet (fail)
        generalize ar:drewN R3 nq=w8;have al:Hid (Bw R2 w8):=by show Below _ _ _;rw [<- ar];exact a_i ag.out nq
        clear ar a0 a1 a9 R au ay;go_wp2;go_roundg (L - (Y+1))
        case measure=>omega
        case rel=>exact ⟨Y+1,by omega,by omega,rfl,by first|rfl|simp,by rw [hN.out],al⟩
      ·obtain rfl:Y=L:=by omega
       have ac:=HV.2.2 (P*q+J) (by rw [<- aT.out];exact b_D aL ao)
       have bh:e_n I q Y x (P*q+J)=b_P x C (Y - 1):=by
        unfold e_n;rw [b_8 _ _ _ ao,c_l _ _ _ ao,HC.1]
       rw [bh] at ac;obtain ⟨bst,O⟩:∃ b,b_P x C (Y - 1)=b:=⟨_,rfl⟩
       rw [O] at ac ⊢;obtain ⟨eP,eV,_,bu⟩:=ac;have an:P*q+J < M:=by rw [<- aT.out];exact b_D aL ao
       obtain ⟨A2,ax⟩:∃ a,P*q=a:=⟨_,rfl⟩
       have bN:(P:Int)*(q:Int)=(A2:Int):=by rw [<- ax];push_cast;rfl
       rw [ax] at an eP eV H;obtain ⟨K,eK⟩:∃ a,A2+J=a:=⟨_,rfl⟩
       have b9:(A2:Int)+(J:Int)=(K:Int):=by omega
       rw [eK] at an eP eV H;have a5:Hid (P*q+(J+1)=K+1):=by show _=_;rw [ax];omega
       obtain ⟨Z,eZ⟩:∃ Z,x.getD bst 0=Z:=⟨_,rfl⟩
       rw [eZ] at eV;have HZ:Hid (PL.getD K 0=(bst:Int)/\V.getD K 0=Z):=⟨eP,eV⟩
       have ah:=ad.2.2.1;have aw:=ad.2.2.2.1;obtain ⟨_,_,_,e4,ae⟩:=ad.2.2.2.2.2.lst;cases e4;obtain ⟨qx,ox,aQ,ai⟩:=ae.2 bst (by omega);subst aQ;have af:=a_c H.2.2.2.1 ag.out;have R:=a_d ai af;rw [eZ] at R;have ay:=a_b R;have ap:=H.2.2.1.up ag.out;obtain ⟨a0,a1,_,_⟩:=ap.1;obtain ⟨t0,t1,_,_⟩:=ap.2.2.1;have a9:=a_b a0;have t9:=a_b t0;have bn:(bst:Int) < (n2:Int)/\(n2:Int)<=4096/\(K:Int) < (M:Int)/\(A2:Int)<=4096:=by omega
       clear eZ eP eV bh ai ae ax eK O bu ah aw;go_wp2_with fail
       apply e_K 13 120 (by kernel_rfl) rfl rfl (by kernel_rfl)
       ·intro F hF hFc hFf;simp only [take_succ_cons,take_zero]
        repeat (go_big_quiet_step (fail))
        refine wpQuiet_nil ?_;exact rfl
       ·intro W5 bi;simp only [drop_succ_cons,drop_zero];have ak:=a_c ag.out bi;have aP:=H.1.up ak;have aC:=H.2.1.up ak;have a8:=H.2.2.1.up ak;have bD:=ak.size;obtain ⟨aF,bL⟩:=aP.cell (by rw [a_y];exact HV.1) K an;have bZ:=a_b aF;have hG:=Hg.out;have aJ:Stay g W5 (W5.setCell ⟨g,K,none⟩ (.int .i64 Z)):=(Stay.refl g W5).set K _
        have bg:Hid (OwnK .i64 48 (W5.setCell ⟨g,K,none⟩ (.int .i64 Z)) g (.slice (some ⟨g,0,none⟩) M cg) (b_l V (K+1))):=by
         have:=aP.store (by rw [a_y];exact HV.1) K Z;rw [<- HZ.2,a_9 V K (by rw [HV.1];exact an)] at this;rw [<- HZ.2];exact this
        have bj:Hid (OwnK .i64 3 ((W5.setCell ⟨g,K,none⟩ (.int .i64 Z)).alloc (.cells #[.int .i64 (bst:Int)] 3)) B u11 (PL.take K)):=((aC.stay aJ (aC.off hG.1)).up (a_a _ _))
        have aY:Hid (PlC (W5.setCell ⟨g,K,none⟩ (.int .i64 Z)) w.heap.size (w.heap.size+1) b8 (.slice (some ⟨qa,oa,none⟩) 2 c) (.slice (some ⟨qx,ox,none⟩) n2 c2) (.slice p8 n8 c8) (.slice (some ⟨g,0,none⟩) M cg) [(E:Int),(q:Int)] W7.heap.size):=a8.stay aJ (by omega) (by omega) (by omega) bd.1;have aa:Hid (Bw w (W5.setCell ⟨g,K,none⟩ (.int .i64 Z))/\B<=(W5.setCell ⟨g,K,none⟩ (.int .i64 Z)).heap.size):=⟨(a_c H.2.2.2.1 ak).setCell (p:=⟨g,K,none⟩) (by show w.heap.size<=g;omega) _,by have:=H.2.2.2.2;simp;omega⟩
        have a6:Hid (Nums .i64 ((W5.setCell ⟨g,K,none⟩ (.int .i64 Z)).alloc (.cells #[.int .i64 (bst:Int)] 3)) (.slice (some ⟨W5.heap.size,0,none⟩) 1 1) [(bst:Int)]):=by
         have e9:(W5.setCell ⟨g,K,none⟩ (.int .i64 Z)).heap.size=W5.heap.size:=by simp
         have:=a_8 (k:=.i64) (e:=3) (W5.setCell ⟨g,K,none⟩ (.int .i64 Z)) [(bst:Int)] 1 (0,0) rfl;rw [e9] at this;exact this
        have aZ:Hid ((PL.take K).length+[(bst:Int)].length<=1073741824):=by show _<=_;rw [length_take,HV.2.1];simp;omega
        have aI:Hid (Below B (W5.setCell ⟨g,K,none⟩ (.int .i64 Z)) ((W5.setCell ⟨g,K,none⟩ (.int .i64 Z)).alloc (.cells #[.int .i64 (bst:Int)] 3))):=(a_a _ _).mono aa.2;have a7:Hid _:=Nat.le_trans aa.2 aI.size;clear bi ak aP aC a8 bD a0 a1 a9 t0 t1 t9 R ay hG aJ af ap;go_wp2_with (at_builtin;refine a_x e_g (by decide) rfl (.tmp 114) (.tmp 116) rfl B _ _ rfl bj.out _ [(bst:Int)] rfl a6.out aZ.out a7.out _ aI.out ?_;intro v6 w6 H6 B6)
        have hG:=Hg.out
        have bo:Hid (OwnK .i64 48 w6 g (.slice (some ⟨g,0,none⟩) M cg) (b_l V (P*q+(J+1)))/\OwnK .i64 3 w6 B v6 (PL.take (P*q+(J+1)))/\PlC w6 w.heap.size (w.heap.size+1) b8 (.slice (some ⟨qa,oa,none⟩) 2 c) (.slice (some ⟨qx,ox,none⟩) n2 c2) (.slice p8 n8 c8) (.slice (some ⟨g,0,none⟩) M cg) [(E:Int),(q:Int)] W7.heap.size/\Bw w w6/\B<=w6.heap.size):=by
         refine ⟨?_,?_,aY.out.lowB (by omega) (by omega) (by omega) bd.2 B6,aa.1.trans (B6.mono (by omega)),Nat.le_trans aa.2 B6.size⟩
         ·rw [a5.out];exact bg.out.lowB (fun j hj=>by cases hj;exact hG.1) B6
         ·rw [a5.out,<- n_9 PL K (by rw [HV.2.1];exact an),HZ.1];exact H6.out
        clear bg bj aY aa a6 aZ aI a7 H6 B6 hG;go_wp2;go_roundg (q - (J+1))
        case measure=>omega
        case rel=>exact ⟨J+1,by omega,rfl,by first|rfl|simp,bo⟩
    ·obtain rfl:q=J:=by omega
     have H7:=H;rw [show P*q+q=(P+1)*q by rw [Nat.add_mul,Nat.one_mul]] at H7;clear H;go_wp2;go_roundg (E - (P+1))
     case measure=>omega
     case rel=>exact ⟨P+1,by omega,rfl,by first|rfl|simp,H7⟩
  ·obtain rfl:E=P:=by omega
   have f1:=HI.1;have f2:=HI.2.1;rw [aT.out] at f1 f2;have g1:b_l V M=V:=by have:=a_0 V;rw [HV.1] at this;exact this
   have g2:=take_of_length_le (Nat.le_of_eq HV.2.1);rw [g1] at f1;rw [g2] at f2;have hG:=Hg.out;obtain ⟨_,xr,xT,o1⟩:=HI.2.2.1
   have HF:Hid (TRes (set2 R1 (w.heap.size+1) (.slice p8 n8 c8) (.slice (some ⟨g,0,none⟩) M cg)) w.heap.size (.agg #[.slice p8 n8 c8,.slice (some ⟨g,0,none⟩) M cg]) [(E:Int),(q:Int)] V/\OwnK .i64 3 (set2 R1 (w.heap.size+1) (.slice p8 n8 c8) (.slice (some ⟨g,0,none⟩) M cg)) w.heap.size u11 PL/\Bw w (set2 R1 (w.heap.size+1) (.slice p8 n8 c8) (.slice (some ⟨g,0,none⟩) M cg))):=
    ⟨(TRes.set (B:=W7.heap.size) o1 (f1.low hG.2.2.2.2.2) hG.2.2.2.2.1).low (by omega),(f2.stay (Stay.set2 _ _ _) (f2.off (by omega))).low (by omega),a_q HI.2.2.2.1 _ (by omega) _ _⟩
   have cf:=xr.set (.slice p8 n8 c8) (.slice (some ⟨g,0,none⟩) M cg);obtain ⟨t0,t1,_,_⟩:=xT;obtain ⟨r0,r1,r2,r3⟩:=xr;obtain ⟨y0,y1,_,_⟩:=cf;have t9:=a_b t0;have r9:=a_b r0;clear f1 f2 g1 g2 o1 hG HI;go_wp2;exact bodyPost_ret (v:=.tuple #[.agg #[.slice p8 n8 c8,.slice (some ⟨g,0,none⟩) M cg],u11,.int .i64 0]) (by simp [results,Tryz.results78,go_sem,y0,y1]) rfl ⟨_,_,rfl,HF.out⟩
def TupQ (B:Nat) (D X P:List Int) (E:Int) (v:Value) (W:World):Prop:=∃ u q,v = .tuple #[u,q,.int .i64 E]/\OwnT B D X u W/\OwnK .i64 3 W B q P
theorem TupQ.up {B:Nat} {D X P:List Int} {E:Int} {v:Value} {W W':World} (h:TupQ B D X P E v W) (A:Bw W W'):TupQ B D X P E v W':=by
 obtain ⟨u,q,e,H,I⟩:=h;exact ⟨u,q,e,H.up A,I.up A⟩
def OwnI (B:Nat) (P:List Int) (v:Value) (W:World):Prop:=OwnK .i64 3 W B v P
theorem OwnI.up {B:Nat} {P:List Int} {v:Value} {W W':World} (h:OwnI B P v W) (A:Bw W W'):OwnI B P v W':=OwnK.up h A
theorem r_1 {z:Int} {p p2 p3 p4:Option Addr} {n c n2 c2 n3 c3 n4 c4:Nat} {K E:Int} {D V P:List Int} {w:World} (ez:whI K=z) (HC:Hid (∀ W,Bw w W->Calls Tryz.prog 78 #[.agg #[.slice p n c,.slice p2 n2 c2],.int .i64 z] W fun e Z=>∃ v' u',e = .returned (.tuple #[v',u',.int .i64 E])/\TRes Z W.heap.size v' D V/\OwnK .i64 3 Z W.heap.size u' P/\Bw W Z)):
  Calls Tryz.prog 45 #[.int .i64 13,.agg #[.slice p n c,.slice p2 n2 c2],.agg #[.slice p3 n3 c3,.slice p4 n4 c4],.int .i64 K] w fun e Z=>∃ v',e = .returned (.tuple #[v',.int .i64 E])/\TRes Z w.heap.size v' D V/\Bw w Z:=by
 have cw:∀ W,Calls Tryz.prog 72 #[.int .i64 K] W fun e Z=>e = .returned (.int .i64 z)/\Z=W:=fun W=>g_2 K z ez W;haveI:Nonempty World:=⟨w⟩
 clear ez;go_enter Tryz.func45,Tryz.ntmps45;go_wp2_with fail
 generalize ab:alloc _ _=W0;obtain ⟨aa,XA,XB,XR⟩:=s_F ab;clear ab;obtain ⟨a0,a1,_,_⟩:=XA.out;obtain ⟨b0,b1,_,_⟩:=XB.out;have k0:=a_b a0;have k1:=a_b b0;refine t_i [⟨3,86,TupQ W0.heap.size D V P E⟩,⟨4,82,TupQ W0.heap.size D V P E⟩,⟨5,87,OwnT W0.heap.size D V⟩,⟨6,88,OwnI W0.heap.size P⟩,⟨8,10,NewC W0.heap.size⟩] 9 100 (by kernel_rfl) rfl rfl [6,7] (by kernel_rfl) (by kernel_rfl) (fun i0 hi o0 ho c a w v h=>?_) (by rfl) ?_ ?_
 ·simp only [mem_cons,not_mem_nil,or_false] at hi;rcases hi with rfl|rfl
  ·cases ho;exact h
  ·cases ho;exact h
 ·exact upC (fun _ _ _=>TupQ.up) (upC (fun _ _ _=>TupQ.up) (upC (fun _ _ _=>OwnT.up) (upC (fun _ _ _=>OwnI.up) (upC (fun _ _ _=>NewC.up) upN))))
 apply Exists.intro;refine ⟨?yt,?yl,?wk,?pk,?rest⟩
 case wk=>
  intro x;simp only [take_succ_cons,take_zero]
  iterate 2
   apply c_w;rfl;rfl
   ·intro F hF hf K hK hFc hFf
    go_big_quiet_op
    exact hK
   (try simp only [a_v])
  apply c_w;rfl;rfl
  ·intro F hF hf K hK hFc hFf
   go_big_quiet_op
   first|exact hK|(apply Exists.intro;refine ⟨fun _=>?_,?_⟩;(· exact hF.same (cw _));exact hK)
  (try simp only [a_v])
  refine c_g rfl rfl ?_ ?_
  ·intro F hF hf d hFc hFf;simp [a_j,a_e,go_sem];refine (HC.out (F d) (a_c aa (hF.below d))).mono ?_;rintro e' w8 ⟨v8,u8,rfl,h8,g8,ai⟩;exact ⟨_,rfl,⟨v8,u8,rfl,(h8.low (hF.below d).size).own,g8.low (hF.below d).size⟩,ai⟩
  (try simp only [a_v])
  refine c_g rfl rfl ?_ ?_
  ·intro F hF hf d hFc hFf;have h9:=hf _ mS (by rfl) d;simp [a_j,a_e,go_sem];exact ⟨h9,Below.refl _ _⟩
  (try simp only [a_v])
  refine c_g rfl rfl ?_ ?_
  ·intro F hF hf d hFc hFf;have h9:=hf _ (mC mS) (by rfl) d;obtain ⟨u9,q9,A,n9,o9⟩:=h9;simp only [] at A n9;simp [a_j,a_e,go_sem,A];exact ⟨n9,Below.refl _ _⟩
  (try simp only [a_v])
  refine c_g rfl rfl ?_ ?_
  ·intro F hF hf d hFc hFf;have h9:=hf _ (mC mS) (by rfl) d;obtain ⟨u9,q9,A,n9,o9⟩:=h9;simp only [] at A o9;simp [a_j,a_e,go_sem,A];exact ⟨o9,Below.refl _ _⟩
  (try simp only [a_v])
  apply c_w;rfl;rfl
  ·intro F hF hf K hK hFc hFf;have h9:=hf _ (mC mS) (by rfl);obtain ⟨u9,q9,A,_⟩:=h9 w;simp only [] at A
   go_big_quiet_op
   exact hK
  (try simp only [a_v])
  refine c_g rfl rfl ?_ ?_
  ·intro F hF hf d hFc hFf;simp [a_j,a_e,go_sem];exact ⟨⟨(F d).heap.size,rfl,heap_alloc_new (F d) _,(hF.below d).size⟩,a_a _ _⟩
  (try simp only [a_v])
  refine b_A ?_;exact rfl
 case pk=>
  intro x;simp only [b_q,foldl_cons,foldl_nil,a_v]
 case yt=>
  intro i0 hi o0 ho e he W x hx;simp only [mem_cons,not_mem_nil,or_false] at hi;rcases hi with rfl|rfl
  ·cases ho;have ak:=Option.some.inj he;subst ak;obtain ⟨u9,q9,A,n9,o9⟩:=hx _ (mC mS) (by rfl);simp only [] at A;refine ⟨q9,o9,.inl ⟨by rfl,fun w=>?_⟩⟩;simp [execOp,Act.eval,A,go_sem]
  ·cases he
 case yl=>
  intro i0 hi o0 ho hn x hx;simp only [mem_cons,not_mem_nil,or_false] at hi;rcases hi with rfl|rfl
  ·cases hn
  ·cases ho;obtain ⟨W9,u9,q9,A,_⟩:=hx _ (mC mS) (by rfl);simp only [] at A;refine ⟨.int .i64 E,fun t ht=>?_,.inl ⟨by rfl,fun w=>?_⟩⟩
   ·cases ht;rfl
   ·simp [execOp,Act.eval,A,go_sem]
 intro w1 xs ad hf;simp only [drop_succ_cons,drop_zero];have af:=hf _ (mC (mC mS));have hN:=hf _ (mC (mC (mC (mC mS))));obtain ⟨x3,e3⟩:∃ q,xs 3=q:=⟨_,rfl⟩
 obtain ⟨x4,e4⟩:∃ q,xs 4=q:=⟨_,rfl⟩
 obtain ⟨x5,e5⟩:∃ q,xs 5=q:=⟨_,rfl⟩
 obtain ⟨x8,e8⟩:∃ q,xs 8=q:=⟨_,rfl⟩
 simp only [e5] at af;simp only [e8] at hN;simp only [e3,e4,e5,e8];obtain ⟨x6,e6⟩:∃ q,xs 6=q:=⟨_,rfl⟩
 simp only [e6];obtain ⟨J,H,L,I,O,M,rfl,ae,ag⟩:=af;obtain ⟨g,rfl,R,ah⟩:=hN;have o6:Only [50] w1 (set2 w1 g (.slice J H L) (.slice I O M)):=(Only.set R (by simp)).trans (Only.set (a_l R) (by simp));have hs:=ae.only o6 (by decide);have ht:=ag.only o6 (by decide);have ac:=b_1 ad g ah (.slice J H L) (.slice I O M);have cg:=(c_x R).set (.slice J H L) (.slice I O M);obtain ⟨aq,ap,ao,an⟩:=c_x R;obtain ⟨au,ar,_,_⟩:=cg;have al:=XR.out.up ad;obtain ⟨q0,q1,q2,q3⟩:=al;have aj:g≠w.heap.size+2:=by have:=a_b XR.1;omega
 have am:=Ne.symm aj;clear ae ag o6 e3 e4 e5 e6 e8 hf HC a0 a1 b0 b1 k0 k1 cw
 have HF:Hid (TRes (set2 (set2 w1 g (.slice J H L) (.slice I O M)) (w.heap.size+2) (.slice J H L) (.slice I O M)) w.heap.size (.agg #[.slice J H L,.slice I O M]) D V/\Bw w (set2 (set2 w1 g (.slice J H L) (.slice I O M)) (w.heap.size+2) (.slice J H L) (.slice I O M))):=
  ⟨(TRes.set hs ht (a_b XR.1)).low aa.size,a_q (a_c aa ac) _ (by omega) _ _⟩
 have xr:=XR.out.up ac;have cf:=xr.set (.slice J H L) (.slice I O M);obtain ⟨r0,r1,r2,r3⟩:=xr;obtain ⟨z0,z1,_,_⟩:=cf;clear hs ht;go_wp2;exact bodyPost_ret (v:=.tuple #[.agg #[.slice J H L,.slice I O M],.int .i64 E]) (by simp [results,Tryz.results45,go_sem,z0,z1]) rfl ⟨_,rfl,HF.out⟩
end Go.Proofs.YtkfpainpomobfaaGreatDoor.Wd
