/- The reference's Shapes. -/
import Derived.Test.YtcpbhhlepdgdkaaGreatDoorT25
import Derived.Deep.CutBlock
set_option linter.unusedVariables false
set_option linter.unusedSimpArgs false
set_option maxHeartbeats 16000000
set_option maxRecDepth 16000
namespace Go.Proofs.YtcpbhhlepdgdkaaGreatDoor.Wd
open Go.RowKit
theorem p_G {ls:List Ly} {S:List (List Int)} (o:List Int):∀ {k:Nat},k+1<=S.length->rG ls (S++[o]) k=rG ls S k
 | 0,_=>rfl
 | k+1,h=>by
  simp only [rG];rw [p_G o (k:=k) (by omega),d_X _ (by omega),d_X _ (by omega)]
theorem n_h {s:ByteArray} {x y:Int} {dd:List Int} (h:a_s s=1) (hb:dd.length≠2):d_F (s,x,y) dd=none:=by
 unfold d_F;simp [h,hb]
theorem n_i {s:ByteArray} {x y:Int} {dd:List Int} (h:a_s s=2) (hb:dd.length≠2):d_F (s,x,y) dd=none:=by
 unfold d_F;simp [h,hb]
/-- What Shapes answers. -/
def ShR (d:List Int) (ls:List Ly) (B:Nat) (e:Ending) (W:World):Prop:=∃ v',e = .returned (.tuple #[v',.int .i64 (nP d ls),.int .i64 (nE d ls)])/\OwnS W B v' (nS d ls)
theorem ShR.bad {d:List Int} {ls:List Ly} {B:Nat} {W:World} {E:Int} (h:nE d ls=E) (H:E≠0):ShR d ls B (.returned (.tuple #[.slice none 0 0,.int .i64 0,.int .i64 E])) W:=by
 obtain ⟨D,I⟩:=i_h (d:=d) (ls:=ls) (by rw [h];exact H);exact ⟨_,by rw [I,h],by rw [D];exact OwnS.nil W B⟩
/-- One shape more, behind those that the call made. -/
theorem o_Z {w wc D:World} {N:Obj} {ps I:Option Addr} {O cs H E:Nat} {S:List (List Int)} {oo:List Int} (hO:OwnS wc w.heap.size (.slice ps O cs) S) (hl:S.length=O) (U:Below w.heap.size w wc) (hN:∃ a b,N = .cells a b (0,0)/\b≠22) (hX:wc.heap[w.heap.size]?=some N) (h2:OwnK .i64 3 D wc.heap.size (.slice I H E) oo) (aa:Below wc.heap.size wc D):
  ∃ vs,(D.alloc (.cells #[.slice I H E] 22)).ownsRow w.heap.size 22 1 (.slice ps O cs) O vs/\(D.alloc (.cells #[.slice I H E] 22)).heap[D.heap.size]?=some (.cells [.slice I H E].toArray 22 (0,0))/\(∀ y∈[Value.slice I H E],y.oneCell'=true)/\w.heap.size<=(D.alloc (.cells #[.slice I H E] 22)).heap.size/\
   ∀ R M,M.ownsRow w.heap.size 22 1 R (O+1) (vs++[.slice I H E])->Only [22] (D.alloc (.cells #[.slice I H E] 22)) M->(∀ w',Below w.heap.size w' (D.alloc (.cells #[.slice I H E] 22))->Below w.heap.size w' M)->(OwnS M w.heap.size R (S++[oo])/\Below w.heap.size w M)/\M.heap[w.heap.size]?=some N:=by
 obtain ⟨vs,L,ab⟩:=hO;have ac:vs.length=S.length:=by have:=L.1;omega
 have hb:=a_b D (.cells #[.slice I H E] 22);have J:Below wc.heap.size wc (D.alloc (.cells #[.slice I H E] 22)):=a_c aa hb;rw [hl] at L;refine ⟨vs,a_C (S:=[]) L (Only.of J) (by simp),heap_alloc_new D _,fun y hy=>by simp at hy;subst hy;rfl,by have:=(a_c U J).size;exact this,fun R M g1 g2 g3=>?_⟩;obtain ⟨ad,ae,rfl,V⟩:=hN;refine ⟨⟨OwnS.push (W:=D.alloc (.cells #[.slice I H E] 22)) (vs:=vs) (by rw [hl];exact g1) ac (fun i hi=>?_) ((h2.low U.size).up hb) g2,g3 w (a_c U J)⟩,g2.keep ((J.block _ (a_i hX)).trans hX) (by simpa using V)⟩;obtain ⟨a',b',c',e',h'⟩:=ab i hi;exact ⟨a',b',c',e',h'.up J⟩
theorem j_f (p p2:Option Addr) (n c n2 c2:Nat) (d:List Int) (ls:List Ly) (bn:n2<=1073741823) (w:World) (V:Nums .i64 w (.slice p n c) d) (hL:LyR 0 w p2 n2 ls):
  Calls Tryz.prog 15 #[.agg #[.slice p n c,.slice p2 n2 c2]] w fun e w'=>ShR d ls w.heap.size e w'/\Below w.heap.size w w':=by
 haveI:Nonempty World:=⟨w⟩
 have HK:Hid (Nums .i64 w (.slice p n c) d/\LyR 0 w p2 n2 ls):=⟨V,hL⟩
 clear V hL;go_enter Tryz.func15,Tryz.ntmps15;go_wp2_with fail
 generalize aE:World.alloc _ _=W0;have aC:Hid (Below w.heap.size w W0):=by rw [<- aE];exact a_b w _
 have aU:Hid (W0.heap[w.heap.size]?=some (.cells #[.slice p n c,.slice p2 n2 c2] 57 (0,0))):=by
  show _=_;rw [<- aE];exact heap_alloc_new w _
 clear aE;obtain ⟨qf,aK⟩:∃ q,b_L d ls=q:=⟨_,rfl⟩
 have HF:Hid (b_L d ls=qf):=aK;have cF:=k_5 p p2 n c n2 c2 d ls (by omega) W0 (HK.out.1.up aC.out) (HK.out.2.up aC.out);rw [aK] at cF;clear aK;refine cF.mono ?_;rintro e w1 ⟨rfl,hB⟩;have am:Hid (Below w.heap.size w w1):=a_c aC.out hB;have ap:Hid (w1.heap[w.heap.size]?=some (.cells #[.slice p n c,.slice p2 n2 c2] 57 (0,0))):=(hB.block _ (a_i aU.out)).trans aU.out;obtain ⟨⟨g0,_⟩,⟨g1,_⟩⟩:=e_q ap.out;have kg:=a_g g0;clear hB aC aU cF;cases qf with
 | false=>
  have hE:nE d ls=1:=m_Y (by rw [HF.out];simp);have HE:Hid (nE d ls=1):=hE;clear hE;go_wp2;exact bodyPost_ret (v:=.tuple #[.slice none 0 0,.int .i64 0,.int .i64 1]) (by simp [results,Tryz.results15,go_sem]) rfl ⟨ShR.bad HE.out (by decide),am.out⟩
 | true=>
  obtain ⟨hd,aY⟩:=(c_j d ls).1 HF.out;have HD:Hid (InOk d/\∀ l∈ls,a_R l):=⟨hd,aY⟩
  have H5:Hid (OwnK .i64 3 (w1.alloc (.cells #[] 3)) w1.heap.size (.slice (some ⟨w1.heap.size,0,none⟩) 0 0) []):=c_b (k:=.i64) (e:=3) w1 [] 0 rfl (by decide);have H6:Hid (Nums .i64 (w1.alloc (.cells #[] 3)) (.slice p n c) d):=HK.out.1.up (a_c am.out (a_b w1 _));have H7:Hid (([]:List Int).length+d.length<=1073741824):=by show _<=_;have:=hd.smal.1;simp;omega
  have H8:Hid (w1.heap.size<=(w1.alloc (.cells #[] 3)).heap.size):=by show _<=_;simp
  have H9:Hid (Below w1.heap.size w1 (w1.alloc (.cells #[] 3))):=a_b w1 _;clear hd aY;go_wp2_with (at_builtin;refine a_E i_r (by decide) rfl (.tmp 15) (.tmp 17) rfl w1.heap.size _ [] rfl H5.out _ d rfl H6.out H7.out H8.out w1 H9.out ?_;intro v2 U H2 B2;obtain ⟨pa,na,ca,rfl,_⟩:=H2.out.nums.lst;have H:Hid (Below w1.heap.size w1 U):=B2;clear B2;replace g0:=a_h H.out g0;replace g1:=a_h H.out g1;replace kg:=a_g g0)
  generalize aR:World.alloc _ _=W3;have ah:Below U.heap.size U W3:=by rw [<- aR];exact a_b U _
  have aJ:Hid (OwnS W3 w.heap.size (.slice (some ⟨U.heap.size,0,none⟩) 1 1) [d]/\Below w.heap.size w W3):=by
   show _/\_;refine ⟨⟨[.slice pa na ca],⟨rfl,.inr ⟨U.heap.size,1,#[.slice pa na ca],rfl,(a_c am.out H.out).size,?_,Nat.le_refl _,by unfold maxLen;omega,rfl,rfl⟩⟩,fun i hi=>?_⟩,a_c (a_c am.out H.out) ah⟩
   ·rw [<- aR];exact heap_alloc_new U _
   ·obtain rfl:i=0:=by simp at hi;omega
    exact ⟨_,_,_,rfl,(H2.out.low am.out.size).up ah⟩
  have bj:Hid (W3.heap[w.heap.size]?=some (.cells #[.slice p n c,.slice p2 n2 c2] 57 (0,0))):=(ah.block _ (by have:=a_i ap.out;have:=H.out.size;omega)).trans ((H.out.block _ (a_i ap.out)).trans ap.out);replace g0:=a_h ah g0;replace g1:=a_h ah g1;replace kg:=a_g g0;clear aR ah H2 H5 H6 H7 H8 H9 am H ap;go_region
  have bl:Hid (OwnS W3.drew w.heap.size (.slice (some ⟨U.heap.size,0,none⟩) 1 1) [d]/\Below w.heap.size w W3.drew):=by
   have hD:Below W3.heap.size W3 W3.drew:=⟨rfl,rfl,rfl,Nat.le_refl _,fun _ _=>rfl⟩
   exact ⟨aJ.out.1.up hD,a_c aJ.out.2 hD⟩
  clear aJ;go_wp2_with fail
  go_loopg [5,6,7,8] n2 (fun gg v5 v6 v7 v8 wr=>∃ (k:Nat) (S:List (List Int)) (g:Bool) (a:Int),k<=n2/\gg=n2 - k/\v6 = .int .i64 a/\v7 = .bool g/\v8 = .int .i64 (k:Int)/\Hid (OwnS wr w.heap.size v5 S/\Below w.heap.size w wr)/\Hid (shN d ls k=some S)/\Hid (rG ls S k=(g,a))/\Hid (wr.heap[w.heap.size]?=some (.cells #[.slice p n c,.slice p2 n2 c2] 57 (0,0))))
  case atStart=>
   refine ⟨0,[d],_,0,by omega,by omega,rfl,rfl,rfl,bl,rfl,?_,bj⟩;show (decide (16 < ls.length),(0:Int))=_;rw [HK.out.2.1];exact Prod.ext (decide_eq_decide.2 (by omega)) rfl
  case round=>
   obtain ⟨k,S,g,a,hk,hg,rfl,rfl,rfl,HO,HS,HR,HX⟩:=hrel;obtain ⟨ps,cs,rfl,aS⟩:=HO.out.1.rd;have aQ:=c_W HS.out;obtain ⟨sl,aO⟩:∃ sl,S.length=sl:=⟨_,rfl⟩
   rw [aO] at aS aQ HO ⊢;have aH:Hid (RdS wr ps sl S):=aS;have aj:Hid (S.length=sl/\sl=k+1):=⟨aO,aQ⟩
   have bt:(sl:Int) - 1=(k:Int):=by omega
   have bq:(k:Int) < (sl:Int):=by omega
   obtain ⟨⟨g0,_⟩,⟨g1,_⟩⟩:=e_q HX.out;have kg:=a_g g0;clear aO aS aQ;by_cases a2:k < n2
   ·have bA:(k:Int) < (n2:Int):=by omega
    have av:k < ls.length:=by rw [HK.out.2.1];exact a2
    obtain ⟨q,o,rfl,c0,c1,aZ⟩:=(HK.out.2.up HO.out.2).2 k a2;obtain ⟨q3,o3,a3,b3,d3,rfl,s3,m3⟩:=aH.out.2 k (by have:=aj.out.2;omega);have hl:=HD.out.2 _ (d_W av);have aD:=e_o HD.out.1 HD.out.2 (by omega) HS.out k (by omega);obtain ⟨l,el⟩:∃ l,lyA ls k=l:=⟨_,rfl⟩
    obtain ⟨dd,ed⟩:∃ dd,shA S k=dd:=⟨_,rfl⟩
    have a1:=p_F (ls:=ls) (S:=S) (i:=k) (fun j hj=>e_o HD.out.1 HD.out.2 (by omega) HS.out j (by omega)) (fun j hj=>HD.out.2 _ (d_W (by omega)));rw [HR.out] at a1;simp only [] at a1;obtain ⟨s,x,y⟩:=l
    have I:Hid (f_8 ls k S=if s=e_m/\¬ c_1 ls S k then none else (d_F (s,x,y) dd).map fun o=>S++[o]):=by
     have bf:∀ l dd,lyA ls k=l->shA S k=dd->f_8 ls k S=if l.1=e_m/\¬ c_1 ls S k then none else (d_F l dd).map fun o=>S++[o]:=by
      rintro _ _ rfl rfl;rfl
     exact bf _ _ el ed
    have ac:Hid (∀ J,rG ls (S++[J]) (k+1)=if 4096 < a+psz (s,x,y) dd then (true,4097) else (g || rP (s,x,y) dd || decide (4096 < a_u J),a+psz (s,x,y) dd)):=fun J=>by
     have V:S.length=k+1:=by rw [aj.out.1,aj.out.2]
     simp only [rG];rw [p_G J (by omega),HR.out,el,d_X _ (by omega),ed,g_9 S J (k+1) V]
    rw [el] at c0 c1 aZ hl;rw [ed] at m3 aD;have HM:Hid (Nums .i64 wr (.slice a3 b3 d3) dd):=m3;have O:Hid (a_R (s,x,y)/\InOk dd):=⟨hl,aD⟩
    have ba:=a_g c0;have a9:=a_g s3;have bc:Hid (shA S k=dd/\lyA ls k=(s,x,y)):=⟨ed,el⟩
    clear el ed hl aD m3 av;go_upto_block 2 with fail
    generalize aI:World.alloc _ _=W2;have H:Hid (Below wr.heap.size wr W2):=by rw [<- aI];exact a_b wr _
    obtain ⟨e0,e1,e2⟩:W2.cell? ⟨wr.heap.size,0,none⟩=some (.string s)/\W2.cell? ⟨wr.heap.size,1,none⟩=some (.int .i64 x)/\W2.cell? ⟨wr.heap.size,2,none⟩=some (.int .i64 y):=by rw [<- aI];simp [go_sem]
    have ke:=a_g e0;replace g0:=a_h H.out g0;replace g1:=a_h H.out g1;replace kg:=a_g g0;clear aI c0 c1 aZ s3 ba a9
    go_cut [6,7,9,11] from 24 to 176 (fun v6 v7 v9 bC wx=>∃ (g':Bool) (a':Int) (pd:Option Addr) (nd cd:Nat) (J:List Int),v6 = .int .i64 a'/\v7 = .bool g'/\v9 = .slice pd nd cd/\Hid (shN d ls (k+1)=some (S++[J])/\g'=(g || rP (s,x,y) dd)/\a'=a+psz (s,x,y) dd/\InOk J)/\Hid (Nums .i64 wx (.slice pd nd cd) J/\Below wr.heap.size wr wx))
    case first=>
     obtain ⟨k0,k1,k2,k3,k4⟩:=kts s;have av:=m_W s;obtain ⟨z,ez⟩:∃ z,a_s s=z:=⟨_,rfl⟩
     have L:Hid (a_s s=z):=ez;rw [ez] at k0 k1 k2 k3 k4 av;have bs:z < 5:=by rw [<- ez];exact O.out.1.1
     clear ez;obtain ⟨pm,nm,cm,bg,HC⟩:=(HM.out.up H.out).lst;cases bg;have aa:Hid (Below w.heap.size w W2):=a_c HO.out.2 H.out;rcases (show z=0∨z=1∨z=2∨z=3∨z=4 by omega) with rfl|rfl|rfl|rfl|rfl
     ·simp only [decide_true,show (decide ((0:Nat)=0))=true from by decide,show (decide ((0:Nat)=1))=false from by decide,show (decide ((0:Nat)=2))=false from by decide,show (decide ((0:Nat)=3))=false from by decide,show (decide ((0:Nat)=4))=false from by decide] at k0 k1 k2 k3 k4
      have ao:1<=x/\x<=256:=by
       rcases a_L O.out.1 with ⟨-,h,V,-⟩|⟨-,h,V,-⟩|⟨-,h,V,-⟩|⟨-,h,V,-⟩|⟨-,h,V,-⟩ <;> simp only [L.out] at h <;> first|exact V|omega
      go_wp2_with fail
      have cP:=f_W (.slice a3 b3 d3) dd O.out.2.smal W2 (HM.out.up H.out);have a7:=O.out.2.prod;obtain ⟨M,eM⟩:∃ M,a_u dd=M:=⟨_,rfl⟩
      rw [eM] at cP a7;have bb:=a_3 ao a7;obtain ⟨t,et⟩:∃ t,x*M=t:=⟨_,rfl⟩
      have HP:Hid (rP (s,x,y) dd=decide (4096 < t)/\psz (s,x,y) dd=t+x):=by
       unfold rP psz;simp only [L.out,if_true];rw [eM,et];exact ⟨rfl,rfl⟩
      rw [et] at bb;clear eM;refine cP.mono ?_;rintro e w3 ⟨rfl,rfl⟩;clear cP;cases g with
      | true=>
       go_wp2;go_meet
       case rel=>exact ⟨_,_,_,_,_,[x],rfl,rfl,rfl,⟨(show shN d ls (k+1)=some (S++[[x]]) by rw [a_G HS.out,I.out,if_neg fun h=>absurd ((c_Y s).1 h.1) (by rw [L.out];decide),show d_F (s,x,y) dd=some [x] by unfold d_F;rw [if_pos L.out]];rfl),by rw [HP.out.1];rfl,by rw [HP.out.2,Int.add_assoc],.inl ⟨x,rfl,by omega,by omega⟩⟩,⟨a_5 (k:=.i64) _ [x] 1 (0,0) rfl,a_c H.out (a_b _ _)⟩⟩
      | false=>
       go_wp2;go_meet
       case rel=>exact ⟨_,_,_,_,_,[x],rfl,rfl,rfl,⟨(show shN d ls (k+1)=some (S++[[x]]) by rw [a_G HS.out,I.out,if_neg fun h=>absurd ((c_Y s).1 h.1) (by rw [L.out];decide),show d_F (s,x,y) dd=some [x] by unfold d_F;rw [if_pos L.out]];rfl),by rw [HP.out.1];rfl,by rw [HP.out.2,Int.add_assoc],.inl ⟨x,rfl,by omega,by omega⟩⟩,⟨a_5 (k:=.i64) _ [x] 1 (0,0) rfl,a_c H.out (a_b _ _)⟩⟩
     ·simp only [decide_true,show (decide ((1:Nat)=0))=false from by decide,show (decide ((1:Nat)=1))=true from by decide,show (decide ((1:Nat)=2))=false from by decide,show (decide ((1:Nat)=3))=false from by decide,show (decide ((1:Nat)=4))=false from by decide] at k0 k1 k2 k3 k4
      have ao:(1<=x/\x<=16)/\1<=y/\y<=16:=by
       rcases a_L O.out.1 with ⟨-,h,V,-⟩|⟨-,h,V,h2⟩|⟨-,h,V,-⟩|⟨-,h,V,-⟩|⟨-,h,V,-⟩ <;> simp only [L.out] at h <;> first|exact ⟨V,h2⟩|omega
      have aM:(∃ u v,dd = [u,v]/\b3=2)∨b3≠2:=by
       by_cases h:b3=2
       ·have aq:=HC.out.1;rw [h] at aq
        match dd,aq with
        | [u,v],_=>exact .inl ⟨u,v,rfl,h⟩
       ·exact .inr h
      rcases aM with ⟨u,v,rfl,ab⟩|ab
      ·obtain ⟨qa,oa,rfl,u0⟩:=HC.out.2 0 (by omega);obtain ⟨qb,ob,e,v0⟩:=HC.out.2 1 (by omega);cases e;simp only [List.getD_cons_zero,List.getD_cons_succ,Nat.add_zero] at u0 v0;have ku:=a_g u0
       have aW:(1<=u/\u<=64)/\1<=v/\v<=64:=by
        rcases O.out.2 with ⟨a,h,_⟩|⟨a,b,h,V,h2⟩
        ·simp at h
        ·simp only [List.cons.injEq,and_true] at h;obtain ⟨rfl,rfl⟩:=h;exact ⟨V,h2⟩
       have t2:((b3:Int) != 2)=false:=by rw [ab];rfl
       have i0:(0:Int) < (b3:Int):=by omega
       have i1:(1:Int) < (b3:Int):=by omega
       clear ab;by_cases hy:v < y
       ·have R:Hid (shN d ls ls.length=none):=by
         refine b_o (i:=k+1) ?_ (by rw [HK.out.2.1];omega);rw [a_G HS.out,I.out];rw [if_neg fun h=>absurd ((c_Y s).1 h.1) (by rw [L.out];decide)];rw [show d_F (s,x,y) [u,v]=none by unfold d_F;simp only [L.out];simp;omega];rfl
        clear ac I;go_wp2;go_region;go_wp2;exact bodyPost_ret (v:=.tuple #[.slice none 0 0,.int .i64 0,.int .i64 4]) (by simp [results,Tryz.results15,go_sem]) rfl ⟨ShR.bad (d_l HF.out (R.out)) (by decide),by have h9:=aa.out;exact a_c h9 ⟨rfl,rfl,rfl,Nat.le_refl _,fun _ _=>rfl⟩⟩
       have bi:y<=v:=by omega
       have aX:=a_3 ao.1 aW.1;obtain ⟨t,et⟩:∃ t,x*u=t:=⟨_,rfl⟩
       rw [et] at aX;have be:=a_3 aX ao.2;obtain ⟨t',a5⟩:∃ t',t*y=t':=⟨_,rfl⟩
       rw [a5] at be
       have HP:Hid (rP (s,x,y) [u,v]=decide (4096 < t')/\psz (s,x,y) [u,v]=t'):=by
        unfold rP psz;simp only [L.out,if_neg (show ¬ (1:Nat)=0 by omega),if_true,List.getD_cons_zero];rw [et,a5];exact ⟨rfl,rfl⟩
       have ad:Hid (d_F (s,x,y) [u,v]=some [x,v - y+1]):=by
        show _=_;unfold d_F;simp only [L.out];simp;omega
       cases g with
       | true=>
        iterate 4
         go_wp2;go_region
        go_wp2;go_meet
        case rel=>exact ⟨_,_,_,_,_,[x,v - y+1],rfl,rfl,rfl,⟨(show shN d ls (k+1)=some (S++[[x,v - y+1]]) by rw [a_G HS.out,I.out,if_neg fun h=>absurd ((c_Y s).1 h.1) (by rw [L.out];decide),ad.out];rfl),by rw [HP.out.1];rfl,by rw [HP.out.2],.inr ⟨x,_,rfl,by omega,by omega,by omega⟩⟩,⟨a_5 (k:=.i64) _ [x,v - y+1] 2 (0,0) rfl,a_c H.out (by go_grown)⟩⟩
       | false=>
        iterate 4
         go_wp2;go_region
        go_wp2;go_meet
        case rel=>exact ⟨_,_,_,_,_,[x,v - y+1],rfl,rfl,rfl,⟨(show shN d ls (k+1)=some (S++[[x,v - y+1]]) by rw [a_G HS.out,I.out,if_neg fun h=>absurd ((c_Y s).1 h.1) (by rw [L.out];decide),ad.out];rfl),by rw [HP.out.1];rfl,by rw [HP.out.2],.inr ⟨x,_,rfl,by omega,by omega,by omega⟩⟩,⟨a_5 (k:=.i64) _ [x,v - y+1] 2 (0,0) rfl,a_c H.out (by go_grown)⟩⟩
      ·have t2:((b3:Int) != 2)=true:=by simpa using (show (b3:Int)≠2 by omega)
       have R:Hid (shN d ls ls.length=none):=by
        refine b_o (i:=k+1) ?_ (by rw [HK.out.2.1];omega);rw [a_G HS.out,I.out];rw [if_neg fun h=>absurd ((c_Y s).1 h.1) (by rw [L.out];decide)];rw [n_h L.out fun h=>ab (by rw [<- HC.out.1];exact h)];rfl
       clear ac I ab;go_wp2;go_region;go_wp2;exact bodyPost_ret (v:=.tuple #[.slice none 0 0,.int .i64 0,.int .i64 4]) (by simp [results,Tryz.results15,go_sem]) rfl ⟨ShR.bad (d_l HF.out (R.out)) (by decide),a_c aa.out ⟨rfl,rfl,rfl,Nat.le_refl _,fun _ _=>rfl⟩⟩
     ·simp only [decide_true,show (decide ((2:Nat)=0))=false from by decide,show (decide ((2:Nat)=1))=false from by decide,show (decide ((2:Nat)=2))=true from by decide,show (decide ((2:Nat)=3))=false from by decide,show (decide ((2:Nat)=4))=false from by decide] at k0 k1 k2 k3 k4
      have ao:1<=x/\x<=16:=by
       rcases a_L O.out.1 with ⟨-,h,V,-⟩|⟨-,h,V,h2⟩|⟨-,h,V,-⟩|⟨-,h,V,-⟩|⟨-,h,V,-⟩ <;> simp only [L.out] at h <;> first|exact V|omega
      have HP:Hid (rP (s,x,y) dd=false/\psz (s,x,y) dd=0):=by
       show _/\_;unfold rP psz;simp [L.out]
      have aM:(∃ u v,dd = [u,v]/\b3=2)∨b3≠2:=by
       by_cases h:b3=2
       ·have aq:=HC.out.1;rw [h] at aq
        match dd,aq with
        | [u,v],_=>exact .inl ⟨u,v,rfl,h⟩
       ·exact .inr h
      rcases aM with ⟨u,v,rfl,ab⟩|ab
      ·obtain ⟨qa,oa,rfl,u0⟩:=HC.out.2 0 (by omega);obtain ⟨qb,ob,e,v0⟩:=HC.out.2 1 (by omega);cases e;simp only [List.getD_cons_zero,List.getD_cons_succ,Nat.add_zero] at u0 v0;have ku:=a_g u0
       have aW:(1<=u/\u<=64)/\1<=v/\v<=64:=by
        rcases O.out.2 with ⟨a,h,_⟩|⟨a,b,h,V,h2⟩
        ·simp at h
        ·simp only [List.cons.injEq,and_true] at h;obtain ⟨rfl,rfl⟩:=h;exact ⟨V,h2⟩
       have t2:((b3:Int) != 2)=false:=by rw [ab];rfl
       have i0:(0:Int) < (b3:Int):=by omega
       have i1:(1:Int) < (b3:Int):=by omega
       clear ab;by_cases hy:v < x
       ·have R:Hid (shN d ls ls.length=none):=by
         refine b_o (i:=k+1) ?_ (by rw [HK.out.2.1];omega);rw [a_G HS.out,I.out];rw [if_neg fun h=>absurd ((c_Y s).1 h.1) (by rw [L.out];decide)];rw [show d_F (s,x,y) [u,v]=none by unfold d_F;simp only [L.out];simp;omega];rfl
        clear ac I;go_wp2;go_region;go_wp2;exact bodyPost_ret (v:=.tuple #[.slice none 0 0,.int .i64 0,.int .i64 4]) (by simp [results,Tryz.results15,go_sem]) rfl ⟨ShR.bad (d_l HF.out (R.out)) (by decide),a_c aa.out ⟨rfl,rfl,rfl,Nat.le_refl _,fun _ _=>rfl⟩⟩
       have bi:x<=v:=by omega
       have bD:(x==0)=false:=by simpa using (show x≠0 by omega)
       have ad:Hid (d_F (s,x,y) [u,v]=some [u,v / x]):=by
        show _=_;unfold d_F;simp only [L.out];simp [Int.tdiv_eq_ediv_of_nonneg (show 0<=v by omega)];omega
       have a6:Hid (InOk [u,v / x]):=O.out.2.out O.out.1 ad.out
       iterate 2
        go_wp2;go_region
       go_wp2;go_meet
       case rel=>exact ⟨_,_,_,_,_,[u,v / x],rfl,rfl,rfl,⟨(show shN d ls (k+1)=some (S++[[u,v / x]]) by rw [a_G HS.out,I.out,if_neg fun h=>absurd ((c_Y s).1 h.1) (by rw [L.out];decide),ad.out];rfl),by rw [HP.out.1,Bool.or_false],by rw [HP.out.2,Int.add_zero],a6.out⟩,⟨(a_5 (k:=.i64) W2 [u,v / x] 2 (0,0) rfl).up ⟨rfl,rfl,rfl,Nat.le_refl _,fun _ _=>rfl⟩,a_c H.out (by go_grown)⟩⟩
      ·have t2:((b3:Int) != 2)=true:=by simpa using (show (b3:Int)≠2 by omega)
       have R:Hid (shN d ls ls.length=none):=by
        refine b_o (i:=k+1) ?_ (by rw [HK.out.2.1];omega);rw [a_G HS.out,I.out];rw [if_neg fun h=>absurd ((c_Y s).1 h.1) (by rw [L.out];decide)];rw [n_i L.out fun h=>ab (by rw [<- HC.out.1];exact h)];rfl
       clear ac I ab;go_wp2;go_region;go_wp2;exact bodyPost_ret (v:=.tuple #[.slice none 0 0,.int .i64 0,.int .i64 4]) (by simp [results,Tryz.results15,go_sem]) rfl ⟨ShR.bad (d_l HF.out (R.out)) (by decide),a_c aa.out ⟨rfl,rfl,rfl,Nat.le_refl _,fun _ _=>rfl⟩⟩
     ·simp only [decide_true,show (decide ((3:Nat)=0))=false from by decide,show (decide ((3:Nat)=1))=false from by decide,show (decide ((3:Nat)=2))=false from by decide,show (decide ((3:Nat)=3))=true from by decide,show (decide ((3:Nat)=4))=false from by decide] at k0 k1 k2 k3 k4
      have HP:Hid (rP (s,x,y) dd=false/\psz (s,x,y) dd=0):=by
       show _/\_;unfold rP psz;simp [L.out]
      have ad:Hid (d_F (s,x,y) dd=some dd):=by
       show _=_;unfold d_F;simp only [L.out];simp
      go_wp2;go_meet
      case rel=>exact ⟨_,_,_,_,_,dd,rfl,rfl,rfl,⟨(show shN d ls (k+1)=some (S++[dd]) by rw [a_G HS.out,I.out,if_neg fun h=>absurd ((c_Y s).1 h.1) (by rw [L.out];decide),ad.out];rfl),by rw [HP.out.1,Bool.or_false],by rw [HP.out.2,Int.add_zero],O.out.2⟩,⟨HM.out.up H.out,H.out⟩⟩
     ·simp only [decide_true,show (decide ((4:Nat)=0))=false from by decide,show (decide ((4:Nat)=1))=false from by decide,show (decide ((4:Nat)=2))=false from by decide,show (decide ((4:Nat)=3))=false from by decide,show (decide ((4:Nat)=4))=true from by decide] at k0 k1 k2 k3 k4
      have HP:Hid (rP (s,x,y) dd=false/\psz (s,x,y) dd=0):=by
       show _/\_;unfold rP psz;simp [L.out]
      have ad:Hid (d_F (s,x,y) dd=some dd):=by
       show _=_;unfold d_F;simp only [L.out];simp
      by_cases aA:k=0
      ·have a4:((k:Int)==0)=true:=by rw [aA];rfl
       have R:Hid (shN d ls ls.length=none):=by
        refine b_o (i:=k+1) ?_ (by rw [HK.out.2.1];omega);rw [a_G HS.out,I.out];rw [if_pos ⟨(c_Y s).2 L.out,fun h=>by have:=h.1;omega⟩]
       clear ac I aA;go_wp2;exact bodyPost_ret (v:=.tuple #[.slice none 0 0,.int .i64 0,.int .i64 4]) (by simp [results,Tryz.results15,go_sem]) rfl ⟨ShR.bad (d_l HF.out (R.out)) (by decide),aa.out⟩
      have a4:((k:Int)==0)=false:=by simpa using (show (k:Int)≠0 by omega)
      obtain ⟨j,hj⟩:∃ j,k=j+1:=⟨k - 1,by omega⟩
      have bz:(k:Int) - 1=(j:Int):=by omega
      have bB:(j:Int) < (n2:Int):=by omega
      obtain ⟨qp,op,ep,f0,_,_⟩:=(HK.out.2.up aa.out).2 j (by omega);cases ep;obtain ⟨lp,aP⟩:∃ l,lyA ls j=l:=⟨_,rfl⟩
      obtain ⟨sp,xp,yp⟩:=lp;rw [aP] at f0;have kf:=a_g f0;obtain ⟨-,-,-,-,aw⟩:=kts sp
      have HJ:Hid (c_1 ls S k↔¬ a_s sp=4/\shA S j=dd):=by
       show _↔_;unfold c_1;rw [show k - 1=j by omega,aP,bc.out.1];exact ⟨fun h=>⟨fun h2=>h.2.1 ((c_Y sp).2 h2),h.2.2⟩,fun h=>⟨by omega,fun h2=>h.1 ((c_Y sp).1 h2),h.2⟩⟩
      by_cases ak:a_s sp=4
      ·replace aw:=aw.trans (decide_eq_true ak)
       have R:Hid (shN d ls ls.length=none):=by
        refine b_o (i:=k+1) ?_ (by rw [HK.out.2.1];omega);rw [a_G HS.out,I.out];rw [if_pos ⟨(c_Y s).2 L.out,fun h=>(HJ.out.1 h).1 ak⟩]
       clear ac I ak hj aA;go_wp2;exact bodyPost_ret (v:=.tuple #[.slice none 0 0,.int .i64 0,.int .i64 4]) (by simp [results,Tryz.results15,go_sem]) rfl ⟨ShR.bad (d_l HF.out (R.out)) (by decide),aa.out⟩
      replace aw:=aw.trans (decide_eq_false ak);have bE:(sl:Int) - 2=(j:Int):=by omega
      have bp:(j:Int) < (sl:Int):=by omega
      obtain ⟨qr,bu,ar,br,dr,er,sr,mr⟩:=(aH.out.up H.out).2 j (by have:=aj.out.2;omega);cases er;have bv:=a_g sr;have cS:=l_v (.slice ar br dr) (.slice a3 b3 d3) (shA S j) dd (by have:=(e_o HD.out.1 HD.out.2 (by rw [HK.out.2.1];omega) HS.out j (by omega)).smal.1;omega) W2 mr (HM.out.up H.out);obtain ⟨qs,aF⟩:∃ q:Bool,decide (shA S j=dd)=q:=⟨_,rfl⟩
      rw [aF] at cS;have aV:Hid (decide (shA S j=dd)=qs):=aF;have bk:Hid (¬ a_s sp=4):=ak;clear aF mr aP hj aA ak;go_wp2_with fail
      refine cS.mono ?_;rintro e w3 ⟨rfl,nd,e3⟩;have aG:Hid (Below W2.heap.size W2 w3):=by rw [e3];exact a_m (Below.refl _ _) nd
      clear e3 cS;cases qs with
      | false=>
       have R:Hid (shN d ls ls.length=none):=by
        refine b_o (i:=k+1) ?_ (by rw [HK.out.2.1];omega);rw [a_G HS.out,I.out];rw [if_pos ⟨(c_Y s).2 L.out,fun h=>of_decide_eq_false aV.out (HJ.out.1 h).2⟩]
       clear ac I;go_wp2;exact bodyPost_ret (v:=.tuple #[.slice none 0 0,.int .i64 0,.int .i64 4]) (by simp [results,Tryz.results15,go_sem]) rfl ⟨ShR.bad (d_l HF.out (R.out)) (by decide),(a_c aa.out aG.out)⟩
      | true=>
       go_wp2;go_meet
       case rel=>exact ⟨_,_,_,_,_,dd,rfl,rfl,rfl,⟨(show shN d ls (k+1)=some (S++[dd]) by rw [a_G HS.out,I.out,if_neg fun h=>h.2 (HJ.out.2 ⟨bk.out,of_decide_eq_true aV.out⟩),ad.out];rfl),by rw [HP.out.1,Bool.or_false],by rw [HP.out.2,Int.add_zero],O.out.2⟩,⟨HM.out.up (a_c H.out aG.out),a_c H.out aG.out⟩⟩
    case rest=>
     obtain ⟨g',a',pd,nd,cd,J,rfl,rfl,rfl,ae,ai⟩:=hcut;have a0:Hid (wc.heap[w.heap.size]?=some (.cells #[.slice p n c,.slice (some ⟨q,o,none⟩) n2 c2] 57 (0,0))):=(ai.out.2.block _ (a_i HX.out)).trans HX.out;have aN:Hid (OwnS wc w.heap.size (.slice (some ⟨q3,o3,none⟩) sl cs) S/\Below w.heap.size w wc):=⟨HO.out.1.up ai.out.2,a_c HO.out.2 ai.out.2⟩
     have bo:0<=a'/\a'<=1053697:=by
      have:=e_G O.out.2 O.out.1;have:=ae.out.2.2.1;omega
     have aT:=ac.out J;rw [<- ae.out.2.1,<- ae.out.2.2.1] at aT;have ag:Hid (rG ls (S++[J]) (k+1)=if 4096 < a' then (true,4097) else (g' || decide (4096 < a_u J),a')):=aT;have cP:=f_W (.slice pd nd cd) J ae.out.2.2.2.smal wc ai.out.1;have ay:Hid (shN d ls (k+1)=some (S++[J])):=ae.out.1;have F5:Hid (OwnK .i64 3 (wc.alloc (.cells #[] 3)) wc.heap.size (.slice (some ⟨wc.heap.size,0,none⟩) 0 0) []):=c_b (k:=.i64) (e:=3) wc [] 0 rfl (by decide);have F6:Hid (Nums .i64 (wc.alloc (.cells #[] 3)) (.slice pd nd cd) J):=ai.out.1.up (a_b wc _);have F7:Hid (([]:List Int).length+J.length<=1073741824):=by show _<=_;have:=ae.out.2.2.2.smal.1;simp;omega
     have F8:Hid (wc.heap.size<=(wc.alloc (.cells #[] 3)).heap.size):=by show _<=_;simp
     have F9:Hid (Below wc.heap.size wc (wc.alloc (.cells #[] 3))):=a_b wc _;have FP:Hid (∀ U pa na ca,OwnK .i64 3 U wc.heap.size (.slice pa na ca) J->Below wc.heap.size wc U->∃ vs,(U.alloc (.cells #[.slice pa na ca] 22)).ownsRow w.heap.size 22 1 (.slice (some ⟨q3,o3,none⟩) sl cs) sl vs/\(U.alloc (.cells #[.slice pa na ca] 22)).heap[U.heap.size]?=some (.cells [.slice pa na ca].toArray 22 (0,0))/\(∀ y∈[Value.slice pa na ca],y.oneCell'=true)/\w.heap.size<=(U.alloc (.cells #[.slice pa na ca] 22)).heap.size/\∀ v0 w0,w0.ownsRow w.heap.size 22 1 v0 (sl+1) (vs++[.slice pa na ca])->Only [22] (U.alloc (.cells #[.slice pa na ca] 22)) w0->(∀ w',Below w.heap.size w' (U.alloc (.cells #[.slice pa na ca] 22))->Below w.heap.size w' w0)->(OwnS w0 w.heap.size v0 (S++[J])/\Below w.heap.size w w0)/\w0.heap[w.heap.size]?=some (.cells #[.slice p n c,.slice (some ⟨q,o,none⟩) n2 c2] 57 (0,0))):=fun U pa na ca h2 bd=>o_Z aN.out.1 aj.out.1 aN.out.2 ⟨_,_,rfl,by decide⟩ a0.out h2 bd;have az:sl+1<=1073741825:=by have:=aj.out.2;omega
     clear aT ac I ae ai HO HX aH HM a0 aN;by_cases ha:4096 < a'
     ·cases g' with
      | true=>
       go_wp2_with (first|(at_builtin;refine a_E i_r (by decide) rfl (.tmp 172) (.tmp 173) rfl wc.heap.size _ [] rfl F5.out _ J rfl F6.out F7.out F8.out wc F9.out ?_;intro v2 U H2 B2;obtain ⟨pa,na,ca,rfl,_⟩:=H2.out.nums.lst;obtain ⟨vs,G5,G6,G7,G8,G9⟩:=FP.out U pa na ca H2.out B2;have H5:Hid _:=G5;have H6:Hid _:=G6;have H7:Hid _:=G7;have H8:Hid _:=G8;have H9:Hid _:=G9;clear G5 G6 G7 G8 G9 B2 H2)|(at_builtin;refine b_z shT (by decide) (by decide) rfl (.tmp 171) (.tmp 175) rfl w.heap.size _ sl vs rfl H5.out _ [.slice pa na ca] rfl H6.out rfl H7.out az H8.out ?_;intro v0 w0 H0 O0 B0))
       obtain ⟨hA,hX⟩:=H9.out v0 w0 H0.out O0.out B0.out;have HA:Hid (OwnS w0 w.heap.size v0 (S++[J])/\Below w.heap.size w w0):=hA;have af:Hid (w0.heap[w.heap.size]?=some (.cells #[.slice p n c,.slice (some ⟨q,o,none⟩) n2 c2] 57 (0,0))):=hX;clear hA hX H0 O0 B0 H5 H6 H7 H8 H9 FP F5 F6 F7 F8 F9;go_wp2;go_roundg (n2 - (k+1))
       case measure=>omega
       case rel=>exact ⟨k+1,S++[J],true,4097,by omega,rfl,by first|rfl|simp,by first|rfl|simp,by first|rfl|simp,HA,ay,by show _=_;rw [ag.out];rw [if_pos ha],af⟩
      | false=>
       obtain ⟨M,eM⟩:∃ M,a_u J=M:=⟨_,rfl⟩
       rw [eM] at cP;clear eM;go_wp2_with fail
       refine cP.mono ?_;rintro e w3 ⟨rfl,rfl⟩;clear cP;go_wp2_with (first|(at_builtin;refine a_E i_r (by decide) rfl (.tmp 172) (.tmp 173) rfl w3.heap.size _ [] rfl F5.out _ J rfl F6.out F7.out F8.out w3 F9.out ?_;intro v2 U H2 B2;obtain ⟨pa,na,ca,rfl,_⟩:=H2.out.nums.lst;obtain ⟨vs,G5,G6,G7,G8,G9⟩:=FP.out U pa na ca H2.out B2;have H5:Hid _:=G5;have H6:Hid _:=G6;have H7:Hid _:=G7;have H8:Hid _:=G8;have H9:Hid _:=G9;clear G5 G6 G7 G8 G9 B2 H2)|(at_builtin;refine b_z shT (by decide) (by decide) rfl (.tmp 171) (.tmp 175) rfl w.heap.size _ sl vs rfl H5.out _ [.slice pa na ca] rfl H6.out rfl H7.out az H8.out ?_;intro v0 w0 H0 O0 B0))
       obtain ⟨hA,hX⟩:=H9.out v0 w0 H0.out O0.out B0.out;have HA:Hid (OwnS w0 w.heap.size v0 (S++[J])/\Below w.heap.size w w0):=hA;have af:Hid (w0.heap[w.heap.size]?=some (.cells #[.slice p n c,.slice (some ⟨q,o,none⟩) n2 c2] 57 (0,0))):=hX;clear hA hX H0 O0 B0 H5 H6 H7 H8 H9 FP F5 F6 F7 F8 F9;go_wp2;go_roundg (n2 - (k+1))
       case measure=>omega
       case rel=>exact ⟨k+1,S++[J],true,4097,by omega,rfl,by first|rfl|simp,by first|rfl|simp,by first|rfl|simp,HA,ay,by show _=_;rw [ag.out];rw [if_pos ha],af⟩
     have bw:a'<=4096:=by omega
     cases g' with
     | true=>
      go_wp2_with (first|(at_builtin;refine a_E i_r (by decide) rfl (.tmp 172) (.tmp 173) rfl wc.heap.size _ [] rfl F5.out _ J rfl F6.out F7.out F8.out wc F9.out ?_;intro v2 U H2 B2;obtain ⟨pa,na,ca,rfl,_⟩:=H2.out.nums.lst;obtain ⟨vs,G5,G6,G7,G8,G9⟩:=FP.out U pa na ca H2.out B2;have H5:Hid _:=G5;have H6:Hid _:=G6;have H7:Hid _:=G7;have H8:Hid _:=G8;have H9:Hid _:=G9;clear G5 G6 G7 G8 G9 B2 H2)|(at_builtin;refine b_z shT (by decide) (by decide) rfl (.tmp 171) (.tmp 175) rfl w.heap.size _ sl vs rfl H5.out _ [.slice pa na ca] rfl H6.out rfl H7.out az H8.out ?_;intro v0 w0 H0 O0 B0))
      obtain ⟨hA,hX⟩:=H9.out v0 w0 H0.out O0.out B0.out;have HA:Hid (OwnS w0 w.heap.size v0 (S++[J])/\Below w.heap.size w w0):=hA;have af:Hid (w0.heap[w.heap.size]?=some (.cells #[.slice p n c,.slice (some ⟨q,o,none⟩) n2 c2] 57 (0,0))):=hX;clear hA hX H0 O0 B0 H5 H6 H7 H8 H9 FP F5 F6 F7 F8 F9;go_wp2;go_roundg (n2 - (k+1))
      case measure=>omega
      case rel=>exact ⟨k+1,S++[J],true,a',by omega,rfl,by first|rfl|simp,by first|rfl|simp,by first|rfl|simp,HA,ay,by show _=_;rw [ag.out];rw [if_neg (by omega)];rfl,af⟩
     | false=>
      obtain ⟨M,eM⟩:∃ M,a_u J=M:=⟨_,rfl⟩
      have bh:Hid (a_u J=M):=eM;rw [eM] at cP;clear eM;go_wp2_with fail
      refine cP.mono ?_;rintro e w3 ⟨rfl,rfl⟩;clear cP;go_wp2_with (first|(at_builtin;refine a_E i_r (by decide) rfl (.tmp 172) (.tmp 173) rfl w3.heap.size _ [] rfl F5.out _ J rfl F6.out F7.out F8.out w3 F9.out ?_;intro v2 U H2 B2;obtain ⟨pa,na,ca,rfl,_⟩:=H2.out.nums.lst;obtain ⟨vs,G5,G6,G7,G8,G9⟩:=FP.out U pa na ca H2.out B2;have H5:Hid _:=G5;have H6:Hid _:=G6;have H7:Hid _:=G7;have H8:Hid _:=G8;have H9:Hid _:=G9;clear G5 G6 G7 G8 G9 B2 H2)|(at_builtin;refine b_z shT (by decide) (by decide) rfl (.tmp 171) (.tmp 175) rfl w.heap.size _ sl vs rfl H5.out _ [.slice pa na ca] rfl H6.out rfl H7.out az H8.out ?_;intro v0 w0 H0 O0 B0))
      obtain ⟨hA,hX⟩:=H9.out v0 w0 H0.out O0.out B0.out;have HA:Hid (OwnS w0 w.heap.size v0 (S++[J])/\Below w.heap.size w w0):=hA;have af:Hid (w0.heap[w.heap.size]?=some (.cells #[.slice p n c,.slice (some ⟨q,o,none⟩) n2 c2] 57 (0,0))):=hX;clear hA hX H0 O0 B0 H5 H6 H7 H8 H9 FP F5 F6 F7 F8 F9;go_wp2;go_roundg (n2 - (k+1))
      case measure=>omega
      case rel=>exact ⟨k+1,S++[J],decide (4096 < M),a',by omega,rfl,by first|rfl|simp,by first|rfl|simp,by first|rfl|simp,HA,ay,by show _=_;rw [ag.out];rw [if_neg (by omega),bh.out];rfl,af⟩
   ·obtain rfl:k=n2:=by omega
    obtain ⟨aB,ax⟩:=s_D HF.out (show shN d ls ls.length=some S by rw [HK.out.2.1];exact HS.out);rw [HK.out.2.1,HR.out] at aB ax;simp only [] at aB ax;have an:Hid ((g || decide (4096 < a_u d))=e_Q ls S/\(e_Q ls S=false->a=c_a ls S k)):=⟨aB,ax⟩
    have aL:Hid (shN d ls ls.length=some S):=by show _=_;rw [HK.out.2.1];exact HS.out
    clear aB ax;have cP:=f_W (.slice p n c) d HD.out.1.smal wr (HK.out.1.up HO.out.2);cases g with
    | true=>
     have HE:Hid (nE d ls=2):=m_Z HF.out aL.out (by rw [<- an.out.1];rfl);clear cP;go_wp2;exact bodyPost_ret (v:=.tuple #[.slice none 0 0,.int .i64 0,.int .i64 2]) (by simp [results,Tryz.results15,go_sem]) rfl ⟨ShR.bad HE.out (by decide),HO.out.2⟩
    | false=>
     obtain ⟨M,eM⟩:∃ M,a_u d=M:=⟨_,rfl⟩
     rw [eM] at cP an;clear eM;go_wp2_with fail
     refine cP.mono ?_;rintro e w3 ⟨rfl,rfl⟩;clear cP;by_cases hM:4096 < M
     ·have HE:Hid (nE d ls=2):=m_Z HF.out aL.out (by rw [<- an.out.1,decide_eq_true hM];rfl);go_wp2;exact bodyPost_ret (v:=.tuple #[.slice none 0 0,.int .i64 0,.int .i64 2]) (by simp [results,Tryz.results15,go_sem]) rfl ⟨ShR.bad HE.out (by decide),HO.out.2⟩
     ·have bx:M<=4096:=by omega
      have ht:e_Q ls S=false:=by rw [<- an.out.1,decide_eq_false hM];rfl
      obtain ⟨f1,f2,f3⟩:=k_U HF.out aL.out ht;have HE:Hid (nE d ls=0/\nS d ls=S/\nP d ls=a):=⟨f1,f2,by rw [f3,an.out.2 ht,HK.out.2.1]⟩
      clear ht f1 f2 f3;go_wp2;exact bodyPost_ret (v:=.tuple #[.slice ps sl cs,.int .i64 a,.int .i64 0]) (by simp [results,Tryz.results15,go_sem]) rfl ⟨⟨_,by rw [HE.out.1,HE.out.2.2],by rw [HE.out.2.1];exact HO.out.1⟩,HO.out.2⟩
end Go.Proofs.YtcpbhhlepdgdkaaGreatDoor.Wd
