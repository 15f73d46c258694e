/- The reference's Shapes. -/
import Derived.Test.YtjlofobnmjompaaGreatDoorT34
import Derived.Deep.CutBlock
set_option linter.unusedVariables false
set_option linter.unusedSimpArgs false
set_option maxHeartbeats 16000000
set_option maxRecDepth 16000
namespace Go.Proofs.YtjlofobnmjompaaGreatDoor.Wd
open Go.RowKit
theorem p_s {ls:List Ly} {S:List (List Int)} (o:List Int):∀ {k:Nat},k+1<=S.length->rG ls (S++[o]) k=rG ls S k
 | 0,_=>rfl
 | k+1,h=>by
  simp only [rG];rw [p_s o (k:=k) (by omega),d_R _ (by omega),d_R _ (by omega)]
theorem m_4 {s:ByteArray} {x y:Int} {dd:List Int} (h:a_s s=1) (hb:dd.length≠2):d_A (s,x,y) dd=none:=by
 unfold d_A;simp [h,hb]
theorem m_5 {s:ByteArray} {x y:Int} {dd:List Int} (h:a_s s=2) (hb:dd.length≠2):d_A (s,x,y) dd=none:=by
 unfold d_A;simp [h,hb]
/-- What Shapes answers. -/
def ShR (d:List Int) (ls:List Ly) (B:Nat) (e:Ending) (W:World):Prop:=∃ v',e = .returned (.tuple #[v',.int .i64 (nP d ls),.int .i64 (nE d ls)])/\OwnS W B v' (nS d ls)
theorem ShR.bad {d:List Int} {ls:List Ly} {B:Nat} {W:World} {E:Int} (h:nE d ls=E) (I:E≠0):ShR d ls B (.returned (.tuple #[.slice none 0 0,.int .i64 0,.int .i64 E])) W:=by
 obtain ⟨D,H⟩:=h_3 (d:=d) (ls:=ls) (by rw [h];exact I);exact ⟨_,by rw [H,h],by rw [D];exact OwnS.nil W B⟩
/-- One shape more, behind those that the call made. -/
theorem o_J {w wc J:World} {N:Obj} {ps D:Option Addr} {R cs H I:Nat} {S:List (List Int)} {oo:List Int} (hO:OwnS wc w.heap.size (.slice ps R cs) S) (hl:S.length=R) (U:Below w.heap.size w wc) (hN:∃ a b,N = .cells a b (0,0)/\b≠30) (hX:wc.heap[w.heap.size]?=some N) (h2:OwnK .i64 3 J wc.heap.size (.slice D H I) oo) (ac:Below wc.heap.size wc J):
  ∃ vs,(J.alloc (.cells #[.slice D H I] 30)).ownsRow w.heap.size 30 1 (.slice ps R cs) R vs/\(J.alloc (.cells #[.slice D H I] 30)).heap[J.heap.size]?=some (.cells [.slice D H I].toArray 30 (0,0))/\(∀ y∈[Value.slice D H I],y.oneCell'=true)/\w.heap.size<=(J.alloc (.cells #[.slice D H I] 30)).heap.size/\
   ∀ v0 M,M.ownsRow w.heap.size 30 1 v0 (R+1) (vs++[.slice D H I])->Only [30] (J.alloc (.cells #[.slice D H I] 30)) M->(∀ w',Below w.heap.size w' (J.alloc (.cells #[.slice D H I] 30))->Below w.heap.size w' M)->(OwnS M w.heap.size v0 (S++[oo])/\Below w.heap.size w M)/\M.heap[w.heap.size]?=some N:=by
 obtain ⟨vs,O,aa⟩:=hO;have ab:vs.length=S.length:=by have:=O.1;omega
 have hb:=a_b J (.cells #[.slice D H I] 30);have L:Below wc.heap.size wc (J.alloc (.cells #[.slice D H I] 30)):=a_c ac hb;rw [hl] at O;refine ⟨vs,a_A (S:=[]) O (Only.of L) (by simp),heap_alloc_new J _,fun y hy=>by simp at hy;subst hy;rfl,by have:=(a_c U L).size;exact this,fun v0 M g1 g2 g3=>?_⟩;obtain ⟨ad,ae,rfl,V⟩:=hN;refine ⟨⟨OwnS.push (W:=J.alloc (.cells #[.slice D H I] 30)) (vs:=vs) (by rw [hl];exact g1) ab (fun i hi=>?_) ((h2.low U.size).up hb) g2,g3 w (a_c U L)⟩,g2.keep ((L.block _ (a_i hX)).trans hX) (by simpa using V)⟩;obtain ⟨a',b',c',e',h'⟩:=aa i hi;exact ⟨a',b',c',e',h'.up L⟩
theorem i_3 (p p2:Option Addr) (n c n2 c2:Nat) (d:List Int) (ls:List Ly) (bp:n2<=1073741823) (w:World) (h1:Nums .i64 w (.slice p n c) d) (hL:LyR 0 w p2 n2 ls):
  Calls Tryz.prog 27 #[.agg #[.slice p n c,.slice p2 n2 c2]] w fun e w'=>ShR d ls w.heap.size e w'/\Below w.heap.size w w':=by
 haveI:Nonempty World:=⟨w⟩
 have HK:Hid (Nums .i64 w (.slice p n c) d/\LyR 0 w p2 n2 ls):=⟨h1,hL⟩
 clear h1 hL;go_enter Tryz.func27,Tryz.ntmps27;go_wp2_with fail
 generalize aN:World.alloc _ _=W0;have ax:Hid (Below w.heap.size w W0):=by rw [<- aN];exact a_b w _
 have aU:Hid (W0.heap[w.heap.size]?=some (.cells #[.slice p n c,.slice p2 n2 c2] 75 (0,0))):=by
  show _=_;rw [<- aN];exact heap_alloc_new w _
 clear aN;obtain ⟨qf,aI⟩:∃ q,b_M d ls=q:=⟨_,rfl⟩
 have HF:Hid (b_M d ls=qf):=aI;have cF:=k_X p p2 n c n2 c2 d ls (by omega) W0 (HK.out.1.up ax.out) (HK.out.2.up ax.out);rw [aI] at cF;clear aI;refine cF.mono ?_;rintro e w1 ⟨rfl,hB⟩;have ak:Hid (Below w.heap.size w w1):=a_c ax.out hB;have ap:Hid (w1.heap[w.heap.size]?=some (.cells #[.slice p n c,.slice p2 n2 c2] 75 (0,0))):=(hB.block _ (a_i aU.out)).trans aU.out;obtain ⟨⟨g0,_⟩,⟨g1,_⟩⟩:=e_n ap.out;have kg:=a_f g0;clear hB ax aU cF;cases qf with
 | false=>
  have hE:nE d ls=1:=m_M (by rw [HF.out];simp);have HE:Hid (nE d ls=1):=hE;clear hE;go_wp2;exact bodyPost_ret (v:=.tuple #[.slice none 0 0,.int .i64 0,.int .i64 1]) (by simp [results,Tryz.results27,go_sem]) rfl ⟨ShR.bad HE.out (by decide),ak.out⟩
 | true=>
  obtain ⟨hd,a4⟩:=(c_f d ls).1 HF.out;have HD:Hid (InOk d/\∀ l∈ls,a_R l):=⟨hd,a4⟩
  have H5:Hid (OwnK .i64 3 (w1.alloc (.cells #[] 3)) w1.heap.size (.slice (some ⟨w1.heap.size,0,none⟩) 0 0) []):=b_5 (k:=.i64) (e:=3) w1 [] 0 rfl (by decide);have H6:Hid (Nums .i64 (w1.alloc (.cells #[] 3)) (.slice p n c) d):=HK.out.1.up (a_c ak.out (a_b w1 _));have H7:Hid (([]:List Int).length+d.length<=1073741824):=by show _<=_;have:=hd.smal.1;simp;omega
  have H8:Hid (w1.heap.size<=(w1.alloc (.cells #[] 3)).heap.size):=by show _<=_;simp
  have H9:Hid (Below w1.heap.size w1 (w1.alloc (.cells #[] 3))):=a_b w1 _;clear hd a4;go_wp2_with (at_builtin;refine a_F i_e (by decide) rfl (.tmp 15) (.tmp 17) rfl w1.heap.size _ [] rfl H5.out _ d rfl H6.out H7.out H8.out w1 H9.out ?_;intro v2 w2 H2 B2;obtain ⟨pa,na,ca,rfl,_⟩:=H2.out.nums.lst;have I:Hid (Below w1.heap.size w1 w2):=B2;clear B2;replace g0:=a_h I.out g0;replace g1:=a_h I.out g1;replace kg:=a_f g0)
  generalize aJ:World.alloc _ _=W3;have am:Below w2.heap.size w2 W3:=by rw [<- aJ];exact a_b w2 _
  have aS:Hid (OwnS W3 w.heap.size (.slice (some ⟨w2.heap.size,0,none⟩) 1 1) [d]/\Below w.heap.size w W3):=by
   show _/\_;refine ⟨⟨[.slice pa na ca],⟨rfl,.inr ⟨w2.heap.size,1,#[.slice pa na ca],rfl,(a_c ak.out I.out).size,?_,Nat.le_refl _,by unfold maxLen;omega,rfl,rfl⟩⟩,fun i hi=>?_⟩,a_c (a_c ak.out I.out) am⟩
   ·rw [<- aJ];exact heap_alloc_new w2 _
   ·obtain rfl:i=0:=by simp at hi;omega
    exact ⟨_,_,_,rfl,(H2.out.low ak.out.size).up am⟩
  have bk:Hid (W3.heap[w.heap.size]?=some (.cells #[.slice p n c,.slice p2 n2 c2] 75 (0,0))):=(am.block _ (by have:=a_i ap.out;have:=I.out.size;omega)).trans ((I.out.block _ (a_i ap.out)).trans ap.out);replace g0:=a_h am g0;replace g1:=a_h am g1;replace kg:=a_f g0;clear aJ am H2 H5 H6 H7 H8 H9 ak I ap;go_region
  have bd:Hid (OwnS W3.drew w.heap.size (.slice (some ⟨w2.heap.size,0,none⟩) 1 1) [d]/\Below w.heap.size w W3.drew):=by
   have hD:Below W3.heap.size W3 W3.drew:=⟨rfl,rfl,rfl,Nat.le_refl _,fun _ _=>rfl⟩
   exact ⟨aS.out.1.up hD,a_c aS.out.2 hD⟩
  clear aS;go_wp2_with fail
  go_loopg [5,6,7,8] n2 (fun gg v5 v6 v7 v8 wr=>∃ (k:Nat) (S:List (List Int)) (g:Bool) (a:Int),k<=n2/\gg=n2 - k/\v6 = .int .i64 a/\v7 = .bool g/\v8 = .int .i64 (k:Int)/\Hid (OwnS wr w.heap.size v5 S/\Below w.heap.size w wr)/\Hid (shN d ls k=some S)/\Hid (rG ls S k=(g,a))/\Hid (wr.heap[w.heap.size]?=some (.cells #[.slice p n c,.slice p2 n2 c2] 75 (0,0))))
  case atStart=>
   refine ⟨0,[d],_,0,by omega,by omega,rfl,rfl,rfl,bd,rfl,?_,bk⟩;show (decide (16 < ls.length),(0:Int))=_;rw [HK.out.2.1];exact Prod.ext (decide_eq_decide.2 (by omega)) rfl
  case round=>
   obtain ⟨k,S,g,a,hk,hg,rfl,rfl,rfl,HO,HS,HR,HX⟩:=hrel;obtain ⟨ps,cs,rfl,aO⟩:=HO.out.1.rd;have aD:=c_U HS.out;obtain ⟨sl,aF⟩:∃ sl,S.length=sl:=⟨_,rfl⟩
   rw [aF] at aO aD HO ⊢;have aQ:Hid (RdS wr ps sl S):=aO;have ah:Hid (S.length=sl/\sl=k+1):=⟨aF,aD⟩
   have bt:(sl:Int) - 1=(k:Int):=by omega
   have bx:(k:Int) < (sl:Int):=by omega
   obtain ⟨⟨g0,_⟩,⟨g1,_⟩⟩:=e_n HX.out;have kg:=a_f g0;clear aF aO aD;by_cases aY:k < n2
   ·have bu:(k:Int) < (n2:Int):=by omega
    have aB:k < ls.length:=by rw [HK.out.2.1];exact aY
    obtain ⟨q,o,rfl,c0,c1,a0⟩:=(HK.out.2.up HO.out.2).2 k aY;obtain ⟨q3,o3,a3,b3,d3,rfl,s3,m3⟩:=aQ.out.2 k (by have:=ah.out.2;omega);have hl:=HD.out.2 _ (d_Q aB);have aP:=e_l HD.out.1 HD.out.2 (by omega) HS.out k (by omega);obtain ⟨l,el⟩:∃ l,lyA ls k=l:=⟨_,rfl⟩
    obtain ⟨dd,ed⟩:∃ dd,shA S k=dd:=⟨_,rfl⟩
    have aZ:=p_r (ls:=ls) (S:=S) (i:=k) (fun j hj=>e_l HD.out.1 HD.out.2 (by omega) HS.out j (by omega)) (fun j hj=>HD.out.2 _ (d_Q (by omega)));rw [HR.out] at aZ;simp only [] at aZ;obtain ⟨s,x,y⟩:=l
    have J:Hid (f_3 ls k S=if s=e_j/\¬ c_Z ls S k then none else (d_A (s,x,y) dd).map fun o=>S++[o]):=by
     have bc:∀ l dd,lyA ls k=l->shA S k=dd->f_3 ls k S=if l.1=e_j/\¬ c_Z ls S k then none else (d_A l dd).map fun o=>S++[o]:=by
      rintro _ _ rfl rfl;rfl
     exact bc _ _ el ed
    have ad:Hid (∀ L,rG ls (S++[L]) (k+1)=if 4096 < a+psz (s,x,y) dd then (true,4097) else (g || rP (s,x,y) dd || decide (4096 < a_t L),a+psz (s,x,y) dd)):=fun L=>by
     have h1:S.length=k+1:=by rw [ah.out.1,ah.out.2]
     simp only [rG];rw [p_s L (by omega),HR.out,el,d_R _ (by omega),ed,g_5 S L (k+1) h1]
    rw [el] at c0 c1 a0 hl;rw [ed] at m3 aP;have HM:Hid (Nums .i64 wr (.slice a3 b3 d3) dd):=m3;have R:Hid (a_R (s,x,y)/\InOk dd):=⟨hl,aP⟩
    have bg:=a_f c0;have ba:=a_f s3;have bi:Hid (shA S k=dd/\lyA ls k=(s,x,y)):=⟨ed,el⟩
    clear el ed hl aP m3 aB;go_upto_block 2 with fail
    generalize aG:World.alloc _ _=W2;have I:Hid (Below wr.heap.size wr W2):=by rw [<- aG];exact a_b wr _
    obtain ⟨e0,e1,e2⟩:W2.cell? ⟨wr.heap.size,0,none⟩=some (.string s)/\W2.cell? ⟨wr.heap.size,1,none⟩=some (.int .i64 x)/\W2.cell? ⟨wr.heap.size,2,none⟩=some (.int .i64 y):=by rw [<- aG];simp [go_sem]
    have ke:=a_f e0;replace g0:=a_h I.out g0;replace g1:=a_h I.out g1;replace kg:=a_f g0;clear aG c0 c1 a0 s3 bg ba
    go_cut [6,7,9,11] from 24 to 176 (fun v6 v7 v9 bE wx=>∃ (g':Bool) (a':Int) (pd:Option Addr) (nd cd:Nat) (L:List Int),v6 = .int .i64 a'/\v7 = .bool g'/\v9 = .slice pd nd cd/\Hid (shN d ls (k+1)=some (S++[L])/\g'=(g || rP (s,x,y) dd)/\a'=a+psz (s,x,y) dd/\InOk L)/\Hid (Nums .i64 wx (.slice pd nd cd) L/\Below wr.heap.size wr wx))
    case first=>
     obtain ⟨k0,k1,k2,k3,k4⟩:=kts s;have aB:=m_K s;obtain ⟨z,ez⟩:∃ z,a_s s=z:=⟨_,rfl⟩
     have O:Hid (a_s s=z):=ez;rw [ez] at k0 k1 k2 k3 k4 aB;have bB:z < 5:=by rw [<- ez];exact R.out.1.1
     clear ez;obtain ⟨pm,nm,cm,bl,HC⟩:=(HM.out.up I.out).lst;cases bl;have aa:Hid (Below w.heap.size w W2):=a_c HO.out.2 I.out;rcases (show z=0∨z=1∨z=2∨z=3∨z=4 by omega) with rfl|rfl|rfl|rfl|rfl
     ·simp only [decide_true,show (decide ((0:Nat)=0))=true from by decide,show (decide ((0:Nat)=1))=false from by decide,show (decide ((0:Nat)=2))=false from by decide,show (decide ((0:Nat)=3))=false from by decide,show (decide ((0:Nat)=4))=false from by decide] at k0 k1 k2 k3 k4
      have an:1<=x/\x<=256:=by
       rcases a_K R.out.1 with ⟨-,h,h1,-⟩|⟨-,h,h1,-⟩|⟨-,h,h1,-⟩|⟨-,h,h1,-⟩|⟨-,h,h1,-⟩ <;> simp only [O.out] at h <;> first|exact h1|omega
      go_wp2_with fail
      have cP:=f_P (.slice a3 b3 d3) dd R.out.2.smal W2 (HM.out.up I.out);have a7:=R.out.2.prod;obtain ⟨M,eM⟩:∃ M,a_t dd=M:=⟨_,rfl⟩
      rw [eM] at cP a7;have bj:=a_1 an a7;obtain ⟨t,et⟩:∃ t,x*M=t:=⟨_,rfl⟩
      have HP:Hid (rP (s,x,y) dd=decide (4096 < t)/\psz (s,x,y) dd=t+x):=by
       unfold rP psz;simp only [O.out,if_true];rw [eM,et];exact ⟨rfl,rfl⟩
      rw [et] at bj;clear eM;refine cP.mono ?_;rintro e w3 ⟨rfl,rfl⟩;clear cP;cases g with
      | true=>
       go_wp2;go_meet
       case rel=>exact ⟨_,_,_,_,_,[x],rfl,rfl,rfl,⟨(show shN d ls (k+1)=some (S++[[x]]) by rw [a_G HS.out,J.out,if_neg fun h=>absurd ((c_W s).1 h.1) (by rw [O.out];decide),show d_A (s,x,y) dd=some [x] by unfold d_A;rw [if_pos O.out]];rfl),by rw [HP.out.1];rfl,by rw [HP.out.2,Int.add_assoc],.inl ⟨x,rfl,by omega,by omega⟩⟩,⟨a_3 (k:=.i64) _ [x] 1 (0,0) rfl,a_c I.out (a_b _ _)⟩⟩
      | false=>
       go_wp2;go_meet
       case rel=>exact ⟨_,_,_,_,_,[x],rfl,rfl,rfl,⟨(show shN d ls (k+1)=some (S++[[x]]) by rw [a_G HS.out,J.out,if_neg fun h=>absurd ((c_W s).1 h.1) (by rw [O.out];decide),show d_A (s,x,y) dd=some [x] by unfold d_A;rw [if_pos O.out]];rfl),by rw [HP.out.1];rfl,by rw [HP.out.2,Int.add_assoc],.inl ⟨x,rfl,by omega,by omega⟩⟩,⟨a_3 (k:=.i64) _ [x] 1 (0,0) rfl,a_c I.out (a_b _ _)⟩⟩
     ·simp only [decide_true,show (decide ((1:Nat)=0))=false from by decide,show (decide ((1:Nat)=1))=true from by decide,show (decide ((1:Nat)=2))=false from by decide,show (decide ((1:Nat)=3))=false from by decide,show (decide ((1:Nat)=4))=false from by decide] at k0 k1 k2 k3 k4
      have an:(1<=x/\x<=16)/\1<=y/\y<=16:=by
       rcases a_K R.out.1 with ⟨-,h,h1,-⟩|⟨-,h,h1,h2⟩|⟨-,h,h1,-⟩|⟨-,h,h1,-⟩|⟨-,h,h1,-⟩ <;> simp only [O.out] at h <;> first|exact ⟨h1,h2⟩|omega
      have aL:(∃ u v,dd = [u,v]/\b3=2)∨b3≠2:=by
       by_cases h:b3=2
       ·have au:=HC.out.1;rw [h] at au
        match dd,au with
        | [u,v],_=>exact .inl ⟨u,v,rfl,h⟩
       ·exact .inr h
      rcases aL with ⟨u,v,rfl,ab⟩|ab
      ·obtain ⟨qa,oa,rfl,u0⟩:=HC.out.2 0 (by omega);obtain ⟨qb,ob,e,v0⟩:=HC.out.2 1 (by omega);cases e;simp only [List.getD_cons_zero,List.getD_cons_succ,Nat.add_zero] at u0 v0;have ku:=a_f u0
       have aX:(1<=u/\u<=64)/\1<=v/\v<=64:=by
        rcases R.out.2 with ⟨a,h,_⟩|⟨a,b,h,h1,h2⟩
        ·simp at h
        ·simp only [List.cons.injEq,and_true] at h;obtain ⟨rfl,rfl⟩:=h;exact ⟨h1,h2⟩
       have t2:((b3:Int) != 2)=false:=by rw [ab];rfl
       have i0:(0:Int) < (b3:Int):=by omega
       have i1:(1:Int) < (b3:Int):=by omega
       clear ab;by_cases hy:v < y
       ·have U:Hid (shN d ls ls.length=none):=by
         refine b_m (i:=k+1) ?_ (by rw [HK.out.2.1];omega);rw [a_G HS.out,J.out];rw [if_neg fun h=>absurd ((c_W s).1 h.1) (by rw [O.out];decide)];rw [show d_A (s,x,y) [u,v]=none by unfold d_A;simp only [O.out];simp;omega];rfl
        clear ad J;go_wp2;go_region;go_wp2;exact bodyPost_ret (v:=.tuple #[.slice none 0 0,.int .i64 0,.int .i64 4]) (by simp [results,Tryz.results27,go_sem]) rfl ⟨ShR.bad (d_i HF.out (U.out)) (by decide),by have h9:=aa.out;exact a_c h9 ⟨rfl,rfl,rfl,Nat.le_refl _,fun _ _=>rfl⟩⟩
       have bh:y<=v:=by omega
       have a6:=a_1 an.1 aX.1;obtain ⟨t,et⟩:∃ t,x*u=t:=⟨_,rfl⟩
       rw [et] at a6;have bf:=a_1 a6 an.2;obtain ⟨t',aV⟩:∃ t',t*y=t':=⟨_,rfl⟩
       rw [aV] at bf
       have HP:Hid (rP (s,x,y) [u,v]=decide (4096 < t')/\psz (s,x,y) [u,v]=t'):=by
        unfold rP psz;simp only [O.out,if_neg (show ¬ (1:Nat)=0 by omega),if_true,List.getD_cons_zero];rw [et,aV];exact ⟨rfl,rfl⟩
       have ac:Hid (d_A (s,x,y) [u,v]=some [x,v - y+1]):=by
        show _=_;unfold d_A;simp only [O.out];simp;omega
       cases g with
       | true=>
        iterate 4
         go_wp2;go_region
        go_wp2;go_meet
        case rel=>exact ⟨_,_,_,_,_,[x,v - y+1],rfl,rfl,rfl,⟨(show shN d ls (k+1)=some (S++[[x,v - y+1]]) by rw [a_G HS.out,J.out,if_neg fun h=>absurd ((c_W s).1 h.1) (by rw [O.out];decide),ac.out];rfl),by rw [HP.out.1];rfl,by rw [HP.out.2],.inr ⟨x,_,rfl,by omega,by omega,by omega⟩⟩,⟨a_3 (k:=.i64) _ [x,v - y+1] 2 (0,0) rfl,a_c I.out (by go_grown)⟩⟩
       | false=>
        iterate 4
         go_wp2;go_region
        go_wp2;go_meet
        case rel=>exact ⟨_,_,_,_,_,[x,v - y+1],rfl,rfl,rfl,⟨(show shN d ls (k+1)=some (S++[[x,v - y+1]]) by rw [a_G HS.out,J.out,if_neg fun h=>absurd ((c_W s).1 h.1) (by rw [O.out];decide),ac.out];rfl),by rw [HP.out.1];rfl,by rw [HP.out.2],.inr ⟨x,_,rfl,by omega,by omega,by omega⟩⟩,⟨a_3 (k:=.i64) _ [x,v - y+1] 2 (0,0) rfl,a_c I.out (by go_grown)⟩⟩
      ·have t2:((b3:Int) != 2)=true:=by simpa using (show (b3:Int)≠2 by omega)
       have U:Hid (shN d ls ls.length=none):=by
        refine b_m (i:=k+1) ?_ (by rw [HK.out.2.1];omega);rw [a_G HS.out,J.out];rw [if_neg fun h=>absurd ((c_W s).1 h.1) (by rw [O.out];decide)];rw [m_4 O.out fun h=>ab (by rw [<- HC.out.1];exact h)];rfl
       clear ad J ab;go_wp2;go_region;go_wp2;exact bodyPost_ret (v:=.tuple #[.slice none 0 0,.int .i64 0,.int .i64 4]) (by simp [results,Tryz.results27,go_sem]) rfl ⟨ShR.bad (d_i HF.out (U.out)) (by decide),a_c aa.out ⟨rfl,rfl,rfl,Nat.le_refl _,fun _ _=>rfl⟩⟩
     ·simp only [decide_true,show (decide ((2:Nat)=0))=false from by decide,show (decide ((2:Nat)=1))=false from by decide,show (decide ((2:Nat)=2))=true from by decide,show (decide ((2:Nat)=3))=false from by decide,show (decide ((2:Nat)=4))=false from by decide] at k0 k1 k2 k3 k4
      have an:1<=x/\x<=16:=by
       rcases a_K R.out.1 with ⟨-,h,h1,-⟩|⟨-,h,h1,h2⟩|⟨-,h,h1,-⟩|⟨-,h,h1,-⟩|⟨-,h,h1,-⟩ <;> simp only [O.out] at h <;> first|exact h1|omega
      have HP:Hid (rP (s,x,y) dd=false/\psz (s,x,y) dd=0):=by
       show _/\_;unfold rP psz;simp [O.out]
      have aL:(∃ u v,dd = [u,v]/\b3=2)∨b3≠2:=by
       by_cases h:b3=2
       ·have au:=HC.out.1;rw [h] at au
        match dd,au with
        | [u,v],_=>exact .inl ⟨u,v,rfl,h⟩
       ·exact .inr h
      rcases aL with ⟨u,v,rfl,ab⟩|ab
      ·obtain ⟨qa,oa,rfl,u0⟩:=HC.out.2 0 (by omega);obtain ⟨qb,ob,e,v0⟩:=HC.out.2 1 (by omega);cases e;simp only [List.getD_cons_zero,List.getD_cons_succ,Nat.add_zero] at u0 v0;have ku:=a_f u0
       have aX:(1<=u/\u<=64)/\1<=v/\v<=64:=by
        rcases R.out.2 with ⟨a,h,_⟩|⟨a,b,h,h1,h2⟩
        ·simp at h
        ·simp only [List.cons.injEq,and_true] at h;obtain ⟨rfl,rfl⟩:=h;exact ⟨h1,h2⟩
       have t2:((b3:Int) != 2)=false:=by rw [ab];rfl
       have i0:(0:Int) < (b3:Int):=by omega
       have i1:(1:Int) < (b3:Int):=by omega
       clear ab;by_cases hy:v < x
       ·have U:Hid (shN d ls ls.length=none):=by
         refine b_m (i:=k+1) ?_ (by rw [HK.out.2.1];omega);rw [a_G HS.out,J.out];rw [if_neg fun h=>absurd ((c_W s).1 h.1) (by rw [O.out];decide)];rw [show d_A (s,x,y) [u,v]=none by unfold d_A;simp only [O.out];simp;omega];rfl
        clear ad J;go_wp2;go_region;go_wp2;exact bodyPost_ret (v:=.tuple #[.slice none 0 0,.int .i64 0,.int .i64 4]) (by simp [results,Tryz.results27,go_sem]) rfl ⟨ShR.bad (d_i HF.out (U.out)) (by decide),a_c aa.out ⟨rfl,rfl,rfl,Nat.le_refl _,fun _ _=>rfl⟩⟩
       have bh:x<=v:=by omega
       have bA:(x==0)=false:=by simpa using (show x≠0 by omega)
       have ac:Hid (d_A (s,x,y) [u,v]=some [u,v / x]):=by
        show _=_;unfold d_A;simp only [O.out];simp [Int.tdiv_eq_ediv_of_nonneg (show 0<=v by omega)];omega
       have a1:Hid (InOk [u,v / x]):=R.out.2.out R.out.1 ac.out
       iterate 2
        go_wp2;go_region
       go_wp2;go_meet
       case rel=>exact ⟨_,_,_,_,_,[u,v / x],rfl,rfl,rfl,⟨(show shN d ls (k+1)=some (S++[[u,v / x]]) by rw [a_G HS.out,J.out,if_neg fun h=>absurd ((c_W s).1 h.1) (by rw [O.out];decide),ac.out];rfl),by rw [HP.out.1,Bool.or_false],by rw [HP.out.2,Int.add_zero],a1.out⟩,⟨(a_3 (k:=.i64) W2 [u,v / x] 2 (0,0) rfl).up ⟨rfl,rfl,rfl,Nat.le_refl _,fun _ _=>rfl⟩,a_c I.out (by go_grown)⟩⟩
      ·have t2:((b3:Int) != 2)=true:=by simpa using (show (b3:Int)≠2 by omega)
       have U:Hid (shN d ls ls.length=none):=by
        refine b_m (i:=k+1) ?_ (by rw [HK.out.2.1];omega);rw [a_G HS.out,J.out];rw [if_neg fun h=>absurd ((c_W s).1 h.1) (by rw [O.out];decide)];rw [m_5 O.out fun h=>ab (by rw [<- HC.out.1];exact h)];rfl
       clear ad J ab;go_wp2;go_region;go_wp2;exact bodyPost_ret (v:=.tuple #[.slice none 0 0,.int .i64 0,.int .i64 4]) (by simp [results,Tryz.results27,go_sem]) rfl ⟨ShR.bad (d_i HF.out (U.out)) (by decide),a_c aa.out ⟨rfl,rfl,rfl,Nat.le_refl _,fun _ _=>rfl⟩⟩
     ·simp only [decide_true,show (decide ((3:Nat)=0))=false from by decide,show (decide ((3:Nat)=1))=false from by decide,show (decide ((3:Nat)=2))=false from by decide,show (decide ((3:Nat)=3))=true from by decide,show (decide ((3:Nat)=4))=false from by decide] at k0 k1 k2 k3 k4
      have HP:Hid (rP (s,x,y) dd=false/\psz (s,x,y) dd=0):=by
       show _/\_;unfold rP psz;simp [O.out]
      have ac:Hid (d_A (s,x,y) dd=some dd):=by
       show _=_;unfold d_A;simp only [O.out];simp
      go_wp2;go_meet
      case rel=>exact ⟨_,_,_,_,_,dd,rfl,rfl,rfl,⟨(show shN d ls (k+1)=some (S++[dd]) by rw [a_G HS.out,J.out,if_neg fun h=>absurd ((c_W s).1 h.1) (by rw [O.out];decide),ac.out];rfl),by rw [HP.out.1,Bool.or_false],by rw [HP.out.2,Int.add_zero],R.out.2⟩,⟨HM.out.up I.out,I.out⟩⟩
     ·simp only [decide_true,show (decide ((4:Nat)=0))=false from by decide,show (decide ((4:Nat)=1))=false from by decide,show (decide ((4:Nat)=2))=false from by decide,show (decide ((4:Nat)=3))=false from by decide,show (decide ((4:Nat)=4))=true from by decide] at k0 k1 k2 k3 k4
      have HP:Hid (rP (s,x,y) dd=false/\psz (s,x,y) dd=0):=by
       show _/\_;unfold rP psz;simp [O.out]
      have ac:Hid (d_A (s,x,y) dd=some dd):=by
       show _=_;unfold d_A;simp only [O.out];simp
      by_cases az:k=0
      ·have a5:((k:Int)==0)=true:=by rw [az];rfl
       have U:Hid (shN d ls ls.length=none):=by
        refine b_m (i:=k+1) ?_ (by rw [HK.out.2.1];omega);rw [a_G HS.out,J.out];rw [if_pos ⟨(c_W s).2 O.out,fun h=>by have:=h.1;omega⟩]
       clear ad J az;go_wp2;exact bodyPost_ret (v:=.tuple #[.slice none 0 0,.int .i64 0,.int .i64 4]) (by simp [results,Tryz.results27,go_sem]) rfl ⟨ShR.bad (d_i HF.out (U.out)) (by decide),aa.out⟩
      have a5:((k:Int)==0)=false:=by simpa using (show (k:Int)≠0 by omega)
      obtain ⟨j,hj⟩:∃ j,k=j+1:=⟨k - 1,by omega⟩
      have bw:(k:Int) - 1=(j:Int):=by omega
      have bq:(j:Int) < (n2:Int):=by omega
      obtain ⟨qp,op,ep,f0,_,_⟩:=(HK.out.2.up aa.out).2 j (by omega);cases ep;obtain ⟨lp,aM⟩:∃ l,lyA ls j=l:=⟨_,rfl⟩
      obtain ⟨sp,xp,yp⟩:=lp;rw [aM] at f0;have kf:=a_f f0;obtain ⟨-,-,-,-,ay⟩:=kts sp
      have HJ:Hid (c_Z ls S k↔¬ a_s sp=4/\shA S j=dd):=by
       show _↔_;unfold c_Z;rw [show k - 1=j by omega,aM,bi.out.1];exact ⟨fun h=>⟨fun h2=>h.2.1 ((c_W sp).2 h2),h.2.2⟩,fun h=>⟨by omega,fun h2=>h.1 ((c_W sp).1 h2),h.2⟩⟩
      by_cases ai:a_s sp=4
      ·replace ay:=ay.trans (decide_eq_true ai)
       have U:Hid (shN d ls ls.length=none):=by
        refine b_m (i:=k+1) ?_ (by rw [HK.out.2.1];omega);rw [a_G HS.out,J.out];rw [if_pos ⟨(c_W s).2 O.out,fun h=>(HJ.out.1 h).1 ai⟩]
       clear ad J ai hj az;go_wp2;exact bodyPost_ret (v:=.tuple #[.slice none 0 0,.int .i64 0,.int .i64 4]) (by simp [results,Tryz.results27,go_sem]) rfl ⟨ShR.bad (d_i HF.out (U.out)) (by decide),aa.out⟩
      replace ay:=ay.trans (decide_eq_false ai);have bD:(sl:Int) - 2=(j:Int):=by omega
      have bo:(j:Int) < (sl:Int):=by omega
      obtain ⟨qr,bv,ar,br,dr,er,sr,mr⟩:=(aQ.out.up I.out).2 j (by have:=ah.out.2;omega);cases er;have bC:=a_f sr;have cS:=l_l (.slice ar br dr) (.slice a3 b3 d3) (shA S j) dd (by have:=(e_l HD.out.1 HD.out.2 (by rw [HK.out.2.1];omega) HS.out j (by omega)).smal.1;omega) W2 mr (HM.out.up I.out);obtain ⟨qs,aR⟩:∃ q:Bool,decide (shA S j=dd)=q:=⟨_,rfl⟩
      rw [aR] at cS;have a2:Hid (decide (shA S j=dd)=qs):=aR;have be:Hid (¬ a_s sp=4):=ai;clear aR mr aM hj az ai;go_wp2_with fail
      refine cS.mono ?_;rintro e w3 ⟨rfl,nd,e3⟩;have aH:Hid (Below W2.heap.size W2 w3):=by rw [e3];exact a_l (Below.refl _ _) nd
      clear e3 cS;cases qs with
      | false=>
       have U:Hid (shN d ls ls.length=none):=by
        refine b_m (i:=k+1) ?_ (by rw [HK.out.2.1];omega);rw [a_G HS.out,J.out];rw [if_pos ⟨(c_W s).2 O.out,fun h=>of_decide_eq_false a2.out (HJ.out.1 h).2⟩]
       clear ad J;go_wp2;exact bodyPost_ret (v:=.tuple #[.slice none 0 0,.int .i64 0,.int .i64 4]) (by simp [results,Tryz.results27,go_sem]) rfl ⟨ShR.bad (d_i HF.out (U.out)) (by decide),(a_c aa.out aH.out)⟩
      | true=>
       go_wp2;go_meet
       case rel=>exact ⟨_,_,_,_,_,dd,rfl,rfl,rfl,⟨(show shN d ls (k+1)=some (S++[dd]) by rw [a_G HS.out,J.out,if_neg fun h=>h.2 (HJ.out.2 ⟨be.out,of_decide_eq_true a2.out⟩),ac.out];rfl),by rw [HP.out.1,Bool.or_false],by rw [HP.out.2,Int.add_zero],R.out.2⟩,⟨HM.out.up (a_c I.out aH.out),a_c I.out aH.out⟩⟩
    case rest=>
     obtain ⟨g',a',pd,nd,cd,L,rfl,rfl,rfl,ae,aj⟩:=hcut;have aW:Hid (wc.heap[w.heap.size]?=some (.cells #[.slice p n c,.slice (some ⟨q,o,none⟩) n2 c2] 75 (0,0))):=(aj.out.2.block _ (a_i HX.out)).trans HX.out;have aT:Hid (OwnS wc w.heap.size (.slice (some ⟨q3,o3,none⟩) sl cs) S/\Below w.heap.size w wc):=⟨HO.out.1.up aj.out.2,a_c HO.out.2 aj.out.2⟩
     have bm:0<=a'/\a'<=1053697:=by
      have:=e_D R.out.2 R.out.1;have:=ae.out.2.2.1;omega
     have aE:=ad.out L;rw [<- ae.out.2.1,<- ae.out.2.2.1] at aE;have ag:Hid (rG ls (S++[L]) (k+1)=if 4096 < a' then (true,4097) else (g' || decide (4096 < a_t L),a')):=aE;have cP:=f_P (.slice pd nd cd) L ae.out.2.2.2.smal wc aj.out.1;have av:Hid (shN d ls (k+1)=some (S++[L])):=ae.out.1;have F5:Hid (OwnK .i64 3 (wc.alloc (.cells #[] 3)) wc.heap.size (.slice (some ⟨wc.heap.size,0,none⟩) 0 0) []):=b_5 (k:=.i64) (e:=3) wc [] 0 rfl (by decide);have F6:Hid (Nums .i64 (wc.alloc (.cells #[] 3)) (.slice pd nd cd) L):=aj.out.1.up (a_b wc _);have F7:Hid (([]:List Int).length+L.length<=1073741824):=by show _<=_;have:=ae.out.2.2.2.smal.1;simp;omega
     have F8:Hid (wc.heap.size<=(wc.alloc (.cells #[] 3)).heap.size):=by show _<=_;simp
     have F9:Hid (Below wc.heap.size wc (wc.alloc (.cells #[] 3))):=a_b wc _;have FP:Hid (∀ w2 pa na ca,OwnK .i64 3 w2 wc.heap.size (.slice pa na ca) L->Below wc.heap.size wc w2->∃ vs,(w2.alloc (.cells #[.slice pa na ca] 30)).ownsRow w.heap.size 30 1 (.slice (some ⟨q3,o3,none⟩) sl cs) sl vs/\(w2.alloc (.cells #[.slice pa na ca] 30)).heap[w2.heap.size]?=some (.cells [.slice pa na ca].toArray 30 (0,0))/\(∀ y∈[Value.slice pa na ca],y.oneCell'=true)/\w.heap.size<=(w2.alloc (.cells #[.slice pa na ca] 30)).heap.size/\∀ v0 V,V.ownsRow w.heap.size 30 1 v0 (sl+1) (vs++[.slice pa na ca])->Only [30] (w2.alloc (.cells #[.slice pa na ca] 30)) V->(∀ w',Below w.heap.size w' (w2.alloc (.cells #[.slice pa na ca] 30))->Below w.heap.size w' V)->(OwnS V w.heap.size v0 (S++[L])/\Below w.heap.size w V)/\V.heap[w.heap.size]?=some (.cells #[.slice p n c,.slice (some ⟨q,o,none⟩) n2 c2] 75 (0,0))):=fun w2 pa na ca h2 a9=>o_J aT.out.1 ah.out.1 aT.out.2 ⟨_,_,rfl,by decide⟩ aW.out h2 a9;have aA:sl+1<=1073741825:=by have:=ah.out.2;omega
     clear aE ad J ae aj HO HX aQ HM aW aT;by_cases ha:4096 < a'
     ·cases g' with
      | true=>
       go_wp2_with (first|(at_builtin;refine a_F i_e (by decide) rfl (.tmp 172) (.tmp 173) rfl wc.heap.size _ [] rfl F5.out _ L rfl F6.out F7.out F8.out wc F9.out ?_;intro v2 w2 H2 B2;obtain ⟨pa,na,ca,rfl,_⟩:=H2.out.nums.lst;obtain ⟨vs,G5,G6,G7,G8,G9⟩:=FP.out w2 pa na ca H2.out B2;have H5:Hid _:=G5;have H6:Hid _:=G6;have H7:Hid _:=G7;have H8:Hid _:=G8;have H9:Hid _:=G9;clear G5 G6 G7 G8 G9 B2 H2)|(at_builtin;refine b_p shT (by decide) (by decide) rfl (.tmp 171) (.tmp 175) rfl w.heap.size _ sl vs rfl H5.out _ [.slice pa na ca] rfl H6.out rfl H7.out aA H8.out ?_;intro v0 V H0 O0 B0))
       obtain ⟨hA,hX⟩:=H9.out v0 V H0.out O0.out B0.out;have HA:Hid (OwnS V w.heap.size v0 (S++[L])/\Below w.heap.size w V):=hA;have af:Hid (V.heap[w.heap.size]?=some (.cells #[.slice p n c,.slice (some ⟨q,o,none⟩) n2 c2] 75 (0,0))):=hX;clear hA hX H0 O0 B0 H5 H6 H7 H8 H9 FP F5 F6 F7 F8 F9;go_wp2;go_roundg (n2 - (k+1))
       case measure=>omega
       case rel=>exact ⟨k+1,S++[L],true,4097,by omega,rfl,by first|rfl|simp,by first|rfl|simp,by first|rfl|simp,HA,av,by show _=_;rw [ag.out];rw [if_pos ha],af⟩
      | false=>
       obtain ⟨M,eM⟩:∃ M,a_t L=M:=⟨_,rfl⟩
       rw [eM] at cP;clear eM;go_wp2_with fail
       refine cP.mono ?_;rintro e w3 ⟨rfl,rfl⟩;clear cP;go_wp2_with (first|(at_builtin;refine a_F i_e (by decide) rfl (.tmp 172) (.tmp 173) rfl w3.heap.size _ [] rfl F5.out _ L rfl F6.out F7.out F8.out w3 F9.out ?_;intro v2 w2 H2 B2;obtain ⟨pa,na,ca,rfl,_⟩:=H2.out.nums.lst;obtain ⟨vs,G5,G6,G7,G8,G9⟩:=FP.out w2 pa na ca H2.out B2;have H5:Hid _:=G5;have H6:Hid _:=G6;have H7:Hid _:=G7;have H8:Hid _:=G8;have H9:Hid _:=G9;clear G5 G6 G7 G8 G9 B2 H2)|(at_builtin;refine b_p shT (by decide) (by decide) rfl (.tmp 171) (.tmp 175) rfl w.heap.size _ sl vs rfl H5.out _ [.slice pa na ca] rfl H6.out rfl H7.out aA H8.out ?_;intro v0 V H0 O0 B0))
       obtain ⟨hA,hX⟩:=H9.out v0 V H0.out O0.out B0.out;have HA:Hid (OwnS V w.heap.size v0 (S++[L])/\Below w.heap.size w V):=hA;have af:Hid (V.heap[w.heap.size]?=some (.cells #[.slice p n c,.slice (some ⟨q,o,none⟩) n2 c2] 75 (0,0))):=hX;clear hA hX H0 O0 B0 H5 H6 H7 H8 H9 FP F5 F6 F7 F8 F9;go_wp2;go_roundg (n2 - (k+1))
       case measure=>omega
       case rel=>exact ⟨k+1,S++[L],true,4097,by omega,rfl,by first|rfl|simp,by first|rfl|simp,by first|rfl|simp,HA,av,by show _=_;rw [ag.out];rw [if_pos ha],af⟩
     have bz:a'<=4096:=by omega
     cases g' with
     | true=>
      go_wp2_with (first|(at_builtin;refine a_F i_e (by decide) rfl (.tmp 172) (.tmp 173) rfl wc.heap.size _ [] rfl F5.out _ L rfl F6.out F7.out F8.out wc F9.out ?_;intro v2 w2 H2 B2;obtain ⟨pa,na,ca,rfl,_⟩:=H2.out.nums.lst;obtain ⟨vs,G5,G6,G7,G8,G9⟩:=FP.out w2 pa na ca H2.out B2;have H5:Hid _:=G5;have H6:Hid _:=G6;have H7:Hid _:=G7;have H8:Hid _:=G8;have H9:Hid _:=G9;clear G5 G6 G7 G8 G9 B2 H2)|(at_builtin;refine b_p shT (by decide) (by decide) rfl (.tmp 171) (.tmp 175) rfl w.heap.size _ sl vs rfl H5.out _ [.slice pa na ca] rfl H6.out rfl H7.out aA H8.out ?_;intro v0 V H0 O0 B0))
      obtain ⟨hA,hX⟩:=H9.out v0 V H0.out O0.out B0.out;have HA:Hid (OwnS V w.heap.size v0 (S++[L])/\Below w.heap.size w V):=hA;have af:Hid (V.heap[w.heap.size]?=some (.cells #[.slice p n c,.slice (some ⟨q,o,none⟩) n2 c2] 75 (0,0))):=hX;clear hA hX H0 O0 B0 H5 H6 H7 H8 H9 FP F5 F6 F7 F8 F9;go_wp2;go_roundg (n2 - (k+1))
      case measure=>omega
      case rel=>exact ⟨k+1,S++[L],true,a',by omega,rfl,by first|rfl|simp,by first|rfl|simp,by first|rfl|simp,HA,av,by show _=_;rw [ag.out];rw [if_neg (by omega)];rfl,af⟩
     | false=>
      obtain ⟨M,eM⟩:∃ M,a_t L=M:=⟨_,rfl⟩
      have bb:Hid (a_t L=M):=eM;rw [eM] at cP;clear eM;go_wp2_with fail
      refine cP.mono ?_;rintro e w3 ⟨rfl,rfl⟩;clear cP;go_wp2_with (first|(at_builtin;refine a_F i_e (by decide) rfl (.tmp 172) (.tmp 173) rfl w3.heap.size _ [] rfl F5.out _ L rfl F6.out F7.out F8.out w3 F9.out ?_;intro v2 w2 H2 B2;obtain ⟨pa,na,ca,rfl,_⟩:=H2.out.nums.lst;obtain ⟨vs,G5,G6,G7,G8,G9⟩:=FP.out w2 pa na ca H2.out B2;have H5:Hid _:=G5;have H6:Hid _:=G6;have H7:Hid _:=G7;have H8:Hid _:=G8;have H9:Hid _:=G9;clear G5 G6 G7 G8 G9 B2 H2)|(at_builtin;refine b_p shT (by decide) (by decide) rfl (.tmp 171) (.tmp 175) rfl w.heap.size _ sl vs rfl H5.out _ [.slice pa na ca] rfl H6.out rfl H7.out aA H8.out ?_;intro v0 V H0 O0 B0))
      obtain ⟨hA,hX⟩:=H9.out v0 V H0.out O0.out B0.out;have HA:Hid (OwnS V w.heap.size v0 (S++[L])/\Below w.heap.size w V):=hA;have af:Hid (V.heap[w.heap.size]?=some (.cells #[.slice p n c,.slice (some ⟨q,o,none⟩) n2 c2] 75 (0,0))):=hX;clear hA hX H0 O0 B0 H5 H6 H7 H8 H9 FP F5 F6 F7 F8 F9;go_wp2;go_roundg (n2 - (k+1))
      case measure=>omega
      case rel=>exact ⟨k+1,S++[L],decide (4096 < M),a',by omega,rfl,by first|rfl|simp,by first|rfl|simp,by first|rfl|simp,HA,av,by show _=_;rw [ag.out];rw [if_neg (by omega),bb.out];rfl,af⟩
   ·obtain rfl:k=n2:=by omega
    obtain ⟨aC,aw⟩:=s_q HF.out (show shN d ls ls.length=some S by rw [HK.out.2.1];exact HS.out);rw [HK.out.2.1,HR.out] at aC aw;simp only [] at aC aw;have ao:Hid ((g || decide (4096 < a_t d))=e_O ls S/\(e_O ls S=false->a=b_4 ls S k)):=⟨aC,aw⟩
    have aK:Hid (shN d ls ls.length=some S):=by show _=_;rw [HK.out.2.1];exact HS.out
    clear aC aw;have cP:=f_P (.slice p n c) d HD.out.1.smal wr (HK.out.1.up HO.out.2);cases g with
    | true=>
     have HE:Hid (nE d ls=2):=m_N HF.out aK.out (by rw [<- ao.out.1];rfl);clear cP;go_wp2;exact bodyPost_ret (v:=.tuple #[.slice none 0 0,.int .i64 0,.int .i64 2]) (by simp [results,Tryz.results27,go_sem]) rfl ⟨ShR.bad HE.out (by decide),HO.out.2⟩
    | false=>
     obtain ⟨M,eM⟩:∃ M,a_t d=M:=⟨_,rfl⟩
     rw [eM] at cP ao;clear eM;go_wp2_with fail
     refine cP.mono ?_;rintro e w3 ⟨rfl,rfl⟩;clear cP;by_cases hM:4096 < M
     ·have HE:Hid (nE d ls=2):=m_N HF.out aK.out (by rw [<- ao.out.1,decide_eq_true hM];rfl);go_wp2;exact bodyPost_ret (v:=.tuple #[.slice none 0 0,.int .i64 0,.int .i64 2]) (by simp [results,Tryz.results27,go_sem]) rfl ⟨ShR.bad HE.out (by decide),HO.out.2⟩
     ·have bs:M<=4096:=by omega
      have ht:e_O ls S=false:=by rw [<- ao.out.1,decide_eq_false hM];rfl
      obtain ⟨f1,f2,f3⟩:=k_N HF.out aK.out ht;have HE:Hid (nE d ls=0/\nS d ls=S/\nP d ls=a):=⟨f1,f2,by rw [f3,ao.out.2 ht,HK.out.2.1]⟩
      clear ht f1 f2 f3;go_wp2;exact bodyPost_ret (v:=.tuple #[.slice ps sl cs,.int .i64 a,.int .i64 0]) (by simp [results,Tryz.results27,go_sem]) rfl ⟨⟨_,by rw [HE.out.1,HE.out.2.2],by rw [HE.out.2.1];exact HO.out.1⟩,HO.out.2⟩
end Go.Proofs.YtjlofobnmjompaaGreatDoor.Wd
