/- The reference's Shapes. -/
import Derived.Test.YtjlofobnmjompaaGreatDoorP34
import Derived.Deep.CutBlock
set_option linter.unusedVariables false
set_option linter.unusedSimpArgs false
set_option maxHeartbeats 16000000
set_option maxRecDepth 16000
namespace Go.Proofs.YtjlofobnmjompaaGreatDoor.Wd
open Go.RowKit
theorem p_u {ls:List Ly} {S:List (List Int)} (o:List Int):∀ {k:Nat},k+1<=S.length->rG ls (S++[o]) k=rG ls S k
 | 0,_=>rfl
 | k+1,h=>by
  simp only [rG];rw [p_u o (k:=k) (by omega),d_U _ (by omega),d_U _ (by omega)]
theorem n_a {s:ByteArray} {x y:Int} {dd:List Int} (h:a_s s=1) (hb:dd.length≠2):d_C (s,x,y) dd=none:=by
 unfold d_C;simp [h,hb]
theorem n_b {s:ByteArray} {x y:Int} {dd:List Int} (h:a_s s=2) (hb:dd.length≠2):d_C (s,x,y) dd=none:=by
 unfold d_C;simp [h,hb]
/-- What Shapes answers. -/
def ShR (d:List Int) (ls:List Ly) (B:Nat) (e:Ending) (W:World):Prop:=∃ v',e = .returned (.tuple #[v',.int .i64 (nP d ls),.int .i64 (nE d ls)])/\OwnS W B v' (nS d ls)
theorem ShR.bad {d:List Int} {ls:List Ly} {B:Nat} {W:World} {E:Int} (h:nE d ls=E) (D:E≠0):ShR d ls B (.returned (.tuple #[.slice none 0 0,.int .i64 0,.int .i64 E])) W:=by
 obtain ⟨H,I⟩:=h_6 (d:=d) (ls:=ls) (by rw [h];exact D);exact ⟨_,by rw [I,h],by rw [H];exact OwnS.nil W B⟩
/-- One shape more, behind those that the call made. -/
theorem o_Q {w wc H:World} {N:Obj} {ps D:Option Addr} {O cs I E:Nat} {S:List (List Int)} {oo:List Int} (hO:OwnS wc w.heap.size (.slice ps O cs) S) (hl:S.length=O) (U:Below w.heap.size w wc) (hN:∃ a b,N = .cells a b (0,0)/\b≠30) (hX:wc.heap[w.heap.size]?=some N) (h2:OwnK .i64 3 H wc.heap.size (.slice D I E) oo) (aa:Below wc.heap.size wc H):
  ∃ vs,(H.alloc (.cells #[.slice D I E] 30)).ownsRow w.heap.size 30 1 (.slice ps O cs) O vs/\(H.alloc (.cells #[.slice D I E] 30)).heap[H.heap.size]?=some (.cells [.slice D I E].toArray 30 (0,0))/\(∀ y∈[Value.slice D I E],y.oneCell'=true)/\w.heap.size<=(H.alloc (.cells #[.slice D I E] 30)).heap.size/\
   ∀ v0 M,M.ownsRow w.heap.size 30 1 v0 (O+1) (vs++[.slice D I E])->Only [30] (H.alloc (.cells #[.slice D I E] 30)) M->(∀ w',Below w.heap.size w' (H.alloc (.cells #[.slice D I E] 30))->Below w.heap.size w' M)->(OwnS M w.heap.size v0 (S++[oo])/\Below w.heap.size w M)/\M.heap[w.heap.size]?=some N:=by
 obtain ⟨vs,L,V⟩:=hO;have ab:vs.length=S.length:=by have:=L.1;omega
 have hb:=a_b H (.cells #[.slice D I E] 30);have J:Below wc.heap.size wc (H.alloc (.cells #[.slice D I E] 30)):=a_c aa hb;rw [hl] at L;refine ⟨vs,a_z (S:=[]) L (Only.of J) (by simp),heap_alloc_new H _,fun y hy=>by simp at hy;subst hy;rfl,by have:=(a_c U J).size;exact this,fun v0 M g1 g2 g3=>?_⟩;obtain ⟨ad,ac,rfl,R⟩:=hN;refine ⟨⟨OwnS.push (W:=H.alloc (.cells #[.slice D I E] 30)) (vs:=vs) (by rw [hl];exact g1) ab (fun i hi=>?_) ((h2.low U.size).up hb) g2,g3 w (a_c U J)⟩,g2.keep ((J.block _ (a_i hX)).trans hX) (by simpa using R)⟩;obtain ⟨a',b',c',e',h'⟩:=V i hi;exact ⟨a',b',c',e',h'.up J⟩
theorem i_3 (p p2:Option Addr) (n c n2 c2:Nat) (d:List Int) (ls:List Ly) (bm:n2<=1073741823) (w:World) (h1:Nums .i64 w (.slice p n c) d) (hL:LyR 0 w p2 n2 ls):
  Calls Tryz.prog 27 #[.agg #[.slice p n c,.slice p2 n2 c2]] w fun e w'=>ShR d ls w.heap.size e w'/\Below w.heap.size w w':=by
 haveI:Nonempty World:=⟨w⟩
 have HK:Hid (Nums .i64 w (.slice p n c) d/\LyR 0 w p2 n2 ls):=⟨h1,hL⟩
 clear h1 hL;go_enter Tryz.func27,Tryz.ntmps27;go_wp2_with fail
 generalize aP:World.alloc _ _=W0;have aw:Hid (Below w.heap.size w W0):=by rw [<- aP];exact a_b w _
 have aK:Hid (W0.heap[w.heap.size]?=some (.cells #[.slice p n c,.slice p2 n2 c2] 75 (0,0))):=by
  show _=_;rw [<- aP];exact heap_alloc_new w _
 clear aP;obtain ⟨qf,aG⟩:∃ q,b_L d ls=q:=⟨_,rfl⟩
 have HF:Hid (b_L d ls=qf):=aG;have cF:=k_Z p p2 n c n2 c2 d ls (by omega) W0 (HK.out.1.up aw.out) (HK.out.2.up aw.out);rw [aG] at cF;clear aG;refine cF.mono ?_;rintro e w1 ⟨rfl,hB⟩;have ag:Hid (Below w.heap.size w w1):=a_c aw.out hB;have am:Hid (w1.heap[w.heap.size]?=some (.cells #[.slice p n c,.slice p2 n2 c2] 75 (0,0))):=(hB.block _ (a_i aK.out)).trans aK.out;obtain ⟨⟨g0,_⟩,⟨g1,_⟩⟩:=e_n am.out;have kg:=a_g g0;clear hB aw aK cF;cases qf with
 | false=>
  have hE:nE d ls=1:=m_S (by rw [HF.out];simp);have HE:Hid (nE d ls=1):=hE;clear hE;go_wp2;exact bodyPost_ret (v:=.tuple #[.slice none 0 0,.int .i64 0,.int .i64 1]) (by simp [results,Tryz.results27,go_sem]) rfl ⟨ShR.bad HE.out (by decide),ag.out⟩
 | true=>
  obtain ⟨hd,a2⟩:=(c_f d ls).1 HF.out;have HD:Hid (InOk d/\∀ l∈ls,a_S l):=⟨hd,a2⟩
  have H5:Hid (OwnK .i64 3 (w1.alloc (.cells #[] 3)) w1.heap.size (.slice (some ⟨w1.heap.size,0,none⟩) 0 0) []):=b_6 (k:=.i64) (e:=3) w1 [] 0 rfl (by decide);have H6:Hid (Nums .i64 (w1.alloc (.cells #[] 3)) (.slice p n c) d):=HK.out.1.up (a_c ag.out (a_b w1 _));have H7:Hid (([]:List Int).length+d.length<=1073741824):=by show _<=_;have:=hd.smal.1;simp;omega
  have H8:Hid (w1.heap.size<=(w1.alloc (.cells #[] 3)).heap.size):=by show _<=_;simp
  have H9:Hid (Below w1.heap.size w1 (w1.alloc (.cells #[] 3))):=a_b w1 _;clear hd a2;go_wp2_with (at_builtin;refine a_E i_g (by decide) rfl (.tmp 15) (.tmp 17) rfl w1.heap.size _ [] rfl H5.out _ d rfl H6.out H7.out H8.out w1 H9.out ?_;intro v2 w2 H2 B2;obtain ⟨pa,na,ca,rfl,_⟩:=H2.out.nums.lst;have H:Hid (Below w1.heap.size w1 w2):=B2;clear B2;replace g0:=a_h H.out g0;replace g1:=a_h H.out g1;replace kg:=a_g g0)
  generalize aJ:World.alloc _ _=W3;have ak:Below w2.heap.size w2 W3:=by rw [<- aJ];exact a_b w2 _
  have aE:Hid (OwnS W3 w.heap.size (.slice (some ⟨w2.heap.size,0,none⟩) 1 1) [d]/\Below w.heap.size w W3):=by
   show _/\_;refine ⟨⟨[.slice pa na ca],⟨rfl,.inr ⟨w2.heap.size,1,#[.slice pa na ca],rfl,(a_c ag.out H.out).size,?_,Nat.le_refl _,by unfold maxLen;omega,rfl,rfl⟩⟩,fun i hi=>?_⟩,a_c (a_c ag.out H.out) ak⟩
   ·rw [<- aJ];exact heap_alloc_new w2 _
   ·obtain rfl:i=0:=by simp at hi;omega
    exact ⟨_,_,_,rfl,(H2.out.low ag.out.size).up ak⟩
  have a8:Hid (W3.heap[w.heap.size]?=some (.cells #[.slice p n c,.slice p2 n2 c2] 75 (0,0))):=(ak.block _ (by have:=a_i am.out;have:=H.out.size;omega)).trans ((H.out.block _ (a_i am.out)).trans am.out);replace g0:=a_h ak g0;replace g1:=a_h ak g1;replace kg:=a_g g0;clear aJ ak H2 H5 H6 H7 H8 H9 ag H am;go_region
  have bk:Hid (OwnS W3.drew w.heap.size (.slice (some ⟨w2.heap.size,0,none⟩) 1 1) [d]/\Below w.heap.size w W3.drew):=by
   have hD:Below W3.heap.size W3 W3.drew:=⟨rfl,rfl,rfl,Nat.le_refl _,fun _ _=>rfl⟩
   exact ⟨aE.out.1.up hD,a_c aE.out.2 hD⟩
  clear aE;go_wp2_with fail
  go_loopg [5,6,7,8] n2 (fun gg v5 v6 v7 v8 wr=>∃ (k:Nat) (S:List (List Int)) (g:Bool) (a:Int),k<=n2/\gg=n2 - k/\v6 = .int .i64 a/\v7 = .bool g/\v8 = .int .i64 (k:Int)/\Hid (OwnS wr w.heap.size v5 S/\Below w.heap.size w wr)/\Hid (shN d ls k=some S)/\Hid (rG ls S k=(g,a))/\Hid (wr.heap[w.heap.size]?=some (.cells #[.slice p n c,.slice p2 n2 c2] 75 (0,0))))
  case atStart=>
   refine ⟨0,[d],_,0,by omega,by omega,rfl,rfl,rfl,bk,rfl,?_,a8⟩;show (decide (16 < ls.length),(0:Int))=_;rw [HK.out.2.1];exact Prod.ext (decide_eq_decide.2 (by omega)) rfl
  case round=>
   obtain ⟨k,S,g,a,hk,hg,rfl,rfl,rfl,HO,HS,HR,HX⟩:=hrel;obtain ⟨ps,cs,rfl,aN⟩:=HO.out.1.rd;have aC:=c_U HS.out;obtain ⟨sl,aM⟩:∃ sl,S.length=sl:=⟨_,rfl⟩
   rw [aM] at aN aC HO ⊢;have aQ:Hid (RdS wr ps sl S):=aN;have aj:Hid (S.length=sl/\sl=k+1):=⟨aM,aC⟩
   have bD:(sl:Int) - 1=(k:Int):=by omega
   have bB:(k:Int) < (sl:Int):=by omega
   obtain ⟨⟨g0,_⟩,⟨g1,_⟩⟩:=e_n HX.out;have kg:=a_g g0;clear aM aN aC;by_cases aX:k < n2
   ·have bp:(k:Int) < (n2:Int):=by omega
    have aB:k < ls.length:=by rw [HK.out.2.1];exact aX
    obtain ⟨q,o,rfl,c0,c1,a4⟩:=(HK.out.2.up HO.out.2).2 k aX;obtain ⟨q3,o3,a3,b3,d3,rfl,s3,m3⟩:=aQ.out.2 k (by have:=aj.out.2;omega);have hl:=HD.out.2 _ (d_T aB);have aS:=e_l HD.out.1 HD.out.2 (by omega) HS.out k (by omega);obtain ⟨l,el⟩:∃ l,lyA ls k=l:=⟨_,rfl⟩
    obtain ⟨dd,ed⟩:∃ dd,shA S k=dd:=⟨_,rfl⟩
    have a0:=p_t (ls:=ls) (S:=S) (i:=k) (fun j hj=>e_l HD.out.1 HD.out.2 (by omega) HS.out j (by omega)) (fun j hj=>HD.out.2 _ (d_T (by omega)));rw [HR.out] at a0;simp only [] at a0;obtain ⟨s,x,y⟩:=l
    have I:Hid (f_2 ls k S=if s=e_j/\¬ c_Z ls S k then none else (d_C (s,x,y) dd).map fun o=>S++[o]):=by
     have a9:∀ l dd,lyA ls k=l->shA S k=dd->f_2 ls k S=if l.1=e_j/\¬ c_Z ls S k then none else (d_C l dd).map fun o=>S++[o]:=by
      rintro _ _ rfl rfl;rfl
     exact a9 _ _ el ed
    have ac:Hid (∀ J,rG ls (S++[J]) (k+1)=if 4096 < a+psz (s,x,y) dd then (true,4097) else (g || rP (s,x,y) dd || decide (4096 < a_t J),a+psz (s,x,y) dd)):=fun J=>by
     have h1:S.length=k+1:=by rw [aj.out.1,aj.out.2]
     simp only [rG];rw [p_u J (by omega),HR.out,el,d_U _ (by omega),ed,g_2 S J (k+1) h1]
    rw [el] at c0 c1 a4 hl;rw [ed] at m3 aS;have HM:Hid (Nums .i64 wr (.slice a3 b3 d3) dd):=m3;have O:Hid (a_S (s,x,y)/\InOk dd):=⟨hl,aS⟩
    have ba:=a_g c0;have be:=a_g s3;have bc:Hid (shA S k=dd/\lyA ls k=(s,x,y)):=⟨ed,el⟩
    clear el ed hl aS m3 aB;go_upto_block 2 with fail
    generalize aT:World.alloc _ _=W2;have H:Hid (Below wr.heap.size wr W2):=by rw [<- aT];exact a_b wr _
    obtain ⟨e0,e1,e2⟩:W2.cell? ⟨wr.heap.size,0,none⟩=some (.string s)/\W2.cell? ⟨wr.heap.size,1,none⟩=some (.int .i64 x)/\W2.cell? ⟨wr.heap.size,2,none⟩=some (.int .i64 y):=by rw [<- aT];simp [go_sem]
    have ke:=a_g e0;replace g0:=a_h H.out g0;replace g1:=a_h H.out g1;replace kg:=a_g g0;clear aT c0 c1 a4 s3 ba be
    go_cut [6,7,9,11] from 24 to 176 (fun v6 v7 v9 bt wx=>∃ (g':Bool) (a':Int) (pd:Option Addr) (nd cd:Nat) (J:List Int),v6 = .int .i64 a'/\v7 = .bool g'/\v9 = .slice pd nd cd/\Hid (shN d ls (k+1)=some (S++[J])/\g'=(g || rP (s,x,y) dd)/\a'=a+psz (s,x,y) dd/\InOk J)/\Hid (Nums .i64 wx (.slice pd nd cd) J/\Below wr.heap.size wr wx))
    case first=>
     obtain ⟨k0,k1,k2,k3,k4⟩:=kts s;have aB:=m_Q s;obtain ⟨z,ez⟩:∃ z,a_s s=z:=⟨_,rfl⟩
     have L:Hid (a_s s=z):=ez;rw [ez] at k0 k1 k2 k3 k4 aB;have bw:z < 5:=by rw [<- ez];exact O.out.1.1
     clear ez;obtain ⟨pm,nm,cm,bi,HC⟩:=(HM.out.up H.out).lst;cases bi;have V:Hid (Below w.heap.size w W2):=a_c HO.out.2 H.out;rcases (show z=0∨z=1∨z=2∨z=3∨z=4 by omega) with rfl|rfl|rfl|rfl|rfl
     ·simp only [decide_true,show (decide ((0:Nat)=0))=true from by decide,show (decide ((0:Nat)=1))=false from by decide,show (decide ((0:Nat)=2))=false from by decide,show (decide ((0:Nat)=3))=false from by decide,show (decide ((0:Nat)=4))=false from by decide] at k0 k1 k2 k3 k4
      have an:1<=x/\x<=256:=by
       rcases a_K O.out.1 with ⟨-,h,h1,-⟩|⟨-,h,h1,-⟩|⟨-,h,h1,-⟩|⟨-,h,h1,-⟩|⟨-,h,h1,-⟩ <;> simp only [L.out] at h <;> first|exact h1|omega
      go_wp2_with fail
      have cP:=f_Q (.slice a3 b3 d3) dd O.out.2.smal W2 (HM.out.up H.out);have a5:=O.out.2.prod;obtain ⟨M,eM⟩:∃ M,a_t dd=M:=⟨_,rfl⟩
      rw [eM] at cP a5;have bh:=a_3 an a5;obtain ⟨t,et⟩:∃ t,x*M=t:=⟨_,rfl⟩
      have HP:Hid (rP (s,x,y) dd=decide (4096 < t)/\psz (s,x,y) dd=t+x):=by
       unfold rP psz;simp only [L.out,if_true];rw [eM,et];exact ⟨rfl,rfl⟩
      rw [et] at bh;clear eM;refine cP.mono ?_;rintro e w3 ⟨rfl,rfl⟩;clear cP;cases g with
      | true=>
       go_wp2;go_meet
       case rel=>exact ⟨_,_,_,_,_,[x],rfl,rfl,rfl,⟨(show shN d ls (k+1)=some (S++[[x]]) by rw [a_G HS.out,I.out,if_neg fun h=>absurd ((c_W s).1 h.1) (by rw [L.out];decide),show d_C (s,x,y) dd=some [x] by unfold d_C;rw [if_pos L.out]];rfl),by rw [HP.out.1];rfl,by rw [HP.out.2,Int.add_assoc],.inl ⟨x,rfl,by omega,by omega⟩⟩,⟨a_5 (k:=.i64) _ [x] 1 (0,0) rfl,a_c H.out (a_b _ _)⟩⟩
      | false=>
       go_wp2;go_meet
       case rel=>exact ⟨_,_,_,_,_,[x],rfl,rfl,rfl,⟨(show shN d ls (k+1)=some (S++[[x]]) by rw [a_G HS.out,I.out,if_neg fun h=>absurd ((c_W s).1 h.1) (by rw [L.out];decide),show d_C (s,x,y) dd=some [x] by unfold d_C;rw [if_pos L.out]];rfl),by rw [HP.out.1];rfl,by rw [HP.out.2,Int.add_assoc],.inl ⟨x,rfl,by omega,by omega⟩⟩,⟨a_5 (k:=.i64) _ [x] 1 (0,0) rfl,a_c H.out (a_b _ _)⟩⟩
     ·simp only [decide_true,show (decide ((1:Nat)=0))=false from by decide,show (decide ((1:Nat)=1))=true from by decide,show (decide ((1:Nat)=2))=false from by decide,show (decide ((1:Nat)=3))=false from by decide,show (decide ((1:Nat)=4))=false from by decide] at k0 k1 k2 k3 k4
      have an:(1<=x/\x<=16)/\1<=y/\y<=16:=by
       rcases a_K O.out.1 with ⟨-,h,h1,-⟩|⟨-,h,h1,h2⟩|⟨-,h,h1,-⟩|⟨-,h,h1,-⟩|⟨-,h,h1,-⟩ <;> simp only [L.out] at h <;> first|exact ⟨h1,h2⟩|omega
      have aO:(∃ u v,dd = [u,v]/\b3=2)∨b3≠2:=by
       by_cases h:b3=2
       ·have ao:=HC.out.1;rw [h] at ao
        match dd,ao with
        | [u,v],_=>exact .inl ⟨u,v,rfl,h⟩
       ·exact .inr h
      rcases aO with ⟨u,v,rfl,aa⟩|aa
      ·obtain ⟨qa,oa,rfl,u0⟩:=HC.out.2 0 (by omega);obtain ⟨qb,ob,e,v0⟩:=HC.out.2 1 (by omega);cases e;simp only [List.getD_cons_zero,List.getD_cons_succ,Nat.add_zero] at u0 v0;have ku:=a_g u0
       have aY:(1<=u/\u<=64)/\1<=v/\v<=64:=by
        rcases O.out.2 with ⟨a,h,_⟩|⟨a,b,h,h1,h2⟩
        ·simp at h
        ·simp only [List.cons.injEq,and_true] at h;obtain ⟨rfl,rfl⟩:=h;exact ⟨h1,h2⟩
       have t2:((b3:Int) != 2)=false:=by rw [aa];rfl
       have i0:(0:Int) < (b3:Int):=by omega
       have i1:(1:Int) < (b3:Int):=by omega
       clear aa;by_cases hy:v < y
       ·have R:Hid (shN d ls ls.length=none):=by
         refine b_o (i:=k+1) ?_ (by rw [HK.out.2.1];omega);rw [a_G HS.out,I.out];rw [if_neg fun h=>absurd ((c_W s).1 h.1) (by rw [L.out];decide)];rw [show d_C (s,x,y) [u,v]=none by unfold d_C;simp only [L.out];simp;omega];rfl
        clear ac I;go_wp2;go_region;go_wp2;exact bodyPost_ret (v:=.tuple #[.slice none 0 0,.int .i64 0,.int .i64 4]) (by simp [results,Tryz.results27,go_sem]) rfl ⟨ShR.bad (d_i HF.out (R.out)) (by decide),by have h9:=V.out;exact a_c h9 ⟨rfl,rfl,rfl,Nat.le_refl _,fun _ _=>rfl⟩⟩
       have bf:y<=v:=by omega
       have aZ:=a_3 an.1 aY.1;obtain ⟨t,et⟩:∃ t,x*u=t:=⟨_,rfl⟩
       rw [et] at aZ;have bj:=a_3 aZ an.2;obtain ⟨t',aU⟩:∃ t',t*y=t':=⟨_,rfl⟩
       rw [aU] at bj
       have HP:Hid (rP (s,x,y) [u,v]=decide (4096 < t')/\psz (s,x,y) [u,v]=t'):=by
        unfold rP psz;simp only [L.out,if_neg (show ¬ (1:Nat)=0 by omega),if_true,List.getD_cons_zero];rw [et,aU];exact ⟨rfl,rfl⟩
       have ab:Hid (d_C (s,x,y) [u,v]=some [x,v - y+1]):=by
        show _=_;unfold d_C;simp only [L.out];simp;omega
       cases g with
       | true=>
        iterate 4
         go_wp2;go_region
        go_wp2;go_meet
        case rel=>exact ⟨_,_,_,_,_,[x,v - y+1],rfl,rfl,rfl,⟨(show shN d ls (k+1)=some (S++[[x,v - y+1]]) by rw [a_G HS.out,I.out,if_neg fun h=>absurd ((c_W s).1 h.1) (by rw [L.out];decide),ab.out];rfl),by rw [HP.out.1];rfl,by rw [HP.out.2],.inr ⟨x,_,rfl,by omega,by omega,by omega⟩⟩,⟨a_5 (k:=.i64) _ [x,v - y+1] 2 (0,0) rfl,a_c H.out (by go_grown)⟩⟩
       | false=>
        iterate 4
         go_wp2;go_region
        go_wp2;go_meet
        case rel=>exact ⟨_,_,_,_,_,[x,v - y+1],rfl,rfl,rfl,⟨(show shN d ls (k+1)=some (S++[[x,v - y+1]]) by rw [a_G HS.out,I.out,if_neg fun h=>absurd ((c_W s).1 h.1) (by rw [L.out];decide),ab.out];rfl),by rw [HP.out.1];rfl,by rw [HP.out.2],.inr ⟨x,_,rfl,by omega,by omega,by omega⟩⟩,⟨a_5 (k:=.i64) _ [x,v - y+1] 2 (0,0) rfl,a_c H.out (by go_grown)⟩⟩
      ·have t2:((b3:Int) != 2)=true:=by simpa using (show (b3:Int)≠2 by omega)
       have R:Hid (shN d ls ls.length=none):=by
        refine b_o (i:=k+1) ?_ (by rw [HK.out.2.1];omega);rw [a_G HS.out,I.out];rw [if_neg fun h=>absurd ((c_W s).1 h.1) (by rw [L.out];decide)];rw [n_a L.out fun h=>aa (by rw [<- HC.out.1];exact h)];rfl
       clear ac I aa;go_wp2;go_region;go_wp2;exact bodyPost_ret (v:=.tuple #[.slice none 0 0,.int .i64 0,.int .i64 4]) (by simp [results,Tryz.results27,go_sem]) rfl ⟨ShR.bad (d_i HF.out (R.out)) (by decide),a_c V.out ⟨rfl,rfl,rfl,Nat.le_refl _,fun _ _=>rfl⟩⟩
     ·simp only [decide_true,show (decide ((2:Nat)=0))=false from by decide,show (decide ((2:Nat)=1))=false from by decide,show (decide ((2:Nat)=2))=true from by decide,show (decide ((2:Nat)=3))=false from by decide,show (decide ((2:Nat)=4))=false from by decide] at k0 k1 k2 k3 k4
      have an:1<=x/\x<=16:=by
       rcases a_K O.out.1 with ⟨-,h,h1,-⟩|⟨-,h,h1,h2⟩|⟨-,h,h1,-⟩|⟨-,h,h1,-⟩|⟨-,h,h1,-⟩ <;> simp only [L.out] at h <;> first|exact h1|omega
      have HP:Hid (rP (s,x,y) dd=false/\psz (s,x,y) dd=0):=by
       show _/\_;unfold rP psz;simp [L.out]
      have aO:(∃ u v,dd = [u,v]/\b3=2)∨b3≠2:=by
       by_cases h:b3=2
       ·have ao:=HC.out.1;rw [h] at ao
        match dd,ao with
        | [u,v],_=>exact .inl ⟨u,v,rfl,h⟩
       ·exact .inr h
      rcases aO with ⟨u,v,rfl,aa⟩|aa
      ·obtain ⟨qa,oa,rfl,u0⟩:=HC.out.2 0 (by omega);obtain ⟨qb,ob,e,v0⟩:=HC.out.2 1 (by omega);cases e;simp only [List.getD_cons_zero,List.getD_cons_succ,Nat.add_zero] at u0 v0;have ku:=a_g u0
       have aY:(1<=u/\u<=64)/\1<=v/\v<=64:=by
        rcases O.out.2 with ⟨a,h,_⟩|⟨a,b,h,h1,h2⟩
        ·simp at h
        ·simp only [List.cons.injEq,and_true] at h;obtain ⟨rfl,rfl⟩:=h;exact ⟨h1,h2⟩
       have t2:((b3:Int) != 2)=false:=by rw [aa];rfl
       have i0:(0:Int) < (b3:Int):=by omega
       have i1:(1:Int) < (b3:Int):=by omega
       clear aa;by_cases hy:v < x
       ·have R:Hid (shN d ls ls.length=none):=by
         refine b_o (i:=k+1) ?_ (by rw [HK.out.2.1];omega);rw [a_G HS.out,I.out];rw [if_neg fun h=>absurd ((c_W s).1 h.1) (by rw [L.out];decide)];rw [show d_C (s,x,y) [u,v]=none by unfold d_C;simp only [L.out];simp;omega];rfl
        clear ac I;go_wp2;go_region;go_wp2;exact bodyPost_ret (v:=.tuple #[.slice none 0 0,.int .i64 0,.int .i64 4]) (by simp [results,Tryz.results27,go_sem]) rfl ⟨ShR.bad (d_i HF.out (R.out)) (by decide),a_c V.out ⟨rfl,rfl,rfl,Nat.le_refl _,fun _ _=>rfl⟩⟩
       have bf:x<=v:=by omega
       have bC:(x==0)=false:=by simpa using (show x≠0 by omega)
       have ab:Hid (d_C (s,x,y) [u,v]=some [u,v / x]):=by
        show _=_;unfold d_C;simp only [L.out];simp [Int.tdiv_eq_ediv_of_nonneg (show 0<=v by omega)];omega
       have a1:Hid (InOk [u,v / x]):=O.out.2.out O.out.1 ab.out
       iterate 2
        go_wp2;go_region
       go_wp2;go_meet
       case rel=>exact ⟨_,_,_,_,_,[u,v / x],rfl,rfl,rfl,⟨(show shN d ls (k+1)=some (S++[[u,v / x]]) by rw [a_G HS.out,I.out,if_neg fun h=>absurd ((c_W s).1 h.1) (by rw [L.out];decide),ab.out];rfl),by rw [HP.out.1,Bool.or_false],by rw [HP.out.2,Int.add_zero],a1.out⟩,⟨(a_5 (k:=.i64) W2 [u,v / x] 2 (0,0) rfl).up ⟨rfl,rfl,rfl,Nat.le_refl _,fun _ _=>rfl⟩,a_c H.out (by go_grown)⟩⟩
      ·have t2:((b3:Int) != 2)=true:=by simpa using (show (b3:Int)≠2 by omega)
       have R:Hid (shN d ls ls.length=none):=by
        refine b_o (i:=k+1) ?_ (by rw [HK.out.2.1];omega);rw [a_G HS.out,I.out];rw [if_neg fun h=>absurd ((c_W s).1 h.1) (by rw [L.out];decide)];rw [n_b L.out fun h=>aa (by rw [<- HC.out.1];exact h)];rfl
       clear ac I aa;go_wp2;go_region;go_wp2;exact bodyPost_ret (v:=.tuple #[.slice none 0 0,.int .i64 0,.int .i64 4]) (by simp [results,Tryz.results27,go_sem]) rfl ⟨ShR.bad (d_i HF.out (R.out)) (by decide),a_c V.out ⟨rfl,rfl,rfl,Nat.le_refl _,fun _ _=>rfl⟩⟩
     ·simp only [decide_true,show (decide ((3:Nat)=0))=false from by decide,show (decide ((3:Nat)=1))=false from by decide,show (decide ((3:Nat)=2))=false from by decide,show (decide ((3:Nat)=3))=true from by decide,show (decide ((3:Nat)=4))=false from by decide] at k0 k1 k2 k3 k4
      have HP:Hid (rP (s,x,y) dd=false/\psz (s,x,y) dd=0):=by
       show _/\_;unfold rP psz;simp [L.out]
      have ab:Hid (d_C (s,x,y) dd=some dd):=by
       show _=_;unfold d_C;simp only [L.out];simp
      go_wp2;go_meet
      case rel=>exact ⟨_,_,_,_,_,dd,rfl,rfl,rfl,⟨(show shN d ls (k+1)=some (S++[dd]) by rw [a_G HS.out,I.out,if_neg fun h=>absurd ((c_W s).1 h.1) (by rw [L.out];decide),ab.out];rfl),by rw [HP.out.1,Bool.or_false],by rw [HP.out.2,Int.add_zero],O.out.2⟩,⟨HM.out.up H.out,H.out⟩⟩
     ·simp only [decide_true,show (decide ((4:Nat)=0))=false from by decide,show (decide ((4:Nat)=1))=false from by decide,show (decide ((4:Nat)=2))=false from by decide,show (decide ((4:Nat)=3))=false from by decide,show (decide ((4:Nat)=4))=true from by decide] at k0 k1 k2 k3 k4
      have HP:Hid (rP (s,x,y) dd=false/\psz (s,x,y) dd=0):=by
       show _/\_;unfold rP psz;simp [L.out]
      have ab:Hid (d_C (s,x,y) dd=some dd):=by
       show _=_;unfold d_C;simp only [L.out];simp
      by_cases av:k=0
      ·have aW:((k:Int)==0)=true:=by rw [av];rfl
       have R:Hid (shN d ls ls.length=none):=by
        refine b_o (i:=k+1) ?_ (by rw [HK.out.2.1];omega);rw [a_G HS.out,I.out];rw [if_pos ⟨(c_W s).2 L.out,fun h=>by have:=h.1;omega⟩]
       clear ac I av;go_wp2;exact bodyPost_ret (v:=.tuple #[.slice none 0 0,.int .i64 0,.int .i64 4]) (by simp [results,Tryz.results27,go_sem]) rfl ⟨ShR.bad (d_i HF.out (R.out)) (by decide),V.out⟩
      have aW:((k:Int)==0)=false:=by simpa using (show (k:Int)≠0 by omega)
      obtain ⟨j,hj⟩:∃ j,k=j+1:=⟨k - 1,by omega⟩
      have bx:(k:Int) - 1=(j:Int):=by omega
      have bu:(j:Int) < (n2:Int):=by omega
      obtain ⟨qp,op,ep,f0,_,_⟩:=(HK.out.2.up V.out).2 j (by omega);cases ep;obtain ⟨lp,aF⟩:∃ l,lyA ls j=l:=⟨_,rfl⟩
      obtain ⟨sp,xp,yp⟩:=lp;rw [aF] at f0;have kf:=a_g f0;obtain ⟨-,-,-,-,au⟩:=kts sp
      have HJ:Hid (c_Z ls S k↔¬ a_s sp=4/\shA S j=dd):=by
       show _↔_;unfold c_Z;rw [show k - 1=j by omega,aF,bc.out.1];exact ⟨fun h=>⟨fun h2=>h.2.1 ((c_W sp).2 h2),h.2.2⟩,fun h=>⟨by omega,fun h2=>h.1 ((c_W sp).1 h2),h.2⟩⟩
      by_cases ai:a_s sp=4
      ·replace au:=au.trans (decide_eq_true ai)
       have R:Hid (shN d ls ls.length=none):=by
        refine b_o (i:=k+1) ?_ (by rw [HK.out.2.1];omega);rw [a_G HS.out,I.out];rw [if_pos ⟨(c_W s).2 L.out,fun h=>(HJ.out.1 h).1 ai⟩]
       clear ac I ai hj av;go_wp2;exact bodyPost_ret (v:=.tuple #[.slice none 0 0,.int .i64 0,.int .i64 4]) (by simp [results,Tryz.results27,go_sem]) rfl ⟨ShR.bad (d_i HF.out (R.out)) (by decide),V.out⟩
      replace au:=au.trans (decide_eq_false ai);have bv:(sl:Int) - 2=(j:Int):=by omega
      have bl:(j:Int) < (sl:Int):=by omega
      obtain ⟨qr,bz,ar,br,dr,er,sr,mr⟩:=(aQ.out.up H.out).2 j (by have:=aj.out.2;omega);cases er;have bA:=a_g sr;have cS:=l_p (.slice ar br dr) (.slice a3 b3 d3) (shA S j) dd (by have:=(e_l HD.out.1 HD.out.2 (by rw [HK.out.2.1];omega) HS.out j (by omega)).smal.1;omega) W2 mr (HM.out.up H.out);obtain ⟨qs,aL⟩:∃ q:Bool,decide (shA S j=dd)=q:=⟨_,rfl⟩
      rw [aL] at cS;have aV:Hid (decide (shA S j=dd)=qs):=aL;have bg:Hid (¬ a_s sp=4):=ai;clear aL mr aF hj av ai;go_wp2_with fail
      refine cS.mono ?_;rintro e w3 ⟨rfl,nd,e3⟩;have aI:Hid (Below W2.heap.size W2 w3):=by rw [e3];exact a_m (Below.refl _ _) nd
      clear e3 cS;cases qs with
      | false=>
       have R:Hid (shN d ls ls.length=none):=by
        refine b_o (i:=k+1) ?_ (by rw [HK.out.2.1];omega);rw [a_G HS.out,I.out];rw [if_pos ⟨(c_W s).2 L.out,fun h=>of_decide_eq_false aV.out (HJ.out.1 h).2⟩]
       clear ac I;go_wp2;exact bodyPost_ret (v:=.tuple #[.slice none 0 0,.int .i64 0,.int .i64 4]) (by simp [results,Tryz.results27,go_sem]) rfl ⟨ShR.bad (d_i HF.out (R.out)) (by decide),(a_c V.out aI.out)⟩
      | true=>
       go_wp2;go_meet
       case rel=>exact ⟨_,_,_,_,_,dd,rfl,rfl,rfl,⟨(show shN d ls (k+1)=some (S++[dd]) by rw [a_G HS.out,I.out,if_neg fun h=>h.2 (HJ.out.2 ⟨bg.out,of_decide_eq_true aV.out⟩),ab.out];rfl),by rw [HP.out.1,Bool.or_false],by rw [HP.out.2,Int.add_zero],O.out.2⟩,⟨HM.out.up (a_c H.out aI.out),a_c H.out aI.out⟩⟩
    case rest=>
     obtain ⟨g',a',pd,nd,cd,J,rfl,rfl,rfl,ae,ah⟩:=hcut;have a6:Hid (wc.heap[w.heap.size]?=some (.cells #[.slice p n c,.slice (some ⟨q,o,none⟩) n2 c2] 75 (0,0))):=(ah.out.2.block _ (a_i HX.out)).trans HX.out;have aH:Hid (OwnS wc w.heap.size (.slice (some ⟨q3,o3,none⟩) sl cs) S/\Below w.heap.size w wc):=⟨HO.out.1.up ah.out.2,a_c HO.out.2 ah.out.2⟩
     have bo:0<=a'/\a'<=1053697:=by
      have:=e_D O.out.2 O.out.1;have:=ae.out.2.2.1;omega
     have aD:=ac.out J;rw [<- ae.out.2.1,<- ae.out.2.2.1] at aD;have af:Hid (rG ls (S++[J]) (k+1)=if 4096 < a' then (true,4097) else (g' || decide (4096 < a_t J),a')):=aD;have cP:=f_Q (.slice pd nd cd) J ae.out.2.2.2.smal wc ah.out.1;have aA:Hid (shN d ls (k+1)=some (S++[J])):=ae.out.1;have F5:Hid (OwnK .i64 3 (wc.alloc (.cells #[] 3)) wc.heap.size (.slice (some ⟨wc.heap.size,0,none⟩) 0 0) []):=b_6 (k:=.i64) (e:=3) wc [] 0 rfl (by decide);have F6:Hid (Nums .i64 (wc.alloc (.cells #[] 3)) (.slice pd nd cd) J):=ah.out.1.up (a_b wc _);have F7:Hid (([]:List Int).length+J.length<=1073741824):=by show _<=_;have:=ae.out.2.2.2.smal.1;simp;omega
     have F8:Hid (wc.heap.size<=(wc.alloc (.cells #[] 3)).heap.size):=by show _<=_;simp
     have F9:Hid (Below wc.heap.size wc (wc.alloc (.cells #[] 3))):=a_b wc _;have FP:Hid (∀ w2 pa na ca,OwnK .i64 3 w2 wc.heap.size (.slice pa na ca) J->Below wc.heap.size wc w2->∃ vs,(w2.alloc (.cells #[.slice pa na ca] 30)).ownsRow w.heap.size 30 1 (.slice (some ⟨q3,o3,none⟩) sl cs) sl vs/\(w2.alloc (.cells #[.slice pa na ca] 30)).heap[w2.heap.size]?=some (.cells [.slice pa na ca].toArray 30 (0,0))/\(∀ y∈[Value.slice pa na ca],y.oneCell'=true)/\w.heap.size<=(w2.alloc (.cells #[.slice pa na ca] 30)).heap.size/\∀ v0 U,U.ownsRow w.heap.size 30 1 v0 (sl+1) (vs++[.slice pa na ca])->Only [30] (w2.alloc (.cells #[.slice pa na ca] 30)) U->(∀ w',Below w.heap.size w' (w2.alloc (.cells #[.slice pa na ca] 30))->Below w.heap.size w' U)->(OwnS U w.heap.size v0 (S++[J])/\Below w.heap.size w U)/\U.heap[w.heap.size]?=some (.cells #[.slice p n c,.slice (some ⟨q,o,none⟩) n2 c2] 75 (0,0))):=fun w2 pa na ca h2 bb=>o_Q aH.out.1 aj.out.1 aH.out.2 ⟨_,_,rfl,by decide⟩ a6.out h2 bb;have ay:sl+1<=1073741825:=by have:=aj.out.2;omega
     clear aD ac I ae ah HO HX aQ HM a6 aH;by_cases ha:4096 < a'
     ·cases g' with
      | true=>
       go_wp2_with (first|(at_builtin;refine a_E i_g (by decide) rfl (.tmp 172) (.tmp 173) rfl wc.heap.size _ [] rfl F5.out _ J rfl F6.out F7.out F8.out wc F9.out ?_;intro v2 w2 H2 B2;obtain ⟨pa,na,ca,rfl,_⟩:=H2.out.nums.lst;obtain ⟨vs,G5,G6,G7,G8,G9⟩:=FP.out w2 pa na ca H2.out B2;have H5:Hid _:=G5;have H6:Hid _:=G6;have H7:Hid _:=G7;have H8:Hid _:=G8;have H9:Hid _:=G9;clear G5 G6 G7 G8 G9 B2 H2)|(at_builtin;refine b_z shT (by decide) (by decide) rfl (.tmp 171) (.tmp 175) rfl w.heap.size _ sl vs rfl H5.out _ [.slice pa na ca] rfl H6.out rfl H7.out ay H8.out ?_;intro v0 U H0 O0 B0))
       obtain ⟨hA,hX⟩:=H9.out v0 U H0.out O0.out B0.out;have HA:Hid (OwnS U w.heap.size v0 (S++[J])/\Below w.heap.size w U):=hA;have ad:Hid (U.heap[w.heap.size]?=some (.cells #[.slice p n c,.slice (some ⟨q,o,none⟩) n2 c2] 75 (0,0))):=hX;clear hA hX H0 O0 B0 H5 H6 H7 H8 H9 FP F5 F6 F7 F8 F9;go_wp2;go_roundg (n2 - (k+1))
       case measure=>omega
       case rel=>exact ⟨k+1,S++[J],true,4097,by omega,rfl,by first|rfl|simp,by first|rfl|simp,by first|rfl|simp,HA,aA,by show _=_;rw [af.out];rw [if_pos ha],ad⟩
      | false=>
       obtain ⟨M,eM⟩:∃ M,a_t J=M:=⟨_,rfl⟩
       rw [eM] at cP;clear eM;go_wp2_with fail
       refine cP.mono ?_;rintro e w3 ⟨rfl,rfl⟩;clear cP;go_wp2_with (first|(at_builtin;refine a_E i_g (by decide) rfl (.tmp 172) (.tmp 173) rfl w3.heap.size _ [] rfl F5.out _ J rfl F6.out F7.out F8.out w3 F9.out ?_;intro v2 w2 H2 B2;obtain ⟨pa,na,ca,rfl,_⟩:=H2.out.nums.lst;obtain ⟨vs,G5,G6,G7,G8,G9⟩:=FP.out w2 pa na ca H2.out B2;have H5:Hid _:=G5;have H6:Hid _:=G6;have H7:Hid _:=G7;have H8:Hid _:=G8;have H9:Hid _:=G9;clear G5 G6 G7 G8 G9 B2 H2)|(at_builtin;refine b_z shT (by decide) (by decide) rfl (.tmp 171) (.tmp 175) rfl w.heap.size _ sl vs rfl H5.out _ [.slice pa na ca] rfl H6.out rfl H7.out ay H8.out ?_;intro v0 U H0 O0 B0))
       obtain ⟨hA,hX⟩:=H9.out v0 U H0.out O0.out B0.out;have HA:Hid (OwnS U w.heap.size v0 (S++[J])/\Below w.heap.size w U):=hA;have ad:Hid (U.heap[w.heap.size]?=some (.cells #[.slice p n c,.slice (some ⟨q,o,none⟩) n2 c2] 75 (0,0))):=hX;clear hA hX H0 O0 B0 H5 H6 H7 H8 H9 FP F5 F6 F7 F8 F9;go_wp2;go_roundg (n2 - (k+1))
       case measure=>omega
       case rel=>exact ⟨k+1,S++[J],true,4097,by omega,rfl,by first|rfl|simp,by first|rfl|simp,by first|rfl|simp,HA,aA,by show _=_;rw [af.out];rw [if_pos ha],ad⟩
     have bq:a'<=4096:=by omega
     cases g' with
     | true=>
      go_wp2_with (first|(at_builtin;refine a_E i_g (by decide) rfl (.tmp 172) (.tmp 173) rfl wc.heap.size _ [] rfl F5.out _ J rfl F6.out F7.out F8.out wc F9.out ?_;intro v2 w2 H2 B2;obtain ⟨pa,na,ca,rfl,_⟩:=H2.out.nums.lst;obtain ⟨vs,G5,G6,G7,G8,G9⟩:=FP.out w2 pa na ca H2.out B2;have H5:Hid _:=G5;have H6:Hid _:=G6;have H7:Hid _:=G7;have H8:Hid _:=G8;have H9:Hid _:=G9;clear G5 G6 G7 G8 G9 B2 H2)|(at_builtin;refine b_z shT (by decide) (by decide) rfl (.tmp 171) (.tmp 175) rfl w.heap.size _ sl vs rfl H5.out _ [.slice pa na ca] rfl H6.out rfl H7.out ay H8.out ?_;intro v0 U H0 O0 B0))
      obtain ⟨hA,hX⟩:=H9.out v0 U H0.out O0.out B0.out;have HA:Hid (OwnS U w.heap.size v0 (S++[J])/\Below w.heap.size w U):=hA;have ad:Hid (U.heap[w.heap.size]?=some (.cells #[.slice p n c,.slice (some ⟨q,o,none⟩) n2 c2] 75 (0,0))):=hX;clear hA hX H0 O0 B0 H5 H6 H7 H8 H9 FP F5 F6 F7 F8 F9;go_wp2;go_roundg (n2 - (k+1))
      case measure=>omega
      case rel=>exact ⟨k+1,S++[J],true,a',by omega,rfl,by first|rfl|simp,by first|rfl|simp,by first|rfl|simp,HA,aA,by show _=_;rw [af.out];rw [if_neg (by omega)];rfl,ad⟩
     | false=>
      obtain ⟨M,eM⟩:∃ M,a_t J=M:=⟨_,rfl⟩
      have bd:Hid (a_t J=M):=eM;rw [eM] at cP;clear eM;go_wp2_with fail
      refine cP.mono ?_;rintro e w3 ⟨rfl,rfl⟩;clear cP;go_wp2_with (first|(at_builtin;refine a_E i_g (by decide) rfl (.tmp 172) (.tmp 173) rfl w3.heap.size _ [] rfl F5.out _ J rfl F6.out F7.out F8.out w3 F9.out ?_;intro v2 w2 H2 B2;obtain ⟨pa,na,ca,rfl,_⟩:=H2.out.nums.lst;obtain ⟨vs,G5,G6,G7,G8,G9⟩:=FP.out w2 pa na ca H2.out B2;have H5:Hid _:=G5;have H6:Hid _:=G6;have H7:Hid _:=G7;have H8:Hid _:=G8;have H9:Hid _:=G9;clear G5 G6 G7 G8 G9 B2 H2)|(at_builtin;refine b_z shT (by decide) (by decide) rfl (.tmp 171) (.tmp 175) rfl w.heap.size _ sl vs rfl H5.out _ [.slice pa na ca] rfl H6.out rfl H7.out ay H8.out ?_;intro v0 U H0 O0 B0))
      obtain ⟨hA,hX⟩:=H9.out v0 U H0.out O0.out B0.out;have HA:Hid (OwnS U w.heap.size v0 (S++[J])/\Below w.heap.size w U):=hA;have ad:Hid (U.heap[w.heap.size]?=some (.cells #[.slice p n c,.slice (some ⟨q,o,none⟩) n2 c2] 75 (0,0))):=hX;clear hA hX H0 O0 B0 H5 H6 H7 H8 H9 FP F5 F6 F7 F8 F9;go_wp2;go_roundg (n2 - (k+1))
      case measure=>omega
      case rel=>exact ⟨k+1,S++[J],decide (4096 < M),a',by omega,rfl,by first|rfl|simp,by first|rfl|simp,by first|rfl|simp,HA,aA,by show _=_;rw [af.out];rw [if_neg (by omega),bd.out];rfl,ad⟩
   ·obtain rfl:k=n2:=by omega
    obtain ⟨az,ax⟩:=s_o HF.out (show shN d ls ls.length=some S by rw [HK.out.2.1];exact HS.out);rw [HK.out.2.1,HR.out] at az ax;simp only [] at az ax;have aq:Hid ((g || decide (4096 < a_t d))=e_N ls S/\(e_N ls S=false->a=b_5 ls S k)):=⟨az,ax⟩
    have aR:Hid (shN d ls ls.length=some S):=by show _=_;rw [HK.out.2.1];exact HS.out
    clear az ax;have cP:=f_Q (.slice p n c) d HD.out.1.smal wr (HK.out.1.up HO.out.2);cases g with
    | true=>
     have HE:Hid (nE d ls=2):=m_T HF.out aR.out (by rw [<- aq.out.1];rfl);clear cP;go_wp2;exact bodyPost_ret (v:=.tuple #[.slice none 0 0,.int .i64 0,.int .i64 2]) (by simp [results,Tryz.results27,go_sem]) rfl ⟨ShR.bad HE.out (by decide),HO.out.2⟩
    | false=>
     obtain ⟨M,eM⟩:∃ M,a_t d=M:=⟨_,rfl⟩
     rw [eM] at cP aq;clear eM;go_wp2_with fail
     refine cP.mono ?_;rintro e w3 ⟨rfl,rfl⟩;clear cP;by_cases hM:4096 < M
     ·have HE:Hid (nE d ls=2):=m_T HF.out aR.out (by rw [<- aq.out.1,decide_eq_true hM];rfl);go_wp2;exact bodyPost_ret (v:=.tuple #[.slice none 0 0,.int .i64 0,.int .i64 2]) (by simp [results,Tryz.results27,go_sem]) rfl ⟨ShR.bad HE.out (by decide),HO.out.2⟩
     ·have bs:M<=4096:=by omega
      have ht:e_N ls S=false:=by rw [<- aq.out.1,decide_eq_false hM];rfl
      obtain ⟨f1,f2,f3⟩:=k_O HF.out aR.out ht;have HE:Hid (nE d ls=0/\nS d ls=S/\nP d ls=a):=⟨f1,f2,by rw [f3,aq.out.2 ht,HK.out.2.1]⟩
      clear ht f1 f2 f3;go_wp2;exact bodyPost_ret (v:=.tuple #[.slice ps sl cs,.int .i64 a,.int .i64 0]) (by simp [results,Tryz.results27,go_sem]) rfl ⟨⟨_,by rw [HE.out.1,HE.out.2.2],by rw [HE.out.2.1];exact HO.out.1⟩,HO.out.2⟩
end Go.Proofs.YtjlofobnmjompaaGreatDoor.Wd
