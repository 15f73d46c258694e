/- The reference's Shapes. -/
import Derived.Test.YtkfpainpomobfaaGreatDoorR19
import Derived.Deep.CutBlock
set_option linter.unusedVariables false
set_option linter.unusedSimpArgs false
set_option maxHeartbeats 16000000
set_option maxRecDepth 16000
namespace Go.Proofs.YtkfpainpomobfaaGreatDoor.Wd
open Go.RowKit List World Nat
theorem q_l {ls:List Ly} {S:List (List Int)} (o:List Int):∀ {k:Nat},k+1<=S.length->rG ls (S++[o]) k=rG ls S k
 | 0,_=>rfl
 | k+1,h=>by
  simp only [rG];rw [q_l o (k:=k) (by omega),e_c _ (by omega),e_c _ (by omega)]
theorem n_I {s:ByteArray} {x y:Int} {dd:List Int} (h:a_m s=1) (hb:dd.length≠2):c_S (s,x,y) dd=none:=by
 unfold c_S;simp [h,hb]
theorem n_J {s:ByteArray} {x y:Int} {dd:List Int} (h:a_m s=2) (hb:dd.length≠2):c_S (s,x,y) dd=none:=by
 unfold c_S;simp [h,hb]
/-- What Shapes answers. -/
def ShR (d:List Int) (ls:List Ly) (B:Nat) (e:Ending) (W:World):Prop:=∃ v',e = .returned (.tuple #[v',.int .i64 (nP d ls),.int .i64 (nE d ls)])/\OwnS W B v' (nS d ls)
theorem ShR.bad {d:List Int} {ls:List Ly} {B:Nat} {W:World} {E:Int} (h:nE d ls=E) (I:E≠0):ShR d ls B (.returned (.tuple #[.slice none 0 0,.int .i64 0,.int .i64 E])) W:=by
 obtain ⟨A,H⟩:=h_P (d:=d) (ls:=ls) (by rw [h];exact I);exact ⟨_,by rw [H,h],by rw [A];exact OwnS.nil W B⟩
/-- One shape more, behind those that the call made. -/
theorem p_F {w wc A:World} {N:Obj} {ps E:Option Addr} {O cs I H:Nat} {S:List (List Int)} {oo:List Int} (hO:OwnS wc w.heap.size (.slice ps O cs) S) (hl:S.length=O) (V:Bw w wc) (hN:∃ a b,N = .cells a b (0,0)/\b≠22) (hX:wc.heap[w.heap.size]?=some N) (h2:OwnK .i64 3 A wc.heap.size (.slice E I H) oo) (Z:Bw wc A):
  ∃ vs,(A.alloc (.cells #[.slice E I H] 22)).ownsRow w.heap.size 22 1 (.slice ps O cs) O vs/\(A.alloc (.cells #[.slice E I H] 22)).heap[A.heap.size]?=some (.cells [.slice E I H].toArray 22 (0,0))/\(∀ y∈[Value.slice E I H],y.oneCell'=true)/\w.heap.size<=(A.alloc (.cells #[.slice E I H] 22)).heap.size/\
   ∀ R M,M.ownsRow w.heap.size 22 1 R (O+1) (vs++[.slice E I H])->Only [22] (A.alloc (.cells #[.slice E I H] 22)) M->(∀ w',Below w.heap.size w' (A.alloc (.cells #[.slice E I H] 22))->Below w.heap.size w' M)->(OwnS M w.heap.size R (S++[oo])/\Bw w M)/\M.heap[w.heap.size]?=some N:=by
 obtain ⟨vs,L,ac⟩:=hO;have ab:vs.length=S.length:=by have:=L.1;omega
 have hb:=a_a A (.cells #[.slice E I H] 22);have J:Bw wc (A.alloc (.cells #[.slice E I H] 22)):=a_c Z hb;rw [hl] at L;refine ⟨vs,a_z (S:=[]) L (Only.of J) (by simp),heap_alloc_new A _,fun y hy=>by simp at hy;subst hy;rfl,by have:=(a_c V J).size;exact this,fun R M g1 g2 g3=>?_⟩;obtain ⟨ad,ae,rfl,aa⟩:=hN;refine ⟨⟨OwnS.push (W:=A.alloc (.cells #[.slice E I H] 22)) (vs:=vs) (by rw [hl];exact g1) ab (fun i hi=>?_) ((h2.low V.size).up hb) g2,g3 w (a_c V J)⟩,g2.keep ((J.block _ (a_k hX)).trans hX) (by simpa using aa)⟩;obtain ⟨a',b',c',e',h'⟩:=ac i hi;exact ⟨a',b',c',e',h'.up J⟩
theorem g_p (p p2:Option Addr) (n c n2 c2:Nat) (d:List Int) (ls:List Ly) (bp:n2<=1073741823) (w:World) (Z:Nums .i64 w (.slice p n c) d) (hL:LyR 0 w p2 n2 ls):
  Calls Tryz.prog 5 #[.agg #[.slice p n c,.slice p2 n2 c2]] w fun e w'=>ShR d ls w.heap.size e w'/\Bw w w':=by
 haveI:Nonempty World:=⟨w⟩
 have HK:Hid (Nums .i64 w (.slice p n c) d/\LyR 0 w p2 n2 ls):=⟨Z,hL⟩
 clear Z hL;go_enter Tryz.func5,Tryz.ntmps5;go_wp2_with fail
 generalize aO:alloc _ _=W0;have av:Hid (Bw w W0):=by rw [<- aO];exact a_a w _
 have aG:Hid (W0.heap[w.heap.size]?=some (.cells #[.slice p n c,.slice p2 n2 c2] 34 (0,0))):=by
  show _=_;rw [<- aO];exact heap_alloc_new w _
 clear aO;obtain ⟨qf,aS⟩:∃ q,b_O d ls=q:=⟨_,rfl⟩
 have HF:Hid (b_O d ls=qf):=aS;have cF:=l_w p p2 n c n2 c2 d ls (by omega) W0 (HK.1.up av) (HK.2.up av);rw [aS] at cF;clear aS;refine cF.mono ?_;rintro e w1 ⟨rfl,hB⟩;have aj:Hid (Bw w w1):=a_c av hB;have ap:Hid (w1.heap[w.heap.size]?=some (.cells #[.slice p n c,.slice p2 n2 c2] 34 (0,0))):=(hB.block _ (a_k aG.out)).trans aG.out;obtain ⟨⟨g0,_⟩,⟨g1,_⟩⟩:=b_4 ap.out;have kg:=a_h g0;clear hB av aG cF;cases qf with
 | false=>
  have hE:nE d ls=1:=l_G (by rw [HF.out];simp);have HE:Hid (nE d ls=1):=hE;clear hE;go_wp2;exact bodyPost_ret (v:=.tuple #[.slice none 0 0,.int .i64 0,.int .i64 1]) (by simp [results,Tryz.results5,go_sem]) rfl ⟨ShR.bad HE.out (by decide),aj⟩
 | true=>
  obtain ⟨hd,aX⟩:=(b_a d ls).1 HF.out;have HD:Hid (InOk d/\∀ l∈ls,a_L l):=⟨hd,aX⟩
  have H5:Hid (OwnK .i64 3 (w1.alloc (.cells #[] 3)) w1.heap.size (.slice (some ⟨w1.heap.size,0,none⟩) 0 0) []):=b_b (k:=.i64) (e:=3) w1 [] 0 rfl (by decide);have H6:Hid (Nums .i64 (w1.alloc (.cells #[] 3)) (.slice p n c) d):=HK.1.up (a_c aj (a_a w1 _));have H7:Hid (([]:List Int).length+d.length<=1073741824):=by show _<=_;have:=hd.smal.1;simp;omega
  have H8:Hid (w1.heap.size<=(w1.alloc (.cells #[] 3)).heap.size):=by show _<=_;simp
  have H9:Hid (Bw w1 (w1.alloc (.cells #[] 3))):=a_a w1 _;clear hd aX;go_wp2_with (at_builtin;refine a_x e_g (by decide) rfl (.tmp 15) (.tmp 17) rfl w1.heap.size _ [] rfl H5.out _ d rfl H6.out H7.out H8.out w1 H9.out ?_;intro v2 w2 H2 B2;obtain ⟨pa,na,ca,rfl,_⟩:=H2.out.nums.lst;have H:Hid (Bw w1 w2):=B2;clear B2;replace g0:=a_g H g0;replace g1:=a_g H g1;replace kg:=a_h g0)
  generalize aL:alloc _ _=W3;have ah:Bw w2 W3:=by rw [<- aL];exact a_a w2 _
  have aI:Hid (OwnS W3 w.heap.size (.slice (some ⟨w2.heap.size,0,none⟩) 1 1) [d]/\Bw w W3):=by
   show _/\_;refine ⟨⟨[.slice pa na ca],⟨rfl,.inr ⟨w2.heap.size,1,#[.slice pa na ca],rfl,(a_c aj H).size,?_,Nat.le_refl _,by unfold maxLen;omega,rfl,rfl⟩⟩,fun i hi=>?_⟩,a_c (a_c aj H) ah⟩
   ·rw [<- aL];exact heap_alloc_new w2 _
   ·obtain rfl:i=0:=by simp at hi;omega
    exact ⟨_,_,_,rfl,(H2.out.low aj.size).up ah⟩
  have be:Hid (W3.heap[w.heap.size]?=some (.cells #[.slice p n c,.slice p2 n2 c2] 34 (0,0))):=(ah.block _ (by have:=a_k ap.out;have:=H.size;omega)).trans ((H.block _ (a_k ap.out)).trans ap.out);replace g0:=a_g ah g0;replace g1:=a_g ah g1;replace kg:=a_h g0;clear aL ah H2 H5 H6 H7 H8 H9 aj H ap;go_region
  have bg:Hid (OwnS W3.drew w.heap.size (.slice (some ⟨w2.heap.size,0,none⟩) 1 1) [d]/\Bw w W3.drew):=by
   have hD:Bw W3 W3.drew:=⟨rfl,rfl,rfl,Nat.le_refl _,fun _ _=>rfl⟩
   exact ⟨aI.1.up hD,a_c aI.2 hD⟩
  clear aI;go_wp2_with fail
  go_loopg [5,6,7,8] n2 (fun gg v5 v6 v7 v8 wr=>∃ (k:Nat) (S:List (List Int)) (g:Bool) (a:Int),k<=n2/\gg=n2 - k/\v6 = .int .i64 a/\v7 = .bool g/\v8 = .int .i64 (k:Int)/\Hid (OwnS wr w.heap.size v5 S/\Bw w wr)/\Hid (shN d ls k=some S)/\Hid (rG ls S k=(g,a))/\Hid (wr.heap[w.heap.size]?=some (.cells #[.slice p n c,.slice p2 n2 c2] 34 (0,0))))
  case atStart=>
   refine ⟨0,[d],_,0,by omega,by omega,rfl,rfl,rfl,bg,rfl,?_,be⟩;show (decide (16 < ls.length),(0:Int))=_;rw [HK.2.1];exact Prod.ext (decide_eq_decide.2 (by omega)) rfl
  case round=>
   obtain ⟨k,S,g,a,hk,hg,rfl,rfl,rfl,HO,HS,HR,HX⟩:=hrel;obtain ⟨ps,cs,rfl,aJ⟩:=HO.1.rd;have aH:=c_N HS.out;obtain ⟨sl,aC⟩:∃ sl,S.length=sl:=⟨_,rfl⟩
   rw [aC] at aJ aH HO ⊢;have aR:Hid (RdS wr ps sl S):=aJ;have ai:Hid (S.length=sl/\sl=k+1):=⟨aC,aH⟩
   have bu:(sl:Int) - 1=(k:Int):=by omega
   have bx:(k:Int) < (sl:Int):=by omega
   obtain ⟨⟨g0,_⟩,⟨g1,_⟩⟩:=b_4 HX.out;have kg:=a_h g0;clear aC aJ aH;by_cases a2:k < n2
   ·have bE:(k:Int) < (n2:Int):=by omega
    have au:k < ls.length:=by rw [HK.2.1];exact a2
    obtain ⟨q,o,rfl,c0,c1,a6⟩:=(HK.2.up HO.2).2 k a2;obtain ⟨q3,o3,a3,b3,d3,rfl,s3,m3⟩:=aR.2 k (by have:=ai.2;omega);have hl:=HD.2 _ (d_p au);have aP:=e_y HD.1 HD.2 (by omega) HS.out k (by omega);obtain ⟨l,el⟩:∃ l,lyA ls k=l:=⟨_,rfl⟩
    obtain ⟨dd,ed⟩:∃ dd,shA S k=dd:=⟨_,rfl⟩
    have a5:=q_k (ls:=ls) (S:=S) (i:=k) (fun j hj=>e_y HD.1 HD.2 (by omega) HS.out j (by omega)) (fun j hj=>HD.2 _ (d_p (by omega)));rw [HR.out] at a5;simp only [] at a5;obtain ⟨s,x,y⟩:=l
    have I:Hid (f_H ls k S=if s=d_5/\¬ c_G ls S k then none else (c_S (s,x,y) dd).map fun o=>S++[o]):=by
     have bb:∀ l dd,lyA ls k=l->shA S k=dd->f_H ls k S=if l.1=d_5/\¬ c_G ls S k then none else (c_S l dd).map fun o=>S++[o]:=by
      rintro _ _ rfl rfl;rfl
     exact bb _ _ el ed
    have ad:Hid (∀ J,rG ls (S++[J]) (k+1)=if 4096 < a+psz (s,x,y) dd then (true,4097) else (g || rP (s,x,y) dd || decide (4096 < a_o J),a+psz (s,x,y) dd)):=fun J=>by
     have Z:S.length=k+1:=by rw [ai.1,ai.2]
     simp only [rG];rw [q_l J (by omega),HR.out,el,e_c _ (by omega),ed,f_w S J (k+1) Z]
    rw [el] at c0 c1 a6 hl;rw [ed] at m3 aP;have HM:Hid (Nums .i64 wr (.slice a3 b3 d3) dd):=m3;have O:Hid (a_L (s,x,y)/\InOk dd):=⟨hl,aP⟩
    have bi:=a_h c0;have bl:=a_h s3;have bj:Hid (shA S k=dd/\lyA ls k=(s,x,y)):=⟨ed,el⟩
    clear el ed hl aP m3 au;go_upto_block 2 with fail
    generalize aT:alloc _ _=W2;have H:Hid (Bw wr W2):=by rw [<- aT];exact a_a wr _
    obtain ⟨e0,e1,e2⟩:W2.cell? ⟨wr.heap.size,0,none⟩=some (.string s)/\W2.cell? ⟨wr.heap.size,1,none⟩=some (.int .i64 x)/\W2.cell? ⟨wr.heap.size,2,none⟩=some (.int .i64 y):=by rw [<- aT];simp [go_sem]
    have ke:=a_h e0;replace g0:=a_g H g0;replace g1:=a_g H g1;replace kg:=a_h g0;clear aT c0 c1 a6 s3 bi bl
    go_cut [6,7,9,11] from 24 to 176 (fun v6 v7 v9 bs wx=>∃ (g':Bool) (a':Int) (pd:Option Addr) (nd cd:Nat) (J:List Int),v6 = .int .i64 a'/\v7 = .bool g'/\v9 = .slice pd nd cd/\Hid (shN d ls (k+1)=some (S++[J])/\g'=(g || rP (s,x,y) dd)/\a'=a+psz (s,x,y) dd/\InOk J)/\Hid (Nums .i64 wx (.slice pd nd cd) J/\Bw wr wx))
    case first=>
     obtain ⟨k0,k1,k2,k3,k4⟩:=kts s;have au:=g_5 s;obtain ⟨z,ez⟩:∃ z,a_m s=z:=⟨_,rfl⟩
     have L:Hid (a_m s=z):=ez;rw [ez] at k0 k1 k2 k3 k4 au;have bA:z < 5:=by rw [<- ez];exact O.1.1
     clear ez;obtain ⟨pm,nm,cm,bh,HC⟩:=(HM.out.up H).lst;cases bh;have aa:Hid (Bw w W2):=a_c HO.2 H;rcases (show z=0∨z=1∨z=2∨z=3∨z=4 by omega) with rfl|rfl|rfl|rfl|rfl
     ·simp only [decide_true,decide_false,nn5] at k0 k1 k2 k3 k4
      have am:1<=x/\x<=256:=by
       rcases a_s O.1 with ⟨-,h,Z,-⟩|⟨-,h,Z,-⟩|⟨-,h,Z,-⟩|⟨-,h,Z,-⟩|⟨-,h,Z,-⟩ <;> simp only [L.out] at h <;> first|exact Z|omega
      go_wp2_with fail
      have cP:=e_U (.slice a3 b3 d3) dd O.2.smal W2 (HM.out.up H);have a7:=O.2.prod;obtain ⟨M,eM⟩:∃ M,a_o dd=M:=⟨_,rfl⟩
      rw [eM] at cP a7;have bd:=a_S am a7;obtain ⟨t,et⟩:∃ t,x*M=t:=⟨_,rfl⟩
      have HP:Hid (rP (s,x,y) dd=decide (4096 < t)/\psz (s,x,y) dd=t+x):=by
       unfold rP psz;simp only [L.out,if_true];rw [eM,et];exact ⟨rfl,rfl⟩
      rw [et] at bd;clear eM;refine cP.mono ?_;rintro e w3 ⟨rfl,rfl⟩;clear cP;cases g with
      | true=>
       go_wp2;go_meet
       case rel=>exact ⟨_,_,_,_,_,[x],rfl,rfl,rfl,⟨(show shN d ls (k+1)=some (S++[[x]]) by rw [a_H HS.out,I.out,if_neg fun h=>absurd ((d_a s).1 h.1) (by rw [L.out];decide),show c_S (s,x,y) dd=some [x] by unfold c_S;rw [if_pos L.out]];rfl),by rw [HP.1];rfl,by rw [HP.2,Int.add_assoc],.inl ⟨x,rfl,by omega,by omega⟩⟩,⟨a_8 (k:=.i64) _ [x] 1 (0,0) rfl,a_c H (a_a _ _)⟩⟩
      | false=>
       go_wp2;go_meet
       case rel=>exact ⟨_,_,_,_,_,[x],rfl,rfl,rfl,⟨(show shN d ls (k+1)=some (S++[[x]]) by rw [a_H HS.out,I.out,if_neg fun h=>absurd ((d_a s).1 h.1) (by rw [L.out];decide),show c_S (s,x,y) dd=some [x] by unfold c_S;rw [if_pos L.out]];rfl),by rw [HP.1];rfl,by rw [HP.2,Int.add_assoc],.inl ⟨x,rfl,by omega,by omega⟩⟩,⟨a_8 (k:=.i64) _ [x] 1 (0,0) rfl,a_c H (a_a _ _)⟩⟩
     ·simp only [decide_true,decide_false,nn5] at k0 k1 k2 k3 k4
      have am:(1<=x/\x<=16)/\1<=y/\y<=16:=by
       rcases a_s O.1 with ⟨-,h,Z,-⟩|⟨-,h,Z,h2⟩|⟨-,h,Z,-⟩|⟨-,h,Z,-⟩|⟨-,h,Z,-⟩ <;> simp only [L.out] at h <;> first|exact ⟨Z,h2⟩|omega
      have aE:(∃ u v,dd = [u,v]/\b3=2)∨b3≠2:=by
       by_cases h:b3=2
       ·have aq:=HC.1;rw [h] at aq
        match dd,aq with
        | [u,v],_=>exact .inl ⟨u,v,rfl,h⟩
       ·exact .inr h
      rcases aE with ⟨u,v,rfl,ab⟩|ab
      ·obtain ⟨qa,oa,rfl,u0⟩:=HC.2 0 (by omega);obtain ⟨qb,ob,e,v0⟩:=HC.2 1 (by omega);cases e;simp only [getD_cons_zero,getD_cons_succ,Nat.add_zero] at u0 v0;have ku:=a_h u0
       have a1:(1<=u/\u<=64)/\1<=v/\v<=64:=by
        rcases O.2 with ⟨a,h,_⟩|⟨a,b,h,Z,h2⟩
        ·simp at h
        ·simp only [List.cons.injEq,and_true] at h;obtain ⟨rfl,rfl⟩:=h;exact ⟨Z,h2⟩
       have t2:((b3:Int) != 2)=false:=by rw [ab];rfl
       have i0:(0:Int) < (b3:Int):=by omega
       have i1:(1:Int) < (b3:Int):=by omega
       clear ab;by_cases hy:v < y
       ·have R:Hid (shN d ls ls.length=none):=by
         refine b_k (i:=k+1) ?_ (by rw [HK.2.1];omega);rw [a_H HS.out,I.out];rw [if_neg fun h=>absurd ((d_a s).1 h.1) (by rw [L.out];decide)];rw [show c_S (s,x,y) [u,v]=none by unfold c_S;simp only [L.out];simp;omega];rfl
        clear ad I;go_wp2;go_region;go_wp2;exact bodyPost_ret (v:=.tuple #[.slice none 0 0,.int .i64 0,.int .i64 4]) (by simp [results,Tryz.results5,go_sem]) rfl ⟨ShR.bad (d_q HF.out (R.out)) (by decide),by have h9:=aa.out;exact a_c h9 ⟨rfl,rfl,rfl,Nat.le_refl _,fun _ _=>rfl⟩⟩
       have bm:y<=v:=by omega
       have a4:=a_S am.1 a1.1;obtain ⟨t,et⟩:∃ t,x*u=t:=⟨_,rfl⟩
       rw [et] at a4;have a9:=a_S a4 am.2;obtain ⟨t',aW⟩:∃ t',t*y=t':=⟨_,rfl⟩
       rw [aW] at a9
       have HP:Hid (rP (s,x,y) [u,v]=decide (4096 < t')/\psz (s,x,y) [u,v]=t'):=by
        unfold rP psz;simp only [L.out,if_neg (show ¬ (1:Nat)=0 by omega),if_true,getD_cons_zero];rw [et,aW];exact ⟨rfl,rfl⟩
       have ac:Hid (c_S (s,x,y) [u,v]=some [x,v - y+1]):=by
        show _=_;unfold c_S;simp only [L.out];simp;omega
       cases g with
       | true=>
        iterate 4
         go_wp2;go_region
        go_wp2;go_meet
        case rel=>exact ⟨_,_,_,_,_,[x,v - y+1],rfl,rfl,rfl,⟨(show shN d ls (k+1)=some (S++[[x,v - y+1]]) by rw [a_H HS.out,I.out,if_neg fun h=>absurd ((d_a s).1 h.1) (by rw [L.out];decide),ac.out];rfl),by rw [HP.1];rfl,by rw [HP.2],.inr ⟨x,_,rfl,by omega,by omega,by omega⟩⟩,⟨a_8 (k:=.i64) _ [x,v - y+1] 2 (0,0) rfl,a_c H (by go_grown)⟩⟩
       | false=>
        iterate 4
         go_wp2;go_region
        go_wp2;go_meet
        case rel=>exact ⟨_,_,_,_,_,[x,v - y+1],rfl,rfl,rfl,⟨(show shN d ls (k+1)=some (S++[[x,v - y+1]]) by rw [a_H HS.out,I.out,if_neg fun h=>absurd ((d_a s).1 h.1) (by rw [L.out];decide),ac.out];rfl),by rw [HP.1];rfl,by rw [HP.2],.inr ⟨x,_,rfl,by omega,by omega,by omega⟩⟩,⟨a_8 (k:=.i64) _ [x,v - y+1] 2 (0,0) rfl,a_c H (by go_grown)⟩⟩
      ·have t2:((b3:Int) != 2)=true:=by simpa using (show (b3:Int)≠2 by omega)
       have R:Hid (shN d ls ls.length=none):=by
        refine b_k (i:=k+1) ?_ (by rw [HK.2.1];omega);rw [a_H HS.out,I.out];rw [if_neg fun h=>absurd ((d_a s).1 h.1) (by rw [L.out];decide)];rw [n_I L.out fun h=>ab (by rw [<- HC.1];exact h)];rfl
       clear ad I ab;go_wp2;go_region;go_wp2;exact bodyPost_ret (v:=.tuple #[.slice none 0 0,.int .i64 0,.int .i64 4]) (by simp [results,Tryz.results5,go_sem]) rfl ⟨ShR.bad (d_q HF.out (R.out)) (by decide),a_c aa ⟨rfl,rfl,rfl,Nat.le_refl _,fun _ _=>rfl⟩⟩
     ·simp only [decide_true,decide_false,nn5] at k0 k1 k2 k3 k4
      have am:1<=x/\x<=16:=by
       rcases a_s O.1 with ⟨-,h,Z,-⟩|⟨-,h,Z,h2⟩|⟨-,h,Z,-⟩|⟨-,h,Z,-⟩|⟨-,h,Z,-⟩ <;> simp only [L.out] at h <;> first|exact Z|omega
      have HP:Hid (rP (s,x,y) dd=false/\psz (s,x,y) dd=0):=by
       show _/\_;unfold rP psz;simp [L.out]
      have aE:(∃ u v,dd = [u,v]/\b3=2)∨b3≠2:=by
       by_cases h:b3=2
       ·have aq:=HC.1;rw [h] at aq
        match dd,aq with
        | [u,v],_=>exact .inl ⟨u,v,rfl,h⟩
       ·exact .inr h
      rcases aE with ⟨u,v,rfl,ab⟩|ab
      ·obtain ⟨qa,oa,rfl,u0⟩:=HC.2 0 (by omega);obtain ⟨qb,ob,e,v0⟩:=HC.2 1 (by omega);cases e;simp only [getD_cons_zero,getD_cons_succ,Nat.add_zero] at u0 v0;have ku:=a_h u0
       have a1:(1<=u/\u<=64)/\1<=v/\v<=64:=by
        rcases O.2 with ⟨a,h,_⟩|⟨a,b,h,Z,h2⟩
        ·simp at h
        ·simp only [List.cons.injEq,and_true] at h;obtain ⟨rfl,rfl⟩:=h;exact ⟨Z,h2⟩
       have t2:((b3:Int) != 2)=false:=by rw [ab];rfl
       have i0:(0:Int) < (b3:Int):=by omega
       have i1:(1:Int) < (b3:Int):=by omega
       clear ab;by_cases hy:v < x
       ·have R:Hid (shN d ls ls.length=none):=by
         refine b_k (i:=k+1) ?_ (by rw [HK.2.1];omega);rw [a_H HS.out,I.out];rw [if_neg fun h=>absurd ((d_a s).1 h.1) (by rw [L.out];decide)];rw [show c_S (s,x,y) [u,v]=none by unfold c_S;simp only [L.out];simp;omega];rfl
        clear ad I;go_wp2;go_region;go_wp2;exact bodyPost_ret (v:=.tuple #[.slice none 0 0,.int .i64 0,.int .i64 4]) (by simp [results,Tryz.results5,go_sem]) rfl ⟨ShR.bad (d_q HF.out (R.out)) (by decide),a_c aa ⟨rfl,rfl,rfl,Nat.le_refl _,fun _ _=>rfl⟩⟩
       have bm:x<=v:=by omega
       have bv:(x==0)=false:=by simpa using (show x≠0 by omega)
       have ac:Hid (c_S (s,x,y) [u,v]=some [u,v / x]):=by
        show _=_;unfold c_S;simp only [L.out];simp [Int.tdiv_eq_ediv_of_nonneg (show 0<=v by omega)];omega
       have aV:Hid (InOk [u,v / x]):=O.2.out O.1 ac.out
       iterate 2
        go_wp2;go_region
       go_wp2;go_meet
       case rel=>exact ⟨_,_,_,_,_,[u,v / x],rfl,rfl,rfl,⟨(show shN d ls (k+1)=some (S++[[u,v / x]]) by rw [a_H HS.out,I.out,if_neg fun h=>absurd ((d_a s).1 h.1) (by rw [L.out];decide),ac.out];rfl),by rw [HP.1,Bool.or_false],by rw [HP.2,Int.add_zero],aV.out⟩,⟨(a_8 (k:=.i64) W2 [u,v / x] 2 (0,0) rfl).up ⟨rfl,rfl,rfl,Nat.le_refl _,fun _ _=>rfl⟩,a_c H (by go_grown)⟩⟩
      ·have t2:((b3:Int) != 2)=true:=by simpa using (show (b3:Int)≠2 by omega)
       have R:Hid (shN d ls ls.length=none):=by
        refine b_k (i:=k+1) ?_ (by rw [HK.2.1];omega);rw [a_H HS.out,I.out];rw [if_neg fun h=>absurd ((d_a s).1 h.1) (by rw [L.out];decide)];rw [n_J L.out fun h=>ab (by rw [<- HC.1];exact h)];rfl
       clear ad I ab;go_wp2;go_region;go_wp2;exact bodyPost_ret (v:=.tuple #[.slice none 0 0,.int .i64 0,.int .i64 4]) (by simp [results,Tryz.results5,go_sem]) rfl ⟨ShR.bad (d_q HF.out (R.out)) (by decide),a_c aa ⟨rfl,rfl,rfl,Nat.le_refl _,fun _ _=>rfl⟩⟩
     ·simp only [decide_true,decide_false,nn5] at k0 k1 k2 k3 k4
      have HP:Hid (rP (s,x,y) dd=false/\psz (s,x,y) dd=0):=by
       show _/\_;unfold rP psz;simp [L.out]
      have ac:Hid (c_S (s,x,y) dd=some dd):=by
       show _=_;unfold c_S;simp only [L.out];simp
      go_wp2;go_meet
      case rel=>exact ⟨_,_,_,_,_,dd,rfl,rfl,rfl,⟨(show shN d ls (k+1)=some (S++[dd]) by rw [a_H HS.out,I.out,if_neg fun h=>absurd ((d_a s).1 h.1) (by rw [L.out];decide),ac.out];rfl),by rw [HP.1,Bool.or_false],by rw [HP.2,Int.add_zero],O.2⟩,⟨HM.out.up H,H⟩⟩
     ·simp only [decide_true,decide_false,nn5] at k0 k1 k2 k3 k4
      have HP:Hid (rP (s,x,y) dd=false/\psz (s,x,y) dd=0):=by
       show _/\_;unfold rP psz;simp [L.out]
      have ac:Hid (c_S (s,x,y) dd=some dd):=by
       show _=_;unfold c_S;simp only [L.out];simp
      by_cases aB:k=0
      ·have aZ:((k:Int)==0)=true:=by rw [aB];rfl
       have R:Hid (shN d ls ls.length=none):=by
        refine b_k (i:=k+1) ?_ (by rw [HK.2.1];omega);rw [a_H HS.out,I.out];rw [if_pos ⟨(d_a s).2 L.out,fun h=>by have:=h.1;omega⟩]
       clear ad I aB;go_wp2;exact bodyPost_ret (v:=.tuple #[.slice none 0 0,.int .i64 0,.int .i64 4]) (by simp [results,Tryz.results5,go_sem]) rfl ⟨ShR.bad (d_q HF.out (R.out)) (by decide),aa⟩
      have aZ:((k:Int)==0)=false:=by simpa using (show (k:Int)≠0 by omega)
      obtain ⟨j,hj⟩:∃ j,k=j+1:=⟨k - 1,by omega⟩
      have bB:(k:Int) - 1=(j:Int):=by omega
      have bz:(j:Int) < (n2:Int):=by omega
      obtain ⟨qp,op,ep,f0,_,_⟩:=(HK.2.up aa).2 j (by omega);cases ep;obtain ⟨lp,aN⟩:∃ l,lyA ls j=l:=⟨_,rfl⟩
      obtain ⟨sp,xp,yp⟩:=lp;rw [aN] at f0;have kf:=a_h f0;obtain ⟨-,-,-,-,aA⟩:=kts sp
      have HJ:Hid (c_G ls S k↔¬ a_m sp=4/\shA S j=dd):=by
       show _↔_;unfold c_G;rw [show k - 1=j by omega,aN,bj.1];exact ⟨fun h=>⟨fun h2=>h.2.1 ((d_a sp).2 h2),h.2.2⟩,fun h=>⟨by omega,fun h2=>h.1 ((d_a sp).1 h2),h.2⟩⟩
      by_cases al:a_m sp=4
      ·replace aA:=aA.trans (decide_eq_true al)
       have R:Hid (shN d ls ls.length=none):=by
        refine b_k (i:=k+1) ?_ (by rw [HK.2.1];omega);rw [a_H HS.out,I.out];rw [if_pos ⟨(d_a s).2 L.out,fun h=>(HJ.1 h).1 al⟩]
       clear ad I al hj aB;go_wp2;exact bodyPost_ret (v:=.tuple #[.slice none 0 0,.int .i64 0,.int .i64 4]) (by simp [results,Tryz.results5,go_sem]) rfl ⟨ShR.bad (d_q HF.out (R.out)) (by decide),aa⟩
      replace aA:=aA.trans (decide_eq_false al);have bw:(sl:Int) - 2=(j:Int):=by omega
      have bn:(j:Int) < (sl:Int):=by omega
      obtain ⟨qr,bC,ar,br,dr,er,sr,mr⟩:=(aR.out.up H).2 j (by have:=ai.2;omega);cases er;have bF:=a_h sr;have cS:=e_H (.slice ar br dr) (.slice a3 b3 d3) (shA S j) dd (by have:=(e_y HD.1 HD.2 (by rw [HK.2.1];omega) HS.out j (by omega)).smal.1;omega) W2 mr (HM.out.up H);obtain ⟨qs,aF⟩:∃ q:Bool,decide (shA S j=dd)=q:=⟨_,rfl⟩
      rw [aF] at cS;have aY:Hid (decide (shA S j=dd)=qs):=aF;have bk:Hid (¬ a_m sp=4):=al;clear aF mr aN hj aB al;go_wp2_with fail
      refine cS.mono ?_;rintro e w3 ⟨rfl,nd,e3⟩;have aD:Hid (Bw W2 w3):=by rw [e3];exact a_i (Below.refl _ _) nd
      clear e3 cS;cases qs with
      | false=>
       have R:Hid (shN d ls ls.length=none):=by
        refine b_k (i:=k+1) ?_ (by rw [HK.2.1];omega);rw [a_H HS.out,I.out];rw [if_pos ⟨(d_a s).2 L.out,fun h=>of_decide_eq_false aY.out (HJ.1 h).2⟩]
       clear ad I;go_wp2;exact bodyPost_ret (v:=.tuple #[.slice none 0 0,.int .i64 0,.int .i64 4]) (by simp [results,Tryz.results5,go_sem]) rfl ⟨ShR.bad (d_q HF.out (R.out)) (by decide),(a_c aa aD)⟩
      | true=>
       go_wp2;go_meet
       case rel=>exact ⟨_,_,_,_,_,dd,rfl,rfl,rfl,⟨(show shN d ls (k+1)=some (S++[dd]) by rw [a_H HS.out,I.out,if_neg fun h=>h.2 (HJ.2 ⟨bk.out,of_decide_eq_true aY.out⟩),ac.out];rfl),by rw [HP.1,Bool.or_false],by rw [HP.2,Int.add_zero],O.2⟩,⟨HM.out.up (a_c H aD),a_c H aD⟩⟩
    case rest=>
     obtain ⟨g',a',pd,nd,cd,J,rfl,rfl,rfl,af,ak⟩:=hcut;have a0:Hid (wc.heap[w.heap.size]?=some (.cells #[.slice p n c,.slice (some ⟨q,o,none⟩) n2 c2] 34 (0,0))):=(ak.2.block _ (a_k HX.out)).trans HX.out;have aU:Hid (OwnS wc w.heap.size (.slice (some ⟨q3,o3,none⟩) sl cs) S/\Bw w wc):=⟨HO.1.up ak.2,a_c HO.2 ak.2⟩
     have bq:0<=a'/\a'<=1053697:=by
      have:=e_d O.2 O.1;have:=af.2.2.1;omega
     have aQ:=ad.out J;rw [<- af.2.1,<- af.2.2.1] at aQ;have ag:Hid (rG ls (S++[J]) (k+1)=if 4096 < a' then (true,4097) else (g' || decide (4096 < a_o J),a')):=aQ;have cP:=e_U (.slice pd nd cd) J af.2.2.2.smal wc ak.1;have ax:Hid (shN d ls (k+1)=some (S++[J])):=af.1;have F5:Hid (OwnK .i64 3 (wc.alloc (.cells #[] 3)) wc.heap.size (.slice (some ⟨wc.heap.size,0,none⟩) 0 0) []):=b_b (k:=.i64) (e:=3) wc [] 0 rfl (by decide);have F6:Hid (Nums .i64 (wc.alloc (.cells #[] 3)) (.slice pd nd cd) J):=ak.1.up (a_a wc _);have F7:Hid (([]:List Int).length+J.length<=1073741824):=by show _<=_;have:=af.2.2.2.smal.1;simp;omega
     have F8:Hid (wc.heap.size<=(wc.alloc (.cells #[] 3)).heap.size):=by show _<=_;simp
     have F9:Hid (Bw wc (wc.alloc (.cells #[] 3))):=a_a wc _;have FP:Hid (∀ w2 pa na ca,OwnK .i64 3 w2 wc.heap.size (.slice pa na ca) J->Bw wc w2->∃ vs,(w2.alloc (.cells #[.slice pa na ca] 22)).ownsRow w.heap.size 22 1 (.slice (some ⟨q3,o3,none⟩) sl cs) sl vs/\(w2.alloc (.cells #[.slice pa na ca] 22)).heap[w2.heap.size]?=some (.cells [.slice pa na ca].toArray 22 (0,0))/\(∀ y∈[Value.slice pa na ca],y.oneCell'=true)/\w.heap.size<=(w2.alloc (.cells #[.slice pa na ca] 22)).heap.size/\∀ v0 V,V.ownsRow w.heap.size 22 1 v0 (sl+1) (vs++[.slice pa na ca])->Only [22] (w2.alloc (.cells #[.slice pa na ca] 22)) V->(∀ w',Below w.heap.size w' (w2.alloc (.cells #[.slice pa na ca] 22))->Below w.heap.size w' V)->(OwnS V w.heap.size v0 (S++[J])/\Bw w V)/\V.heap[w.heap.size]?=some (.cells #[.slice p n c,.slice (some ⟨q,o,none⟩) n2 c2] 34 (0,0))):=fun w2 pa na ca h2 bc=>p_F aU.1 ai.1 aU.2 ⟨_,_,rfl,by decide⟩ a0.out h2 bc;have ay:sl+1<=1073741825:=by have:=ai.2;omega
     clear aQ ad I af ak HO HX aR HM a0 aU;by_cases ha:4096 < a'
     ·cases g' with
      | true=>
       go_wp2_with (first|(at_builtin;refine a_x e_g (by decide) rfl (.tmp 172) (.tmp 173) rfl wc.heap.size _ [] rfl F5.out _ J rfl F6.out F7.out F8.out wc F9.out ?_;intro v2 w2 H2 B2;obtain ⟨pa,na,ca,rfl,_⟩:=H2.out.nums.lst;obtain ⟨vs,G5,G6,G7,G8,G9⟩:=FP.out w2 pa na ca H2.out B2;have H5:Hid _:=G5;have H6:Hid _:=G6;have H7:Hid _:=G7;have H8:Hid _:=G8;have H9:Hid _:=G9;clear G5 G6 G7 G8 G9 B2 H2)|(at_builtin;refine a_6 shT (by decide) (by decide) rfl (.tmp 171) (.tmp 175) rfl w.heap.size _ sl vs rfl H5.out _ [.slice pa na ca] rfl H6.out rfl H7.out ay H8.out ?_;intro v0 V H0 O0 B0))
       obtain ⟨hA,hX⟩:=H9.out v0 V H0.out O0.out B0.out;have HA:Hid (OwnS V w.heap.size v0 (S++[J])/\Bw w V):=hA;have ae:Hid (V.heap[w.heap.size]?=some (.cells #[.slice p n c,.slice (some ⟨q,o,none⟩) n2 c2] 34 (0,0))):=hX;clear hA hX H0 O0 B0 H5 H6 H7 H8 H9 FP F5 F6 F7 F8 F9;go_wp2;go_roundg (n2 - (k+1))
       case measure=>omega
       case rel=>exact ⟨k+1,S++[J],true,4097,by omega,rfl,by first|rfl|simp,by first|rfl|simp,by first|rfl|simp,HA,ax,by show _=_;rw [ag.out];rw [if_pos ha],ae⟩
      | false=>
       obtain ⟨M,eM⟩:∃ M,a_o J=M:=⟨_,rfl⟩
       rw [eM] at cP;clear eM;go_wp2_with fail
       refine cP.mono ?_;rintro e w3 ⟨rfl,rfl⟩;clear cP;go_wp2_with (first|(at_builtin;refine a_x e_g (by decide) rfl (.tmp 172) (.tmp 173) rfl w3.heap.size _ [] rfl F5.out _ J rfl F6.out F7.out F8.out w3 F9.out ?_;intro v2 w2 H2 B2;obtain ⟨pa,na,ca,rfl,_⟩:=H2.out.nums.lst;obtain ⟨vs,G5,G6,G7,G8,G9⟩:=FP.out w2 pa na ca H2.out B2;have H5:Hid _:=G5;have H6:Hid _:=G6;have H7:Hid _:=G7;have H8:Hid _:=G8;have H9:Hid _:=G9;clear G5 G6 G7 G8 G9 B2 H2)|(at_builtin;refine a_6 shT (by decide) (by decide) rfl (.tmp 171) (.tmp 175) rfl w.heap.size _ sl vs rfl H5.out _ [.slice pa na ca] rfl H6.out rfl H7.out ay H8.out ?_;intro v0 V H0 O0 B0))
       obtain ⟨hA,hX⟩:=H9.out v0 V H0.out O0.out B0.out;have HA:Hid (OwnS V w.heap.size v0 (S++[J])/\Bw w V):=hA;have ae:Hid (V.heap[w.heap.size]?=some (.cells #[.slice p n c,.slice (some ⟨q,o,none⟩) n2 c2] 34 (0,0))):=hX;clear hA hX H0 O0 B0 H5 H6 H7 H8 H9 FP F5 F6 F7 F8 F9;go_wp2;go_roundg (n2 - (k+1))
       case measure=>omega
       case rel=>exact ⟨k+1,S++[J],true,4097,by omega,rfl,by first|rfl|simp,by first|rfl|simp,by first|rfl|simp,HA,ax,by show _=_;rw [ag.out];rw [if_pos ha],ae⟩
     have bt:a'<=4096:=by omega
     cases g' with
     | true=>
      go_wp2_with (first|(at_builtin;refine a_x e_g (by decide) rfl (.tmp 172) (.tmp 173) rfl wc.heap.size _ [] rfl F5.out _ J rfl F6.out F7.out F8.out wc F9.out ?_;intro v2 w2 H2 B2;obtain ⟨pa,na,ca,rfl,_⟩:=H2.out.nums.lst;obtain ⟨vs,G5,G6,G7,G8,G9⟩:=FP.out w2 pa na ca H2.out B2;have H5:Hid _:=G5;have H6:Hid _:=G6;have H7:Hid _:=G7;have H8:Hid _:=G8;have H9:Hid _:=G9;clear G5 G6 G7 G8 G9 B2 H2)|(at_builtin;refine a_6 shT (by decide) (by decide) rfl (.tmp 171) (.tmp 175) rfl w.heap.size _ sl vs rfl H5.out _ [.slice pa na ca] rfl H6.out rfl H7.out ay H8.out ?_;intro v0 V H0 O0 B0))
      obtain ⟨hA,hX⟩:=H9.out v0 V H0.out O0.out B0.out;have HA:Hid (OwnS V w.heap.size v0 (S++[J])/\Bw w V):=hA;have ae:Hid (V.heap[w.heap.size]?=some (.cells #[.slice p n c,.slice (some ⟨q,o,none⟩) n2 c2] 34 (0,0))):=hX;clear hA hX H0 O0 B0 H5 H6 H7 H8 H9 FP F5 F6 F7 F8 F9;go_wp2;go_roundg (n2 - (k+1))
      case measure=>omega
      case rel=>exact ⟨k+1,S++[J],true,a',by omega,rfl,by first|rfl|simp,by first|rfl|simp,by first|rfl|simp,HA,ax,by show _=_;rw [ag.out];rw [if_neg (by omega)];rfl,ae⟩
     | false=>
      obtain ⟨M,eM⟩:∃ M,a_o J=M:=⟨_,rfl⟩
      have ba:Hid (a_o J=M):=eM;rw [eM] at cP;clear eM;go_wp2_with fail
      refine cP.mono ?_;rintro e w3 ⟨rfl,rfl⟩;clear cP;go_wp2_with (first|(at_builtin;refine a_x e_g (by decide) rfl (.tmp 172) (.tmp 173) rfl w3.heap.size _ [] rfl F5.out _ J rfl F6.out F7.out F8.out w3 F9.out ?_;intro v2 w2 H2 B2;obtain ⟨pa,na,ca,rfl,_⟩:=H2.out.nums.lst;obtain ⟨vs,G5,G6,G7,G8,G9⟩:=FP.out w2 pa na ca H2.out B2;have H5:Hid _:=G5;have H6:Hid _:=G6;have H7:Hid _:=G7;have H8:Hid _:=G8;have H9:Hid _:=G9;clear G5 G6 G7 G8 G9 B2 H2)|(at_builtin;refine a_6 shT (by decide) (by decide) rfl (.tmp 171) (.tmp 175) rfl w.heap.size _ sl vs rfl H5.out _ [.slice pa na ca] rfl H6.out rfl H7.out ay H8.out ?_;intro v0 V H0 O0 B0))
      obtain ⟨hA,hX⟩:=H9.out v0 V H0.out O0.out B0.out;have HA:Hid (OwnS V w.heap.size v0 (S++[J])/\Bw w V):=hA;have ae:Hid (V.heap[w.heap.size]?=some (.cells #[.slice p n c,.slice (some ⟨q,o,none⟩) n2 c2] 34 (0,0))):=hX;clear hA hX H0 O0 B0 H5 H6 H7 H8 H9 FP F5 F6 F7 F8 F9;go_wp2;go_roundg (n2 - (k+1))
      case measure=>omega
      case rel=>exact ⟨k+1,S++[J],decide (4096 < M),a',by omega,rfl,by first|rfl|simp,by first|rfl|simp,by first|rfl|simp,HA,ax,by show _=_;rw [ag.out];rw [if_neg (by omega),ba.out];rfl,ae⟩
   ·obtain rfl:k=n2:=by omega
    obtain ⟨az,aw⟩:=s_1 HF.out (show shN d ls ls.length=some S by rw [HK.2.1];exact HS.out);rw [HK.2.1,HR.out] at az aw;simp only [] at az aw;have ao:Hid ((g || decide (4096 < a_o d))=d_7 ls S/\(d_7 ls S=false->a=b_Q ls S k)):=⟨az,aw⟩
    have aM:Hid (shN d ls ls.length=some S):=by show _=_;rw [HK.2.1];exact HS.out
    clear az aw;have cP:=e_U (.slice p n c) d HD.1.smal wr (HK.1.up HO.2);cases g with
    | true=>
     have HE:Hid (nE d ls=2):=l_H HF.out aM.out (by rw [<- ao.1];rfl);clear cP;go_wp2;exact bodyPost_ret (v:=.tuple #[.slice none 0 0,.int .i64 0,.int .i64 2]) (by simp [results,Tryz.results5,go_sem]) rfl ⟨ShR.bad HE.out (by decide),HO.2⟩
    | false=>
     obtain ⟨M,eM⟩:∃ M,a_o d=M:=⟨_,rfl⟩
     rw [eM] at cP ao;clear eM;go_wp2_with fail
     refine cP.mono ?_;rintro e w3 ⟨rfl,rfl⟩;clear cP;by_cases hM:4096 < M
     ·have HE:Hid (nE d ls=2):=l_H HF.out aM.out (by rw [<- ao.1,decide_eq_true hM];rfl);go_wp2;exact bodyPost_ret (v:=.tuple #[.slice none 0 0,.int .i64 0,.int .i64 2]) (by simp [results,Tryz.results5,go_sem]) rfl ⟨ShR.bad HE.out (by decide),HO.2⟩
     ·have bD:M<=4096:=by omega
      have ht:d_7 ls S=false:=by rw [<- ao.1,decide_eq_false hM];rfl
      obtain ⟨f1,f2,f3⟩:=h_O HF.out aM.out ht;have HE:Hid (nE d ls=0/\nS d ls=S/\nP d ls=a):=⟨f1,f2,by rw [f3,ao.2 ht,HK.2.1]⟩
      clear ht f1 f2 f3;go_wp2;exact bodyPost_ret (v:=.tuple #[.slice ps sl cs,.int .i64 a,.int .i64 0]) (by simp [results,Tryz.results5,go_sem]) rfl ⟨⟨_,by rw [HE.1,HE.2.2],by rw [HE.2.1];exact HO.1⟩,HO.2⟩
end Go.Proofs.YtkfpainpomobfaaGreatDoor.Wd
