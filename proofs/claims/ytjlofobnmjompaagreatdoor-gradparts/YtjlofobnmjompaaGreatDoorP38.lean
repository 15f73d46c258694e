/- The code's losses: rows that are made, w -/
import Derived.Test.YtjlofobnmjompaaGreatDoorP22
set_option linter.unusedVariables false
set_option linter.unusedSimpArgs false
set_option maxHeartbeats 16000000
set_option maxRecDepth 16000
namespace Go.Proofs.YtjlofobnmjompaaGreatDoor.Wd
open Go.RowKit Fx
theorem e_G (p:Option Addr) (n c:Nat) (w:World) (L:n<=4096):
  Calls Tryz.prog 64 #[.slice p n c] w fun e E=>∃ g,e = .returned (.agg #[.slice (some ⟨g,0,none⟩) 1 1,.slice p n c])/\OwnK .i64 3 E w.heap.size (.slice (some ⟨g,0,none⟩) 1 1) [(n:Int)]/\Below w.heap.size w E:=by
 have J:(n:Int)<=4096:=by omega
 go_enter Tryz.func64,Tryz.ntmps64;go_wp2;have I:Below w.heap.size w ((w.alloc (.cells #[.slice (some ⟨w.heap.size+1,0,none⟩) 1 1,.slice p n c] 64)).alloc (.cells #[.int .i64 (n:Int)] 3)):=by go_grown
 have H:OwnK .i64 3 ((w.alloc (.cells #[.slice (some ⟨w.heap.size+1,0,none⟩) 1 1,.slice p n c] 64)).alloc (.cells #[.int .i64 (n:Int)] 3)) w.heap.size (.slice (some ⟨w.heap.size+1,0,none⟩) 1 1) [(n:Int)]:=by
  have D:=b_6 (k:=.i64) (e:=3) (w.alloc (.cells #[.slice (some ⟨w.heap.size+1,0,none⟩) 1 1,.slice p n c] 64)) [(n:Int)] 1 rfl (by decide);rw [e_x] at D;exact D.low (Nat.le_succ _)
 exact bodyPost_ret (v:=.agg #[.slice (some ⟨w.heap.size+1,0,none⟩) 1 1,.slice p n c]) (by simp [results,Tryz.results64,go_sem]) rfl ⟨_,rfl,H,I⟩
theorem i_f (B V:Nat) (ns:List Nd) (hG:NodesG ns) (o:Int) (p:Option Addr) (n c:Nat) (y:List Int) (w:World) (U:TapC w B V ns) (h:Nums .i64 w (.slice p n c) y):
  Calls Tryz.prog 62 #[.pointer (some ⟨V,0,none⟩),.int .i64 o,.slice p n c] w fun e w'=>e = .returned (.int .i64 (e_W ns o y))/\Below w.heap.size w w':=by
 obtain ⟨_,_,_,e4,HX⟩:=h.lst;cases e4;have O:=HX.out.1;clear HX h;by_cases ho:0<=o/\o < (ns.length:Int)
 case neg=>
  have e1:e_W ns o y=1:=if_neg fun R=>ho R.1;rw [e1];have M:=e_Y B V ns o (by omega) w U;clear e1 ho O U hG;go_enter Tryz.func62,Tryz.ntmps62;go_wp2_with fail
  refine M.mono ?_;rintro e w1 ⟨rfl,I⟩;have J:Hid (Below w.heap.size w w1):=I;clear I M;go_wp2;go_ret;exact ⟨rfl,a_c J.out (a_b _ _)⟩
 obtain ⟨i,rfl⟩:∃ i:Nat,o=(i:Int):=⟨o.toNat,by omega⟩
 have hi:ns[i]?=some (ns[i]'(by omega)):=List.getElem?_eq_getElem _;have M:=b_4 B V ns hG i _ hi w U;have H:=k_K hi;obtain ⟨nd,e5⟩:∃ nd,ns[i]'(by omega)=nd:=⟨_,rfl⟩
 rw [e5] at M H;obtain ⟨E,eE⟩:∃ E,e_W ns (i:Int) y=E:=⟨_,rfl⟩
 have HE:Hid ((if y.length=nd.X.length then if nd.D.length=1 then (0:Int) else 4 else 1)=E):=by
  show _=_;rw [<- eE];unfold e_W;rw [H];by_cases R:y.length=nd.X.length
  ·exact (if_pos R).trans (if_pos (show (0<=(i:Int)/\(i:Int) < (ns.length:Int))/\y.length=nd.X.length from ⟨ho,R⟩)).symm
  ·exact (if_neg R).trans (if_neg (show ¬ ((0<=(i:Int)/\(i:Int) < (ns.length:Int))/\y.length=nd.X.length) from fun h2=>R h2.2)).symm
 rw [eE];clear eE ho hi H e5 U hG;obtain ⟨op,a,b,k,D,X⟩:=nd;simp only [] at M HE;go_enter Tryz.func62,Tryz.ntmps62;go_wp2_with fail
 refine M.mono ?_;rintro e w1 ⟨v,rfl,hv,I⟩;obtain ⟨q,m,r,q2,m2,r2,rfl,h1,h2⟩:=hv.own;obtain ⟨_,_,_,e6,H1⟩:=h1.nums.lst;cases e6;obtain ⟨_,_,_,e7,H2⟩:=h2.nums.lst;cases e7;have L:=HE.out;rw [O,H1.out.1,H2.out.1] at L;have J:Hid (Below w.heap.size w w1):=I;clear I M h1 h2 H1 H2 O HE hv;by_cases hm:n=m2
 case neg=>
  rw [if_neg hm] at L;subst L;have aa:((n:Int) != (m2:Int))=true:=by simp;omega
  clear hm;go_wp2;go_ret;exact ⟨rfl,a_c J.out (a_b _ _)⟩
 subst hm;rw [if_pos rfl] at L;by_cases hd:m=1
 ·subst hd;rw [if_pos rfl] at L;subst L;go_wp2;go_ret;exact ⟨rfl,a_c J.out (a_b _ _)⟩
 ·rw [if_neg hd] at L;subst L;have aa:((m:Int) != 1)=true:=by simp;omega
  clear hd;go_wp2;go_ret;exact ⟨rfl,a_c J.out (a_b _ _)⟩
theorem o_Y (B V:Nat) (ns:List Nd) (hG:NodesG ns) (o cl:Int) (w:World) (U:TapC w B V ns):
  Calls Tryz.prog 65 #[.pointer (some ⟨V,0,none⟩),.int .i64 o,.int .i64 cl] w fun e w'=>e = .returned (.tuple #[.int .i64 (m_x ns o cl:Int),.int .i64 (i_K ns o cl)])/\Below w.heap.size w w':=by
 by_cases ho:0<=o/\o < (ns.length:Int)
 case neg=>
  have e1:i_K ns o cl=1:=if_neg ho;have e2:m_x ns o cl=0:=if_neg (by rw [e1];decide);rw [e1,e2];have O:=e_Y B V ns o (by omega) w U;clear e1 e2 ho U hG;go_enter Tryz.func65,Tryz.ntmps65;go_wp2_with fail
  refine O.mono ?_;rintro e w1 ⟨rfl,J⟩;have H:Hid (Below w.heap.size w w1):=J;clear J O;go_wp2;go_ret2;exact ⟨rfl,a_c H.out (a_b _ _)⟩
 obtain ⟨i,rfl⟩:∃ i:Nat,o=(i:Int):=⟨o.toNat,by omega⟩
 have hi:ns[i]?=some (ns[i]'(by omega)):=List.getElem?_eq_getElem _;have O:=b_4 B V ns hG i _ hi w U;have I:=k_K hi;obtain ⟨nd,e5⟩:∃ nd,ns[i]'(by omega)=nd:=⟨_,rfl⟩
 rw [e5] at O I;obtain ⟨E,eE⟩:∃ E,i_K ns (i:Int) cl=E:=⟨_,rfl⟩
 obtain ⟨R,eR⟩:∃ R:Int,((m_x ns (i:Int) cl:Nat):Int)=R:=⟨_,rfl⟩
 have HE:Hid ((if nd.D.length=1/\0<=cl/\cl < (nd.X.length:Int) then ((nd.X.length:Int),(0:Int)) else (0,4))=(R,E)):=by
  show _=_;rw [<- eE,<- eR];unfold m_x i_K;rw [I,if_pos ho];by_cases L:nd.D.length=1/\0<=cl/\cl < (nd.X.length:Int)
  ·rw [if_pos L,if_pos L,if_pos rfl]
  ·rw [if_neg L,if_neg L,if_neg (by decide)];rfl
 rw [eE,eR];clear eE eR ho hi I e5 U hG;obtain ⟨op,a,b,k,D,X⟩:=nd;simp only [] at O HE;go_enter Tryz.func65,Tryz.ntmps65;go_wp2_with fail
 refine O.mono ?_;rintro e w1 ⟨v,rfl,hv,J⟩;obtain ⟨q,m,r,q2,m2,r2,rfl,h1,h2⟩:=hv.own;obtain ⟨_,_,_,e6,H1⟩:=h1.nums.lst;cases e6;obtain ⟨_,_,_,e7,H2⟩:=h2.nums.lst;cases e7;have M:=HE.out;rw [H1.out.1,H2.out.1] at M;have H:Hid (Below w.heap.size w w1):=J;clear J O h1 h2 H1 H2 HE hv;by_cases hd:m=1
 case neg=>
  rw [if_neg fun L=>hd L.1] at M;cases M;have ac:((m:Int) != 1)=true:=by simp;omega
  clear hd;go_wp2;go_ret2;exact ⟨rfl,a_c H.out (a_b _ _)⟩
 subst hd;by_cases ab:cl < 0
 ·rw [if_neg fun L=>by have:=L.2.1;omega] at M;cases M;go_wp2;go_ret2;exact ⟨rfl,a_c H.out (a_b _ _)⟩
 by_cases aa:(m2:Int)<=cl
 ·rw [if_neg fun L=>by have:=L.2.2;omega] at M;cases M;go_wp2;go_ret2;exact ⟨rfl,a_c H.out (a_b _ _)⟩
 rw [if_pos ⟨rfl,by omega,by omega⟩] at M;cases M;go_wp2;go_ret2;exact ⟨rfl,a_c H.out (a_b _ _)⟩
theorem f_S (n:Nat) (hn:1<=n/\n<=4096) (a t:Int) (E:Nat) (au:E < n) (w:World):
  Calls Tryz.prog 66 #[.int .i64 (n:Int),.int .i64 a,.int .i64 (E:Int),.int .i64 t] w fun e w'=>∃ g g2 c2,e = .returned (.agg #[.slice (some ⟨g,0,none⟩) 1 1,.slice (some ⟨g2,0,none⟩) n c2])/\OwnK .i64 3 w' w.heap.size (.slice (some ⟨g,0,none⟩) 1 1) [(n:Int)]/\OwnK .i64 23 w' w.heap.size (.slice (some ⟨g2,0,none⟩) n c2) (k_9 n a (E:Int) t)/\Below w.heap.size w w':=by
 obtain ⟨V,eV⟩:∃ V,List.replicate n a=V:=⟨_,rfl⟩
 obtain ⟨U,eU⟩:∃ U,k_9 n a (E:Int) t=U:=⟨_,rfl⟩
 have H:Hid (V.length=n/\(∀ k,k < n->V.getD k 0=a)/\V.set E t=U/\n<=4096):=by
  refine ⟨by rw [<- eV];simp,fun k hk=>?_,?_,hn.2⟩
  ·rw [<- eV,List.getD_eq_getElem?_getD,List.getElem?_replicate,if_pos hk];rfl
  ·rw [<- eV,<- eU];rfl
 have ay:(n:Int)<=4096/\1<=(n:Int):=by omega
 have aw:(E:Int) < (n:Int):=by omega
 rw [eU];clear eV eU;go_enter Tryz.func66,Tryz.ntmps66;go_wp2_with (at_make;generalize ac:World.alloc _ _=W0;have J:=b_W (w:=w) ac (by go_grown);have XR:Hid (Cel W0 w.heap.size (.slice none 0 0) (.slice none 0 0)):=a_F ac (by simp [go_sem]);clear ac;refine a_y k_w (by decide) _ rfl (.tmp 11) (.tmp 11) rfl .i64 .i64 n n n rfl rfl rfl rfl (by omega) w.heap.size w J.out.size J.out ?_;intro w4 ai B4 aq;clear aq)
 obtain ⟨g,hg⟩:∃ g,W0.heap.size=g:=⟨_,rfl⟩
 have an:=a_N (a_c J.out B4) B4;rw [hg] at ai ⊢;have hz:=a_a XR.out.1;have Hg:Hid (W0.heap.size=g/\w.heap.size < W0.heap.size):=⟨hg,hz⟩
 have av:Hid (OwnK .i64 23 w4 g (.slice (some ⟨g,0,none⟩) n n) (b_I V 0)):=by
  show OwnK _ _ _ _ _ _;rw [a_1,H.out.1];exact ai.out
 clear ai B4 hg hz
 go_loopg [15] n (fun gg i wr=>∃ (k:Nat),k<=n/\gg=n - k/\i = .int .i64 (k:Int)/\Hid (OwnK .i64 23 wr g (.slice (some ⟨g,0,none⟩) n n) (b_I V k))/\Hid (Below w.heap.size w wr/\Stay g w4 wr))
 case atStart=>exact ⟨0,by omega,by omega,by first|rfl|simp,av,an.out.1,Stay.refl _ _⟩
 case round=>
  obtain ⟨k,hk,hg,rfl,ag,O⟩:=hrel;obtain ⟨R1,ar⟩:∃ R1:World,R1=wr:=⟨_,rfl⟩
  subst ar;by_cases ad:k < n
  ·have ax:(k:Int) < (n:Int):=by omega
   obtain ⟨aa,am⟩:=ag.out.cell (by rw [a_A];exact H.out.1) k ad
   have H5:Hid (OwnK .i64 23 (R1.setCell ⟨g,k,none⟩ (.int .i64 a)) g (.slice (some ⟨g,0,none⟩) n n) (b_I V (k+1))):=by
    have:=ag.out.store (by rw [a_A];exact H.out.1) k a;have aj:=H.out.2.1 k ad;rw [<- aj,b_r V k (by rw [H.out.1];exact ad)] at this;rw [<- aj];exact this
   have ae:w.heap.size<=g:=by have:=Hg.out;omega
   have H6:Hid (Below w.heap.size w (R1.setCell ⟨g,k,none⟩ (.int .i64 a))/\Stay g w4 (R1.setCell ⟨g,k,none⟩ (.int .i64 a))):=⟨O.out.1.setCell (p:=⟨g,k,none⟩) ae _,O.out.2.set _ _⟩
   go_wp2;go_roundg (n - (k+1))
   case measure=>omega
   case rel=>exact ⟨k+1,by omega,rfl,by first|rfl|simp,H5,H6⟩
  ·obtain rfl:k=n:=by omega
   have R:w.heap.size≠g:=by have:=Hg.out;omega
   have ak:=(XR.out.up an.out.2).stay O.out.2 R;have D:=ag.out;rw [<- H.out.1,b_g,H.out.1] at D;obtain ⟨aa,am⟩:=D.cell H.out.1 E au;have ab:=D.store H.out.1 E t;rw [H.out.2.2.1] at ab;have ae:w.heap.size<=g:=by have:=Hg.out;omega
   have I:Hid (OwnK .i64 23 (R1.setCell ⟨g,E,none⟩ (.int .i64 t)) g (.slice (some ⟨g,0,none⟩) k k) U/\Below w.heap.size w (R1.setCell ⟨g,E,none⟩ (.int .i64 t))):=⟨ab,O.out.1.setCell (p:=⟨g,E,none⟩) ae _⟩
   have af:Hid (Cel (R1.setCell ⟨g,E,none⟩ (.int .i64 t)) w.heap.size (.slice none 0 0) (.slice none 0 0)):=ak.stay (Stay.refl _ _ |>.set _ _) R;have ao:Hid (∀ W,Calls Tryz.prog 64 #[.slice (some ⟨g,0,none⟩) k k] W fun e w'=>∃ g',e = .returned (.agg #[.slice (some ⟨g',0,none⟩) 1 1,.slice (some ⟨g,0,none⟩) k k])/\OwnK .i64 3 w' W.heap.size (.slice (some ⟨g',0,none⟩) 1 1) [(k:Int)]/\Below W.heap.size W w'):=fun W=>e_G _ k k W H.out.2.2.2;clear D ak ab;go_wp2_with fail
   generalize hK:World.setCell _ _ _=K at I af ⊢;clear hK aa am;refine (ao.out K).mono ?_;rintro e w6 ⟨M,rfl,h6,L⟩;have hs:g < K.heap.size:=I.out.1.size
   have ah:Hid (TRes (set2 w6 w.heap.size (.slice (some ⟨M,0,none⟩) 1 1) (.slice (some ⟨g,0,none⟩) k k)) W0.heap.size (.agg #[.slice (some ⟨M,0,none⟩) 1 1,.slice (some ⟨g,0,none⟩) k k]) [(k:Int)] U/\Below w.heap.size w (set2 w6 w.heap.size (.slice (some ⟨M,0,none⟩) 1 1) (.slice (some ⟨g,0,none⟩) k k))):=
    ⟨TRes.set (h6.low (by have:=Hg.out;omega)) ((I.out.1.up L).low (by have:=Hg.out;omega)) Hg.out.2,a_k (a_c I.out.2 L) _ (Nat.le_refl _) _ _⟩
   have ap:Hid (∃ g' g2 c2,Ending.returned (.agg #[.slice (some ⟨M,0,none⟩) 1 1,.slice (some ⟨g,0,none⟩) k k]) = .returned (.agg #[.slice (some ⟨g',0,none⟩) 1 1,.slice (some ⟨g2,0,none⟩) k c2])/\OwnK .i64 3 (set2 w6 w.heap.size (.slice (some ⟨M,0,none⟩) 1 1) (.slice (some ⟨g,0,none⟩) k k)) w.heap.size (.slice (some ⟨g',0,none⟩) 1 1) [(k:Int)]/\OwnK .i64 23 (set2 w6 w.heap.size (.slice (some ⟨M,0,none⟩) 1 1) (.slice (some ⟨g,0,none⟩) k k)) w.heap.size (.slice (some ⟨g2,0,none⟩) k c2) U/\Below w.heap.size w (set2 w6 w.heap.size (.slice (some ⟨M,0,none⟩) 1 1) (.slice (some ⟨g,0,none⟩) k k))):=by
    obtain ⟨s_,t_,e_,q1,q2⟩:=ah.out.1;cases e_;exact ⟨_,_,_,rfl,q1.low J.out.size,q2.low J.out.size,ah.out.2⟩
   have xr:=af.out.up L;have cf:=xr.set (.slice (some ⟨M,0,none⟩) 1 1) (.slice (some ⟨g,0,none⟩) k k);clear ah h6 L I af hs;obtain ⟨x0,x1,x2,x3⟩:=xr;obtain ⟨f0,f1,_,_⟩:=cf;go_wp2;exact bodyPost_ret (v:=.agg #[.slice (some ⟨M,0,none⟩) 1 1,.slice (some ⟨g,0,none⟩) k k]) (by first|(simp [results,Tryz.results66,go_sem];done)|(simp [results,Tryz.results66,go_sem,f0,f1])) rfl ap.out
end Go.Proofs.YtjlofobnmjompaaGreatDoor.Wd
