/- Tensors: what tens.Scale and tens.Reshap -/
import Derived.Test.YtjlofobnmjompaaGreatDoorP02
import Derived.Lib.TrailingZeros
set_option linter.unusedVariables false
set_option linter.unusedSimpArgs false
set_option maxHeartbeats 16000000
set_option maxRecDepth 16000
namespace Go.Proofs.YtjlofobnmjompaaGreatDoor.Wd
open Go.RowKit
def e_I (d x:List Int):Int:=if isP d x then 0 else 1
def f_s (d x:List Int):List Int:=if isP d x then d else []
def f_t (d x:List Int) (k:Int):List Int:=if isP d x then x.map fun y=>Fx.mulI y k else []
def j_A (d x d':List Int):Int:=if isP d x/\goodN (ntl d') then if a_e (ntl d')=x.length then 0 else 4 else 1
def j_B (d x d':List Int):List Int:=if (isP d x/\goodN (ntl d'))/\a_e (ntl d')=x.length then d' else []
def k_6 (d x d':List Int):List Int:=if (isP d x/\goodN (ntl d'))/\a_e (ntl d')=x.length then x else []
theorem k_x (p p2:Option Addr) (n c D c2:Nat) (d x:List Int) (hd:RI d) (hx:RI x) (K:Int) (hK:Fx.InR K) (w:World) (h1:Nums .i64 w (.slice p n c) d) (h2:Nums .i64 w (.slice p2 D c2) x):
  Calls Tryz.prog 105 #[.agg #[.slice p n c,.slice p2 D c2],.int .i64 K] w fun e w'=>∃ v',e = .returned (.tuple #[v',.int .i64 (e_I d x)])/\TRes w' w.heap.size v' (f_s d x) (f_t d x K)/\Below w.heap.size w w':=by
 have cA:=fun W (hW:Below w.heap.size w W)=>a_C _ _ d x hd W (h1.up hW) (h2.up hW);by_cases M:isP d x
 ·rw [decide_eq_true M] at cA;unfold e_I f_s f_t;rw [if_pos M,if_pos M,if_pos M];obtain ⟨V,eV⟩:∃ V,(x.map fun y=>Fx.mulI y K)=V:=⟨_,rfl⟩
  rw [eV];have HN:Hid (Nums .i64 w (.slice p n c) d/\Nums .i64 w (.slice p2 D c2) x):=⟨h1,h2⟩
  obtain ⟨_,_,_,e4,HX⟩:=h2.lst;cases e4;have aj:x.length<=4096:=by rw [M.2];exact M.1.2.2
  rw [HX.out.1] at aj;have am:(D:Int)<=4096:=by omega
  have L:Hid ((x.map fun y=>Fx.mulI y K)=V/\V.length=D/\isP d x/\RI x/\Fx.InR K/\x.length=D):=⟨eV,by rw [<- eV,List.length_map];exact HX.out.1,M,hx,hK,HX.out.1⟩
  clear eV h1 h2 hd hx M hK;go_enter Tryz.func105,Tryz.ntmps105;go_wp2_with fail
  generalize H:World.alloc _ _=W0;have R:=b_W (w:=w) H (by go_grown);have XA:Hid (Cel W0 w.heap.size (.slice p n c) (.slice p2 D c2)):=a_F H (by simp [go_sem]);have XR:Hid (Cel W0 (w.heap.size+1) (.slice none 0 0) (.slice none 0 0)):=a_F H (by simp [go_sem]);clear H;refine (cA W0 R.out).mono ?_;rintro e w1 ⟨rfl,I⟩;have E:=a_N (a_c R.out I) I;clear I;obtain ⟨a0,a1,_,_⟩:=XA.out.up E.out.2;go_wp2_with (at_make;refine a_y k_w (by decide) _ rfl (.tmp 15) (.tmp 15) rfl .i64 .i64 D D D rfl rfl rfl rfl (by omega) w.heap.size w E.out.1.size E.out.1 ?_;intro w4 ae B4 ak;clear ak;have aq:=(XA.out.up (a_c E.out.2 B4));obtain ⟨a2,a3,_,_⟩:=aq)
  obtain ⟨g,hg⟩:∃ g,w1.heap.size=g:=⟨_,rfl⟩
  have af:=a_N (a_c E.out.1 B4) (a_c E.out.2 B4);rw [hg] at ae ⊢;have hz:=a_a XR.out.1;have Hg:Hid (W0.heap.size<=g/\w.heap.size+1 < W0.heap.size):=⟨by rw [<- hg];exact E.out.2.size,hz⟩
  have au:Hid (OwnK .i64 23 w4 g (.slice (some ⟨g,0,none⟩) D D) (b_I V 0)):=by
   show OwnK _ _ _ _ _ _;rw [a_1,L.out.2.1];exact ae.out
  clear a0 a1 a2 a3 ae B4 hg hz
  go_loopg [20] D (fun gg i wr=>∃ (k:Nat),k<=D/\gg=D - k/\i = .int .i64 (k:Int)/\Hid (OwnK .i64 23 wr g (.slice (some ⟨g,0,none⟩) D D) (b_I V k))/\Hid (Below w.heap.size w wr/\Stay g w4 wr))
  case atStart=>exact ⟨0,by omega,by omega,by first|rfl|simp,au,af.out.1,Stay.refl _ _⟩
  case round=>
   obtain ⟨k,hk,hg,rfl,ad,J⟩:=hrel;obtain ⟨R1,an⟩:∃ R1:World,R1=wr:=⟨_,rfl⟩
   subst an;by_cases O:k < D
   ·have ax:(k:Int) < (D:Int):=by omega
    obtain ⟨q,o,rfl,ai⟩:=HX.out.2 k O;have ao:=a_d ai J.out.1;have rx:=L.out.2.2.2.1.in k (by rw [L.out.2.2.2.2.2];exact O);obtain ⟨X,eX⟩:∃ X,x.getD k 0=X:=⟨_,rfl⟩
    rw [eX] at ao rx;obtain ⟨Z,eZ⟩:∃ Z,Fx.mulI X K=Z:=⟨_,rfl⟩
    have HZ:Hid (V.getD k 0=Z):=by
     show _=_;rw [<- L.out.1,List.getD_eq_getElem?_getD,List.getElem?_map,List.getElem?_eq_getElem (by rw [L.out.2.2.2.2.2];exact O),<- eZ,<- eX,a_r x k 0 (by rw [L.out.2.2.2.2.2];exact O)];rfl
    have cz:∀ W,Calls Tryz.prog 134 #[.int .i64 X,.int .i64 K] W fun e w'=>e = .returned (.int .i64 Z)/\w'=W:=fun W=>by rw [<- eZ];exact Fx.mul_any X K rx L.out.2.2.2.2.1 W
    obtain ⟨av,aw⟩:=ad.out.cell (by rw [a_A];exact L.out.2.1) k O
    have H5:Hid (OwnK .i64 23 (R1.setCell ⟨g,k,none⟩ (.int .i64 Z)) g (.slice (some ⟨g,0,none⟩) D D) (b_I V (k+1))):=by
     have:=ad.out.store (by rw [a_A];exact L.out.2.1) k Z;rw [<- HZ.out,b_r V k (by rw [L.out.2.1];exact O)] at this;rw [<- HZ.out];exact this
    have ap:w.heap.size<=g:=by have:=Hg.out;omega
    have H6:Hid (Below w.heap.size w (R1.setCell ⟨g,k,none⟩ (.int .i64 Z))/\Stay g w4 (R1.setCell ⟨g,k,none⟩ (.int .i64 Z))):=⟨J.out.1.setCell (p:=⟨g,k,none⟩) ap _,J.out.2.set _ _⟩
    clear eX eZ ai;go_wp2_with fail
    refine (cz _).mono ?_;rintro e w5 ⟨rfl,rfl⟩;clear cz;go_wp2;go_roundg (D - (k+1))
    case measure=>omega
    case rel=>exact ⟨k+1,by omega,rfl,by first|rfl|simp,H5,H6⟩
   ·obtain rfl:k=D:=by omega
    have ab:w.heap.size≠g:=by have:=Hg.out;omega
    have aa:w.heap.size+1≠g:=by have:=Hg.out;omega
    obtain ⟨a0,a1,_,_⟩:=(XA.out.up af.out.2).stay J.out.2 ab;have ag:=(XR.out.up af.out.2).stay J.out.2 aa;have U:=ad.out;rw [<- L.out.2.1,b_g,L.out.2.1] at U;have ah:Hid (OwnK .i64 23 R1 g (.slice (some ⟨g,0,none⟩) k k) V):=U;have cc:=b_i _ d (by have:=L.out.2.2.1.1.1;rw [a_R] at this;omega) R1 (HN.out.1.up J.out.1);have ar:Hid (Cel R1 (w.heap.size+1) (.slice none 0 0) (.slice none 0 0)):=ag;clear U ag ab aa;go_wp2_with fail
    refine cc.mono ?_;rintro e w6 ⟨v6,rfl,h6,ac⟩;obtain ⟨p6,n6,c6,rfl,_⟩:=h6.nums.lst
    have HF:Hid (TRes (set2 w6 (w.heap.size+1) (.slice p6 n6 c6) (.slice (some ⟨g,0,none⟩) k k)) w.heap.size (.agg #[.slice p6 n6 c6,.slice (some ⟨g,0,none⟩) k k]) d V/\Below w.heap.size w (set2 w6 (w.heap.size+1) (.slice p6 n6 c6) (.slice (some ⟨g,0,none⟩) k k))):=by
     have hs:g<=R1.heap.size:=Nat.le_of_lt ah.out.size;exact ⟨(TRes.set (h6.low (Nat.le_trans Hg.out.1 hs)) ((ah.out.up ac).low Hg.out.1) Hg.out.2).low R.out.size,a_k (a_c J.out.1 ac) _ (by omega) _ _⟩
    clear cc h6 a0 a1;have xr:=(ar.out.up ac)
    have cf:=xr.set (.slice p6 n6 c6) (.slice (some ⟨g,0,none⟩) k k);obtain ⟨r0,r1,r2,r3⟩:=xr;obtain ⟨y0,y1,_,_⟩:=cf;go_wp2;exact bodyPost_ret (v:=.tuple #[.agg #[.slice p6 n6 c6,.slice (some ⟨g,0,none⟩) k k],.int .i64 0]) (by simp [results,Tryz.results105,go_sem,y0,y1]) rfl ⟨_,rfl,HF.out⟩
 ·rw [decide_eq_false M] at cA;unfold e_I f_s f_t;rw [if_neg M,if_neg M,if_neg M];clear h1 h2 hd hx M hK;go_enter Tryz.func105,Tryz.ntmps105;go_wp2_with fail
  generalize H:World.alloc _ _=W0;have R:=b_W (w:=w) H (by go_grown);have XA:Hid (Cel W0 w.heap.size (.slice p n c) (.slice p2 D c2)):=a_F H (by simp [go_sem]);have XR:Hid (Cel W0 (w.heap.size+1) (.slice none 0 0) (.slice none 0 0)):=a_F H (by simp [go_sem]);clear H;refine (cA W0 R.out).mono ?_;rintro e w1 ⟨rfl,I⟩;have E:=a_N (a_c R.out I) I;clear I;have xr:=(XR.out.up E.out.2)
  have BF:=a_k (E.out.1) (w.heap.size+1) (by omega) (.slice none 0 0) (.slice none 0 0);have cf:=xr.set (.slice none 0 0) (.slice none 0 0);obtain ⟨r0,r1,r2,r3⟩:=xr;obtain ⟨y0,y1,_,_⟩:=cf;go_wp2;exact bodyPost_ret (v:=.tuple #[.agg #[.slice none 0 0,.slice none 0 0],.int .i64 1]) (by simp [results,Tryz.results105,go_sem,y0,y1]) rfl ⟨_,rfl,TRes.none _ _,BF⟩
theorem c_8 (p p2 p3:Option Addr) (n c n2 c2 n3 c3:Nat) (d x d':List Int) (hd:RI d) (R:RI d') (w:World) (h1:Nums .i64 w (.slice p n c) d) (h2:Nums .i64 w (.slice p2 n2 c2) x) (h3:Nums .i64 w (.slice p3 n3 c3) d'):
  Calls Tryz.prog 113 #[.agg #[.slice p n c,.slice p2 n2 c2],.slice p3 n3 c3] w fun e M=>∃ V,e = .returned (.tuple #[V,.int .i64 (j_A d x d')])/\TRes M w.heap.size V (j_B d x d') (k_6 d x d')/\Below w.heap.size w M:=by
 have cA:=fun W (U:Below w.heap.size w W)=>a_C _ _ d x hd W (h1.up U) (h2.up U);have cB:=fun W (U:Below w.heap.size w W)=>b_Y _ d' R W (h3.up U);have cZ:=fun W (U:Below w.heap.size w W)=>size_any _ d' R W (h3.up U);have HN:Hid (Nums .i64 w (.slice p n c) d/\Nums .i64 w (.slice p2 n2 c2) x/\Nums .i64 w (.slice p3 n3 c3) d'):=⟨h1,h2,h3⟩
 obtain ⟨_,_,_,e4,HX⟩:=h2.lst;cases e4;unfold j_A j_B k_6;by_cases J:isP d x
 ·rw [decide_eq_true J] at cA;by_cases O:goodN (ntl d')
  ·rw [decide_eq_true O] at cB;rw [b_1 O] at cZ;rw [if_pos ⟨J,O⟩];have aa:x.length<=4096:=by rw [J.2];exact J.1.2.2
   have HP:Hid (isP d x/\goodN (ntl d')/\x.length<=4096):=⟨J,O,aa⟩
   by_cases hN:a_e (ntl d')=x.length
   ·rw [if_pos hN,if_pos ⟨⟨J,O⟩,hN⟩,if_pos ⟨⟨J,O⟩,hN⟩];rw [hN,HX.out.1] at cZ;clear hN h1 h2 h3 hd R J O aa;go_enter Tryz.func113,Tryz.ntmps113;go_wp2_with fail
    generalize D:World.alloc _ _=W0;have I:=b_W (w:=w) D (by go_grown);have XA:Hid (Cel W0 w.heap.size (.slice p n c) (.slice p2 n2 c2)):=a_F D (by simp [go_sem]);have XR:Hid (Cel W0 (w.heap.size+1) (.slice none 0 0) (.slice none 0 0)):=a_F D (by simp [go_sem]);clear D;refine (cA W0 I.out).mono ?_;rintro e w1 ⟨rfl,H⟩;have E:=a_N (a_c I.out H) H;clear H;go_wp2_with fail
    refine (cB w1 E.out.1).mono ?_;rintro e w2 ⟨rfl,rfl⟩;clear cB;obtain ⟨a0,a1,_,_⟩:=XA.out.up E.out.2;have cz:∀ m,Calls Tryz.prog 87 #[.slice p3 n3 c3] (w2.drewN m) fun e M=>e = .returned (.int .i64 (n2:Int))/\M=w2.drewN m:=fun m=>cZ _ (a_m E.out.1 m);go_wp2_with fail
    go_quiet (exact Calls.quiet_of_same (cz _))
    generalize ag:World.drewN w2 nq=w5;have L:Hid (Below w.heap.size w w5/\Below W0.heap.size W0 w5):=by rw [<- ag];exact ⟨a_m E.out.1 nq,a_m E.out.2 nq⟩
    clear a0 a1 ag;obtain ⟨a0,a1,_,_⟩:=XA.out.up L.out.2
    have ai:∀ W,Below w5.heap.size w5 W->Calls Tryz.prog 75 #[.slice p3 n3 c3] W fun e M=>∃ V,e = .returned V/\OwnK .i64 3 M w5.heap.size V d'/\Below W.heap.size W M:=fun W U=>by
     refine (b_i _ d' (by have:=HP.out.2.1.1;rw [a_R] at this;omega) W (HN.out.2.2.up (a_c L.out.1 U))).mono ?_;rintro e M ⟨V,rfl,h,hb⟩;exact ⟨V,rfl,h.low U.size,hb⟩
    have aj:∀ W,Below w5.heap.size w5 W->Calls Tryz.prog 91 #[.slice p2 n2 c2] W fun e M=>∃ V,e = .returned V/\OwnK .i64 23 M w5.heap.size V x/\Below W.heap.size W M:=fun W U=>by
     refine (g_c _ x (by have:=HP.out.2.2;omega) W (HN.out.2.1.up (a_c L.out.1 U))).mono ?_;rintro e M ⟨V,rfl,h,hb⟩;exact ⟨V,rfl,h.low U.size,hb⟩
    have z0:=a_a a0;haveI:Nonempty World:=⟨w⟩
    clear cz cZ cA;go_wp2_with fail
    refine rel [⟨1,23,fun v W=>OwnK .i64 3 W w5.heap.size v d'⟩,⟨4,26,fun v W=>OwnK .i64 23 W w5.heap.size v x⟩] 5 28 (by kernel_rfl) rfl rfl (by kernel_rfl) (by rfl) ?_ ?_
    ·intro e he v W W' h hb;simp only [List.mem_cons,List.not_mem_nil,or_false] at he;rcases he with rfl|rfl
     ·exact OwnK.up h hb
     ·exact OwnK.up h hb
    apply Exists.intro;refine ⟨fun x=>?_,?_,?_⟩
    ·simp only [List.take_succ_cons,List.take_zero];refine a_l rfl rfl ?_;apply Exists.intro;refine ⟨fun F hF hf K hK=>?_,?_⟩
     ·have hFc:=hF.cell;have hFf:=hF.frozen
      go_big_quiet_op
      exact hK
     (try simp only [c_I])
     refine a_o rfl rfl ?_ ?_
     ·intro F hF hf d_;have hFc:=hF.cell;have hFf:=hF.frozen;simp [a_j,a_f,go_sem];refine (ai _ (hF.below d_)).mono ?_;rintro e' w8 ⟨v8,rfl,h8,ad⟩;exact ⟨_,rfl,h8,ad⟩
     iterate 2
      (try simp only [c_I])
      refine a_l rfl rfl ?_;apply Exists.intro;refine ⟨fun F hF hf K hK=>?_,?_⟩
      ·have hFc:=hF.cell;have hFf:=hF.frozen
       go_big_quiet_op
       exact hK
     (try simp only [c_I])
     refine a_o rfl rfl ?_ ?_
     ·intro F hF hf d_;have hFc:=hF.cell;have hFf:=hF.frozen;simp [a_j,a_f,go_sem];refine (aj _ (hF.below d_)).mono ?_;rintro e' w8 ⟨v8,rfl,h8,ad⟩;exact ⟨_,rfl,h8,ad⟩
     (try simp only [c_I])
     refine b_a ?_;exact rfl
    ·exact fun x=>rfl
    ·intro w6 xs af hf;simp only [List.drop_succ_cons,List.drop_zero];have ab:=hf _ List.mem_cons_self;have ac:=hf _ (List.mem_cons_of_mem _ List.mem_cons_self);obtain ⟨fa,ah⟩:∃ fa,xs 1=fa:=⟨_,rfl⟩
     obtain ⟨fb,ae⟩:∃ fb,xs 4=fb:=⟨_,rfl⟩
     simp only [ah,ae] at ab ac ⊢;clear ah ae hf;obtain ⟨pa,na,ca,rfl,_⟩:=ab.nums.lst;obtain ⟨pb,nb,cb,rfl,_⟩:=ac.nums.lst
     have HF:Hid (TRes (set2 w6 (w.heap.size+1) (.slice pa na ca) (.slice pb nb cb)) w.heap.size (.agg #[.slice pa na ca,.slice pb nb cb]) d' x/\Below w.heap.size w (set2 w6 (w.heap.size+1) (.slice pa na ca) (.slice pb nb cb))):=by
      exact ⟨(TRes.set ab ac (Nat.lt_of_lt_of_le (a_a XR.out.1) L.out.2.size)).low L.out.1.size,a_k (a_c L.out.1 af) _ (by omega) _ _⟩
     clear ab ac a0 a1 z0;have xr:=(XR.out.up (a_c L.out.2 af))
     have cf:=xr.set (.slice pa na ca) (.slice pb nb cb);obtain ⟨r0,r1,r2,r3⟩:=xr;obtain ⟨y0,y1,_,_⟩:=cf;go_wp2;exact bodyPost_ret (v:=.tuple #[.agg #[.slice pa na ca,.slice pb nb cb],.int .i64 0]) (by simp [results,Tryz.results113,go_sem,y0,y1]) rfl ⟨_,rfl,HF.out⟩
   ·rw [if_neg hN,if_neg (fun h=>hN h.2),if_neg (fun h=>hN h.2)];obtain ⟨N,eN⟩:∃ N,a_e (ntl d')=N:=⟨_,rfl⟩
    rw [eN] at cZ hN;rw [HX.out.1] at hN;have ak:((N:Int) != (n2:Int))=true:=by simp;omega
    have am:¬ ((N:Int)=(n2:Int)):=by omega
    clear eN h1 h2 h3 hd R J O aa hN;go_enter Tryz.func113,Tryz.ntmps113;go_wp2_with fail
    generalize D:World.alloc _ _=W0;have I:=b_W (w:=w) D (by go_grown);have XA:Hid (Cel W0 w.heap.size (.slice p n c) (.slice p2 n2 c2)):=a_F D (by simp [go_sem]);have XR:Hid (Cel W0 (w.heap.size+1) (.slice none 0 0) (.slice none 0 0)):=a_F D (by simp [go_sem]);clear D;refine (cA W0 I.out).mono ?_;rintro e w1 ⟨rfl,H⟩;have E:=a_N (a_c I.out H) H;clear H;go_wp2_with fail
    refine (cB w1 E.out.1).mono ?_;rintro e w2 ⟨rfl,rfl⟩;clear cB;obtain ⟨a0,a1,_,_⟩:=XA.out.up E.out.2;have cz:∀ m,Calls Tryz.prog 87 #[.slice p3 n3 c3] (w2.drewN m) fun e M=>e = .returned (.int .i64 (N:Int))/\M=w2.drewN m:=fun m=>cZ _ (a_m E.out.1 m);go_wp2_with fail
    go_quiet (exact Calls.quiet_of_same (cz _))
    clear cz a0 a1;have xr:=(XR.out.up (a_m E.out.2 nq))
    have BF:=a_k (a_m E.out.1 nq) (w.heap.size+1) (by omega) (.slice none 0 0) (.slice none 0 0);have cf:=xr.set (.slice none 0 0) (.slice none 0 0);obtain ⟨r0,r1,r2,r3⟩:=xr;obtain ⟨y0,y1,_,_⟩:=cf;go_wp2;exact bodyPost_ret (v:=.tuple #[.agg #[.slice none 0 0,.slice none 0 0],.int .i64 4]) (by simp [results,Tryz.results113,go_sem,y0,y1]) rfl ⟨_,rfl,TRes.none _ _,BF⟩
  ·rw [decide_eq_false O] at cB;rw [if_neg (fun h=>O h.2),if_neg (fun h=>O h.1.2),if_neg (fun h=>O h.1.2)];clear h1 h2 h3 hd R J O cZ;go_enter Tryz.func113,Tryz.ntmps113;go_wp2_with fail
   generalize D:World.alloc _ _=W0;have I:=b_W (w:=w) D (by go_grown);have XA:Hid (Cel W0 w.heap.size (.slice p n c) (.slice p2 n2 c2)):=a_F D (by simp [go_sem]);have XR:Hid (Cel W0 (w.heap.size+1) (.slice none 0 0) (.slice none 0 0)):=a_F D (by simp [go_sem]);clear D;refine (cA W0 I.out).mono ?_;rintro e w1 ⟨rfl,H⟩;have E:=a_N (a_c I.out H) H;clear H;go_wp2_with fail
   refine (cB w1 E.out.1).mono ?_;rintro e w2 ⟨rfl,rfl⟩;have xr:=(XR.out.up E.out.2)
   have BF:=a_k (E.out.1) (w.heap.size+1) (by omega) (.slice none 0 0) (.slice none 0 0);have cf:=xr.set (.slice none 0 0) (.slice none 0 0);obtain ⟨r0,r1,r2,r3⟩:=xr;obtain ⟨y0,y1,_,_⟩:=cf;go_wp2;exact bodyPost_ret (v:=.tuple #[.agg #[.slice none 0 0,.slice none 0 0],.int .i64 1]) (by simp [results,Tryz.results113,go_sem,y0,y1]) rfl ⟨_,rfl,TRes.none _ _,BF⟩
 ·rw [decide_eq_false J] at cA;rw [if_neg (fun h=>J h.1),if_neg (fun h=>J h.1.1),if_neg (fun h=>J h.1.1)];clear h1 h2 h3 hd R J cZ cB;go_enter Tryz.func113,Tryz.ntmps113;go_wp2_with fail
  generalize D:World.alloc _ _=W0;have I:=b_W (w:=w) D (by go_grown);have XA:Hid (Cel W0 w.heap.size (.slice p n c) (.slice p2 n2 c2)):=a_F D (by simp [go_sem]);have XR:Hid (Cel W0 (w.heap.size+1) (.slice none 0 0) (.slice none 0 0)):=a_F D (by simp [go_sem]);clear D;refine (cA W0 I.out).mono ?_;rintro e w1 ⟨rfl,H⟩;have E:=a_N (a_c I.out H) H;clear H;have xr:=(XR.out.up E.out.2)
  have BF:=a_k (E.out.1) (w.heap.size+1) (by omega) (.slice none 0 0) (.slice none 0 0);have cf:=xr.set (.slice none 0 0) (.slice none 0 0);obtain ⟨r0,r1,r2,r3⟩:=xr;obtain ⟨y0,y1,_,_⟩:=cf;go_wp2;exact bodyPost_ret (v:=.tuple #[.agg #[.slice none 0 0,.slice none 0 0],.int .i64 1]) (by simp [results,Tryz.results113,go_sem,y0,y1]) rfl ⟨_,rfl,TRes.none _ _,BF⟩
end Go.Proofs.YtjlofobnmjompaaGreatDoor.Wd
namespace Go.Proofs.YtjlofobnmjompaaGreatDoor.Wd
open Go.RowKit Fx
/-- Two words that stand for a number. -/
def wd (v:Int):Value:=.agg #[.int .i64 (v / 18446744073709551616),.int .u64 (v % 18446744073709551616)]
def InW (v:Int):Prop:=-170141183460469231731687303715884105728<=v/\v < 170141183460469231731687303715884105728
def wr (v:Int):Int:=(v+170141183460469231731687303715884105728) % 340282366920938463463374607431768211456 - 170141183460469231731687303715884105728
theorem c_9 (v:Int):InW (wr v):=by unfold InW wr;omega
theorem n_Z {v:Int} (h:InW v):wr v=v:=by unfold InW at h;unfold wr;omega
theorem j_C (a b:Int):wr (wr a+b)=wr (a+b):=by unfold wr;omega
theorem l_I (a b:Int):wr (a+wr b)=wr (a+b):=by unfold wr;omega
theorem InR.w {a:Int} (h:InR a):InW a:=by unfold InR at h;unfold InW;omega
theorem s_H (h l:Int) (H:0<=l/\l < 18446744073709551616):Value.agg #[.int .i64 h,.int .u64 l]=wd (h*18446744073709551616+l):=by
 unfold wd;have D:(h*18446744073709551616+l) / 18446744073709551616=h:=by omega
 have E:(h*18446744073709551616+l) % 18446744073709551616=l:=by omega
 rw [D,E]
theorem k_y {h l v:Int} (D:h=v / 18446744073709551616) (E:l=v % 18446744073709551616):Value.agg #[.int .i64 h,.int .u64 l]=wd v:=by
 subst D E;rfl
theorem r_p {h l v:Int} (D:h=v / 18446744073709551616) (E:l=v % 18446744073709551616):Ending.returned (.agg #[.int .i64 h,.int .u64 l]) = .returned (wd v):=by
 rw [k_y D E]
/-- A quotient, rounded: to the nearest, of two that are as near to the even one; on both sides of 0. -/
def rqI (x d:Int):Int:=if d < 2*(x % d)∨(2*(x % d)=d/\x / d % 2=1) then x / d+1 else x / d
theorem p_Y (x d:Int) (E:0 < d):rqI (-x) d = -rqI x d:=by
 obtain ⟨q,H⟩:∃ q,x / d=q:=⟨_,rfl⟩
 obtain ⟨r,D⟩:∃ r,x % d=r:=⟨_,rfl⟩
 have L:0<=r:=D ▸ Int.emod_nonneg x (by omega);have M:r < d:=D ▸ Int.emod_lt_of_pos x E;have J:d*q+r=x:=by rw [<- H,<- D];exact Int.mul_ediv_add_emod x d
 by_cases I:r=0
 ·have e:(-x) / d = -q/\(-x) % d=0:=by
   rw [Int.ediv_emod_unique E];refine ⟨?_,by omega,E⟩;rw [<- J,I,Int.mul_neg];omega
  unfold rqI;rw [e.1,e.2,H,D,I]
  split <;> split <;> omega
 ·have e:(-x) / d = -q - 1/\(-x) % d=d - r:=by
   rw [Int.ediv_emod_unique E];refine ⟨?_,by omega,by omega⟩;rw [<- J,Int.mul_sub,Int.mul_neg];omega
  unfold rqI;rw [e.1,e.2,H,D]
  split <;> split <;> omega
theorem i_q (x d:Nat):rqI (x:Int) (d:Int)=((rq x d:Nat):Int):=by
 unfold rqI rq;have D:(x:Int) % d=((x % d:Nat):Int):=by omega
 have E:(x:Int) / d=((x / d:Nat):Int):=by omega
 rw [D,E]
 split <;> split <;> omega
theorem r_q (s:Bool) (x d:Nat) (D:0 < d):rqI (sg s x) d=sg s (rq x d):=by
 cases s
 ·exact i_q x d
 ·show rqI (-(x:Int)) d = -((rq x d:Nat):Int);rw [p_Y _ _ (by omega),i_q]
theorem dd (x:Int) {p q:Int} (D:0 < p):x / p / q=x / (p*q):=by
 rw [Int.ediv_ediv,if_neg (fun c=>by omega),Int.sub_zero]
theorem j_D (x p:Int) (E:0 < p):x % (p*2)=x % p+p*(x / p % 2):=by
 have I:=Int.mul_ediv_add_emod x p;have H:=Int.mul_ediv_add_emod x (p*2);have D:=Int.mul_ediv_add_emod (x / p) 2;rw [dd x E] at D;rw [Int.mul_assoc] at H;have:p*(x / p)=p*(2*(x / (p*2)))+p*(x / p % 2):=by rw [<- Int.mul_add,D]
 omega
/-- Rounding towards the lower one, then the half's bit, then what is below. -/
theorem p_Z (x:Int) (k:Nat) (hb:x / 2 ^ k % 2=0):rqI x (2 ^ (k+1))=x / 2 ^ (k+1):=by
 obtain ⟨p,D⟩:∃ p:Int,(2:Int) ^ k=p:=⟨_,rfl⟩
 have E:0 < p:=D ▸ Int.pow_pos (by decide);have H:(2:Int) ^ (k+1)=p*2:=by rw [Int.pow_succ,D]
 rw [D] at hb;have I:x % (p*2)=x % p+p*(x / p % 2):=j_D x p E;unfold rqI;rw [H,I,hb];have:=Int.emod_lt_of_pos x E;have:=Int.emod_nonneg x (show p≠0 by omega);rw [if_neg];omega
theorem s_I (x:Int) (k:Nat) (hb:x / 2 ^ k % 2=1):rqI x (2 ^ (k+1))=x / 2 ^ (k+1)+(if x / 2 ^ (k+1) % 2=1∨x % 2 ^ k≠0 then 1 else 0):=by
 obtain ⟨p,D⟩:∃ p:Int,(2:Int) ^ k=p:=⟨_,rfl⟩
 have E:0 < p:=D ▸ Int.pow_pos (by decide);have H:(2:Int) ^ (k+1)=p*2:=by rw [Int.pow_succ,D]
 rw [D] at hb ⊢;have I:x % (p*2)=x % p+p*(x / p % 2):=j_D x p E;unfold rqI;rw [H,I,hb];have:=Int.emod_lt_of_pos x E;have:=Int.emod_nonneg x (show p≠0 by omega)
 split <;> split <;> omega
/-- The lower one, in its words. -/
theorem s_J (a:Int) (n:Nat):a / 2 ^ n / 18446744073709551616=a / 18446744073709551616 / 2 ^ n:=by
 rw [dd a (Int.pow_pos (by decide)),dd a (by decide),Int.mul_comm]
theorem r_r (a:Int) (n:Nat) (h:64<=n):a / 2 ^ n=a / 18446744073709551616 / 2 ^ (n - 64):=by
 rw [dd a (by decide),show (18446744073709551616:Int)=2 ^ 64 by decide,<- Int.pow_add,show 64+(n - 64)=n by omega]
theorem r_s (x y:Nat) (J:x < 18446744073709551616) (I:y < 18446744073709551616):bits .or .u64 (x:Int) (y:Int)=((x ||| y:Nat):Int):=by
 show IntKind.u64.wrap ((BitVec.ofInt 64 (x:Int) ||| BitVec.ofInt 64 (y:Int)).toNat:Int)=_
 have E:(BitVec.ofInt 64 (x:Int)).toNat=x:=by
  rw [BitVec.ofInt_natCast,BitVec.toNat_ofNat];exact Nat.mod_eq_of_lt (by omega)
 have D:(BitVec.ofInt 64 (y:Int)).toNat=y:=by
  rw [BitVec.ofInt_natCast,BitVec.toNat_ofNat];exact Nat.mod_eq_of_lt (by omega)
 have H:x ||| y < 2 ^ 64:=Nat.or_lt_two_pow (by omega) (by omega);rw [BitVec.toNat_or,E,D,IntKind.wrap_u64];omega
theorem n_0 (x y:Int) (i:Nat) (J:i<=64) (M:0<=x) (D:x*2 ^ i < 18446744073709551616) (I:0<=y) (E:y < 2 ^ i):bits .or .u64 (x*2 ^ i) y=x*2 ^ i+y:=by
 obtain ⟨m,rfl⟩:=Int.eq_ofNat_of_zero_le M;obtain ⟨l,rfl⟩:=Int.eq_ofNat_of_zero_le I;have e:((m:Int)*2 ^ i)=((m*2 ^ i:Nat):Int):=by rw [Int.natCast_mul,Int.natCast_pow];rfl
 have L:l < 2 ^ i:=by
  have:((l:Nat):Int) < ((2 ^ i:Nat):Int):=by rw [Int.natCast_pow];exact E
  omega
 have H:2 ^ i<=2 ^ 64:=Nat.pow_le_pow_right (by decide) J;rw [e] at D ⊢;rw [r_s _ _ (by omega) (by omega),<- Nat.shiftLeft_eq,<- Nat.shiftLeft_add_eq_or_of_lt L];omega
theorem s_K (h l:Int) (n:Nat) (hn:n < 64) (L:0<=l/\l < 18446744073709551616):
  bits .or .u64 (h*2 ^ (64 - n) % 18446744073709551616) (l / 2 ^ n)=(h*18446744073709551616+l) / 2 ^ n % 18446744073709551616:=by
 obtain ⟨p,H⟩:∃ p:Int,(2:Int) ^ n=p:=⟨_,rfl⟩
 obtain ⟨c,E⟩:∃ c:Int,(2:Int) ^ (64 - n)=c:=⟨_,rfl⟩
 have I:0 < p:=H ▸ Int.pow_pos (by decide);have U:0 < c:=E ▸ Int.pow_pos (by decide);have D:c*p=18446744073709551616:=by rw [<- H,<- E,<- Int.pow_add,show 64 - n+n=64 by omega];rfl
 have V:h*2 ^ (64 - n) % 18446744073709551616=(h % p)*2 ^ (64 - n):=by
  rw [E,<- D,Int.mul_comm c p,Int.mul_comm h c,Int.mul_comm p c,Int.mul_emod_mul_of_pos _ _ U,Int.mul_comm]
 have J:=Int.emod_nonneg h (show p≠0 by omega);have r1:=Int.emod_lt_of_pos h I;have q0:0<=l / p:=Int.ediv_nonneg L.1 (by omega);have O:l / p < c:=Int.ediv_lt_of_lt_mul I (by rw [D];exact L.2)
 have M:(h % p)*c < 18446744073709551616:=by
  have:(h % p+1)*c<=p*c:=Int.mul_le_mul_of_nonneg_right (by omega) (by omega);rw [Int.mul_comm p c,D,Int.add_mul] at this;omega
 rw [V,n_0 _ _ _ (by omega) J (by rw [E];exact M) (by rw [H];exact q0) (by rw [E,H];exact O),E,H]
 have e1:(h*18446744073709551616+l) / p=h*c+l / p:=by
  rw [<- D,<- Int.mul_assoc,Int.add_comm,Int.add_mul_ediv_right _ _ (by omega),Int.add_comm]
 have R:h*c=(h / p)*18446744073709551616+(h % p)*c:=by
  have:=Int.mul_ediv_add_emod h p
  conv=>lhs;rw [<- this]
  rw [<- D,Int.add_mul,Int.mul_comm p (h / p),Int.mul_assoc,Int.mul_comm p c]
 rw [e1,R];have m2:0<=(h % p)*c:=Int.mul_nonneg J (by omega)
 have m3:(h % p)*c+l / p < 18446744073709551616:=by
  have:(h % p+1)*c<=p*c:=Int.mul_le_mul_of_nonneg_right (by omega) (by omega);rw [Int.mul_comm p c,D,Int.add_mul] at this;omega
 omega
/-- How many of the lowest bits are 0. -/
theorem o_7 (x k:Nat) (L:0 < x) (h:x < 18446744073709551616):Lib.ctz 64 x < k↔x % 2 ^ k≠0:=by
 obtain ⟨m,e,M⟩:=Lib.ctzFrom_spec 64 x L (by omega);have H:Lib.ctz 64 x=Lib.ctzFrom 64 x:=by unfold Lib.ctz;rw [if_neg (by omega)]
 rw [H];obtain ⟨z,J⟩:∃ z,Lib.ctzFrom 64 x=z:=⟨_,rfl⟩
 rw [J] at e ⊢;constructor
 ·intro I D;obtain ⟨q,E⟩:=Nat.dvd_of_mod_eq_zero D
  have:2 ^ k=2 ^ z*(2*2 ^ (k - z - 1)):=by
   rw [<- Nat.pow_succ',<- Nat.pow_add];congr 1;omega
  rw [this,Nat.mul_assoc] at E;rw [E] at e;have:=Nat.eq_of_mul_eq_mul_left (Nat.two_pow_pos z) e;rw [Nat.mul_assoc] at this;omega
 ·intro D;apply Classical.byContradiction;intro I;apply D;rw [e,show z=k+(z - k) by omega,Nat.pow_add,Nat.mul_assoc];exact Nat.mul_mod_right ..
end Go.Proofs.YtjlofobnmjompaaGreatDoor.Wd
