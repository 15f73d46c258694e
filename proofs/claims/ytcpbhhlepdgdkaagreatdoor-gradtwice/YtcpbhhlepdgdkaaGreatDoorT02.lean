/- Tensors: what tens.Scale and tens.Reshap -/
import Derived.Test.YtcpbhhlepdgdkaaGreatDoorT01
import Derived.Lib.TrailingZeros
import Derived.Shelf.Spec.BitsCarry
import Derived.Shelf.Spec.TrailingZeros
import Derived.Deep.RegionWith
set_option linter.unusedVariables false
set_option linter.unusedSimpArgs false
set_option maxHeartbeats 16000000
set_option maxRecDepth 16000
namespace Go.Proofs.YtcpbhhlepdgdkaaGreatDoor.Wd
open Go.RowKit
def e_L (d x:List Int):Int:=if isP d x then 0 else 1
def f_x (d x:List Int):List Int:=if isP d x then d else []
def f_y (d x:List Int) (k:Int):List Int:=if isP d x then x.map fun y=>Fx.mulI y k else []
def j_J (d x d':List Int):Int:=if isP d x/\goodN (ntl d') then if a_e (ntl d')=x.length then 0 else 4 else 1
def j_K (d x d':List Int):List Int:=if (isP d x/\goodN (ntl d'))/\a_e (ntl d')=x.length then d' else []
def l_d (d x d':List Int):List Int:=if (isP d x/\goodN (ntl d'))/\a_e (ntl d')=x.length then x else []
theorem k_D (p p2:Option Addr) (n c D c2:Nat) (d x:List Int) (hd:RI d) (hx:RI x) (K:Int) (hK:Fx.InR K) (w:World) (h1:Nums .i64 w (.slice p n c) d) (h2:Nums .i64 w (.slice p2 D c2) x):
  Calls Tryz.prog 94 #[.agg #[.slice p n c,.slice p2 D c2],.int .i64 K] w fun e w'=>∃ v',e = .returned (.tuple #[v',.int .i64 (e_L d x)])/\TRes w' w.heap.size v' (f_x d x) (f_y d x K)/\Below w.heap.size w w':=by
 have cA:=fun W (hW:Below w.heap.size w W)=>a_B _ _ d x hd W (h1.up hW) (h2.up hW);by_cases O:isP d x
 ·rw [decide_eq_true O] at cA;unfold e_L f_x f_y;rw [if_pos O,if_pos O,if_pos O];obtain ⟨V,eV⟩:∃ V,(x.map fun y=>Fx.mulI y K)=V:=⟨_,rfl⟩
  rw [eV];have HN:Hid (Nums .i64 w (.slice p n c) d/\Nums .i64 w (.slice p2 D c2) x):=⟨h1,h2⟩
  obtain ⟨_,_,_,e4,HX⟩:=h2.lst;cases e4;have aj:x.length<=4096:=by rw [O.2];exact O.1.2.2
  rw [HX.out.1] at aj;have ar:(D:Int)<=4096:=by omega
  have R:Hid ((x.map fun y=>Fx.mulI y K)=V/\V.length=D/\isP d x/\RI x/\Fx.InR K/\x.length=D):=⟨eV,by rw [<- eV,List.length_map];exact HX.out.1,O,hx,hK,HX.out.1⟩
  clear eV h1 h2 hd hx O hK;go_enter Tryz.func94,Tryz.ntmps94;go_wp2_with fail
  generalize H:World.alloc _ _=W0;have M:=b_1 (w:=w) H (by go_grown);have XA:Hid (Cel W0 w.heap.size (.slice p n c) (.slice p2 D c2)):=a_F H (by simp [go_sem]);have XR:Hid (Cel W0 (w.heap.size+1) (.slice none 0 0) (.slice none 0 0)):=a_F H (by simp [go_sem]);clear H;refine (cA W0 M.out).mono ?_;rintro e w1 ⟨rfl,J⟩;have E:=a_N (a_c M.out J) J;clear J;obtain ⟨a0,a1,_,_⟩:=XA.out.up E.out.2;go_wp2_with (at_make;refine a_y k_C (by decide) _ rfl (.tmp 15) (.tmp 15) rfl .i64 .i64 D D D rfl rfl rfl rfl (by omega) w.heap.size w E.out.1.size E.out.1 ?_;intro w4 af B4 am;clear am;have ak:=(XA.out.up (a_c E.out.2 B4));obtain ⟨a2,a3,_,_⟩:=ak)
  obtain ⟨g,hg⟩:∃ g,w1.heap.size=g:=⟨_,rfl⟩
  have ae:=a_N (a_c E.out.1 B4) (a_c E.out.2 B4);rw [hg] at af ⊢;have hz:=a_a XR.out.1;have Hg:Hid (W0.heap.size<=g/\w.heap.size+1 < W0.heap.size):=⟨by rw [<- hg];exact E.out.2.size,hz⟩
  have au:Hid (OwnK .i64 48 w4 g (.slice (some ⟨g,0,none⟩) D D) (b_I V 0)):=by
   show OwnK _ _ _ _ _ _;rw [a_1,R.out.2.1];exact af.out
  clear a0 a1 a2 a3 af B4 hg hz
  go_loopg [20] D (fun gg i wr=>∃ (k:Nat),k<=D/\gg=D - k/\i = .int .i64 (k:Int)/\Hid (OwnK .i64 48 wr g (.slice (some ⟨g,0,none⟩) D D) (b_I V k))/\Hid (Below w.heap.size w wr/\Stay g w4 wr))
  case atStart=>exact ⟨0,by omega,by omega,by first|rfl|simp,au,ae.out.1,Stay.refl _ _⟩
  case round=>
   obtain ⟨k,hk,hg,rfl,ac,I⟩:=hrel;obtain ⟨R1,ao⟩:∃ R1:World,R1=wr:=⟨_,rfl⟩
   subst ao;by_cases L:k < D
   ·have ax:(k:Int) < (D:Int):=by omega
    obtain ⟨q,o,rfl,ah⟩:=HX.out.2 k L;have aq:=a_d ah I.out.1;have rx:=R.out.2.2.2.1.in k (by rw [R.out.2.2.2.2.2];exact L);obtain ⟨X,eX⟩:∃ X,x.getD k 0=X:=⟨_,rfl⟩
    rw [eX] at aq rx;obtain ⟨Z,eZ⟩:∃ Z,Fx.mulI X K=Z:=⟨_,rfl⟩
    have HZ:Hid (V.getD k 0=Z):=by
     show _=_;rw [<- R.out.1,List.getD_eq_getElem?_getD,List.getElem?_map,List.getElem?_eq_getElem (by rw [R.out.2.2.2.2.2];exact L),<- eZ,<- eX,a_r x k 0 (by rw [R.out.2.2.2.2.2];exact L)];rfl
    have cz:∀ W,Calls Tryz.prog 123 #[.int .i64 X,.int .i64 K] W fun e w'=>e = .returned (.int .i64 Z)/\w'=W:=fun W=>by rw [<- eZ];exact Fx.mul_any X K rx R.out.2.2.2.2.1 W
    obtain ⟨av,aw⟩:=ac.out.cell (by rw [a_z];exact R.out.2.1) k L
    have H5:Hid (OwnK .i64 48 (R1.setCell ⟨g,k,none⟩ (.int .i64 Z)) g (.slice (some ⟨g,0,none⟩) D D) (b_I V (k+1))):=by
     have:=ac.out.store (by rw [a_z];exact R.out.2.1) k Z;rw [<- HZ.out,b_r V k (by rw [R.out.2.1];exact L)] at this;rw [<- HZ.out];exact this
    have ap:w.heap.size<=g:=by have:=Hg.out;omega
    have H6:Hid (Below w.heap.size w (R1.setCell ⟨g,k,none⟩ (.int .i64 Z))/\Stay g w4 (R1.setCell ⟨g,k,none⟩ (.int .i64 Z))):=⟨I.out.1.setCell (p:=⟨g,k,none⟩) ap _,I.out.2.set _ _⟩
    clear eX eZ ah;go_wp2_with fail
    refine (cz _).mono ?_;rintro e w5 ⟨rfl,rfl⟩;clear cz;go_wp2;go_roundg (D - (k+1))
    case measure=>omega
    case rel=>exact ⟨k+1,by omega,rfl,by first|rfl|simp,H5,H6⟩
   ·obtain rfl:k=D:=by omega
    have aa:w.heap.size≠g:=by have:=Hg.out;omega
    have ab:w.heap.size+1≠g:=by have:=Hg.out;omega
    obtain ⟨a0,a1,_,_⟩:=(XA.out.up ae.out.2).stay I.out.2 aa;have ai:=(XR.out.up ae.out.2).stay I.out.2 ab;have U:=ac.out;rw [<- R.out.2.1,b_h,R.out.2.1] at U;have ag:Hid (OwnK .i64 48 R1 g (.slice (some ⟨g,0,none⟩) k k) V):=U;have cc:=b_j _ d (by have:=R.out.2.2.1.1.1;rw [a_Q] at this;omega) R1 (HN.out.1.up I.out.1);have an:Hid (Cel R1 (w.heap.size+1) (.slice none 0 0) (.slice none 0 0)):=ai;clear U ai aa ab;go_wp2_with fail
    refine cc.mono ?_;rintro e w6 ⟨v6,rfl,h6,ad⟩;obtain ⟨p6,n6,c6,rfl,_⟩:=h6.nums.lst
    have HF:Hid (TRes (set2 w6 (w.heap.size+1) (.slice p6 n6 c6) (.slice (some ⟨g,0,none⟩) k k)) w.heap.size (.agg #[.slice p6 n6 c6,.slice (some ⟨g,0,none⟩) k k]) d V/\Below w.heap.size w (set2 w6 (w.heap.size+1) (.slice p6 n6 c6) (.slice (some ⟨g,0,none⟩) k k))):=by
     have hs:g<=R1.heap.size:=Nat.le_of_lt ag.out.size;exact ⟨(TRes.set (h6.low (Nat.le_trans Hg.out.1 hs)) ((ag.out.up ad).low Hg.out.1) Hg.out.2).low M.out.size,a_j (a_c I.out.1 ad) _ (by omega) _ _⟩
    clear cc h6 a0 a1;have xr:=(an.out.up ad)
    have cf:=xr.set (.slice p6 n6 c6) (.slice (some ⟨g,0,none⟩) k k);obtain ⟨r0,r1,r2,r3⟩:=xr;obtain ⟨y0,y1,_,_⟩:=cf;go_wp2;exact bodyPost_ret (v:=.tuple #[.agg #[.slice p6 n6 c6,.slice (some ⟨g,0,none⟩) k k],.int .i64 0]) (by simp [results,Tryz.results94,go_sem,y0,y1]) rfl ⟨_,rfl,HF.out⟩
 ·rw [decide_eq_false O] at cA;unfold e_L f_x f_y;rw [if_neg O,if_neg O,if_neg O];clear h1 h2 hd hx O hK;go_enter Tryz.func94,Tryz.ntmps94;go_wp2_with fail
  generalize H:World.alloc _ _=W0;have M:=b_1 (w:=w) H (by go_grown);have XA:Hid (Cel W0 w.heap.size (.slice p n c) (.slice p2 D c2)):=a_F H (by simp [go_sem]);have XR:Hid (Cel W0 (w.heap.size+1) (.slice none 0 0) (.slice none 0 0)):=a_F H (by simp [go_sem]);clear H;refine (cA W0 M.out).mono ?_;rintro e w1 ⟨rfl,J⟩;have E:=a_N (a_c M.out J) J;clear J;have xr:=(XR.out.up E.out.2)
  have BF:=a_j (E.out.1) (w.heap.size+1) (by omega) (.slice none 0 0) (.slice none 0 0);have cf:=xr.set (.slice none 0 0) (.slice none 0 0);obtain ⟨r0,r1,r2,r3⟩:=xr;obtain ⟨y0,y1,_,_⟩:=cf;go_wp2;exact bodyPost_ret (v:=.tuple #[.agg #[.slice none 0 0,.slice none 0 0],.int .i64 1]) (by simp [results,Tryz.results94,go_sem,y0,y1]) rfl ⟨_,rfl,TRes.none _ _,BF⟩
theorem d_c (p p2 p3:Option Addr) (n c n2 c2 n3 c3:Nat) (d x d':List Int) (hd:RI d) (R:RI d') (w:World) (h1:Nums .i64 w (.slice p n c) d) (h2:Nums .i64 w (.slice p2 n2 c2) x) (h3:Nums .i64 w (.slice p3 n3 c3) d'):
  Calls Tryz.prog 102 #[.agg #[.slice p n c,.slice p2 n2 c2],.slice p3 n3 c3] w fun e M=>∃ U,e = .returned (.tuple #[U,.int .i64 (j_J d x d')])/\TRes M w.heap.size U (j_K d x d') (l_d d x d')/\Below w.heap.size w M:=by
 have cA:=fun W (V:Below w.heap.size w W)=>a_B _ _ d x hd W (h1.up V) (h2.up V);have cB:=fun W (V:Below w.heap.size w W)=>b_3 _ d' R W (h3.up V);have cZ:=fun W (V:Below w.heap.size w W)=>size_any _ d' R W (h3.up V);have HN:Hid (Nums .i64 w (.slice p n c) d/\Nums .i64 w (.slice p2 n2 c2) x/\Nums .i64 w (.slice p3 n3 c3) d'):=⟨h1,h2,h3⟩
 obtain ⟨_,_,_,e4,HX⟩:=h2.lst;cases e4;unfold j_J j_K l_d;by_cases J:isP d x
 ·rw [decide_eq_true J] at cA;by_cases O:goodN (ntl d')
  ·rw [decide_eq_true O] at cB;rw [b_6 O] at cZ;rw [if_pos ⟨J,O⟩];have aa:x.length<=4096:=by rw [J.2];exact J.1.2.2
   have HP:Hid (isP d x/\goodN (ntl d')/\x.length<=4096):=⟨J,O,aa⟩
   by_cases hN:a_e (ntl d')=x.length
   ·rw [if_pos hN,if_pos ⟨⟨J,O⟩,hN⟩,if_pos ⟨⟨J,O⟩,hN⟩];rw [hN,HX.out.1] at cZ;clear hN h1 h2 h3 hd R J O aa;go_enter Tryz.func102,Tryz.ntmps102;go_wp2_with fail
    generalize D:World.alloc _ _=W0;have I:=b_1 (w:=w) D (by go_grown);have XA:Hid (Cel W0 w.heap.size (.slice p n c) (.slice p2 n2 c2)):=a_F D (by simp [go_sem]);have XR:Hid (Cel W0 (w.heap.size+1) (.slice none 0 0) (.slice none 0 0)):=a_F D (by simp [go_sem]);clear D;refine (cA W0 I.out).mono ?_;rintro e w1 ⟨rfl,H⟩;have E:=a_N (a_c I.out H) H;clear H;go_wp2_with fail
    refine (cB w1 E.out.1).mono ?_;rintro e w2 ⟨rfl,rfl⟩;clear cB;obtain ⟨a0,a1,_,_⟩:=XA.out.up E.out.2;have cz:∀ m,Calls Tryz.prog 76 #[.slice p3 n3 c3] (w2.drewN m) fun e M=>e = .returned (.int .i64 (n2:Int))/\M=w2.drewN m:=fun m=>cZ _ (a_m E.out.1 m);go_wp2_with fail
    go_quiet (exact Calls.quiet_of_same (cz _))
    generalize ah:World.drewN w2 nq=w5;have L:Hid (Below w.heap.size w w5/\Below W0.heap.size W0 w5):=by rw [<- ah];exact ⟨a_m E.out.1 nq,a_m E.out.2 nq⟩
    clear a0 a1 ah;obtain ⟨a0,a1,_,_⟩:=XA.out.up L.out.2
    have aj:∀ W,Below w5.heap.size w5 W->Calls Tryz.prog 64 #[.slice p3 n3 c3] W fun e M=>∃ U,e = .returned U/\OwnK .i64 3 M w5.heap.size U d'/\Below W.heap.size W M:=fun W V=>by
     refine (b_j _ d' (by have:=HP.out.2.1.1;rw [a_Q] at this;omega) W (HN.out.2.2.up (a_c L.out.1 V))).mono ?_;rintro e M ⟨U,rfl,h,hb⟩;exact ⟨U,rfl,h.low V.size,hb⟩
    have ai:∀ W,Below w5.heap.size w5 W->Calls Tryz.prog 80 #[.slice p2 n2 c2] W fun e M=>∃ U,e = .returned U/\OwnK .i64 48 M w5.heap.size U x/\Below W.heap.size W M:=fun W V=>by
     refine (g_i _ x (by have:=HP.out.2.2;omega) W (HN.out.2.1.up (a_c L.out.1 V))).mono ?_;rintro e M ⟨U,rfl,h,hb⟩;exact ⟨U,rfl,h.low V.size,hb⟩
    have z0:=a_a a0;haveI:Nonempty World:=⟨w⟩
    clear cz cZ cA;go_wp2_with fail
    refine rel [⟨1,23,fun v W=>OwnK .i64 3 W w5.heap.size v d'⟩,⟨4,26,fun v W=>OwnK .i64 48 W w5.heap.size v x⟩] 5 28 (by kernel_rfl) rfl rfl (by kernel_rfl) (by rfl) ?_ ?_
    ·intro e he v W W' h hb;simp only [List.mem_cons,List.not_mem_nil,or_false] at he;rcases he with rfl|rfl
     ·exact OwnK.up h hb
     ·exact OwnK.up h hb
    apply Exists.intro;refine ⟨fun x=>?_,?_,?_⟩
    ·simp only [List.take_succ_cons,List.take_zero];refine a_l rfl rfl ?_;apply Exists.intro;refine ⟨fun F hF hf K hK=>?_,?_⟩
     ·have hFc:=hF.cell;have hFf:=hF.frozen
      go_big_quiet_op
      exact hK
     (try simp only [c_K])
     refine a_q rfl rfl ?_ ?_
     ·intro F hF hf d_;have hFc:=hF.cell;have hFf:=hF.frozen;simp [a_k,a_f,go_sem];refine (aj _ (hF.below d_)).mono ?_;rintro e' w8 ⟨v8,rfl,h8,ad⟩;exact ⟨_,rfl,h8,ad⟩
     iterate 2
      (try simp only [c_K])
      refine a_l rfl rfl ?_;apply Exists.intro;refine ⟨fun F hF hf K hK=>?_,?_⟩
      ·have hFc:=hF.cell;have hFf:=hF.frozen
       go_big_quiet_op
       exact hK
     (try simp only [c_K])
     refine a_q rfl rfl ?_ ?_
     ·intro F hF hf d_;have hFc:=hF.cell;have hFf:=hF.frozen;simp [a_k,a_f,go_sem];refine (ai _ (hF.below d_)).mono ?_;rintro e' w8 ⟨v8,rfl,h8,ad⟩;exact ⟨_,rfl,h8,ad⟩
     (try simp only [c_K])
     refine b_c ?_;exact rfl
    ·exact fun x=>rfl
    ·intro w6 xs ag hf;simp only [List.drop_succ_cons,List.drop_zero];have ac:=hf _ List.mem_cons_self;have ab:=hf _ (List.mem_cons_of_mem _ List.mem_cons_self);obtain ⟨fa,af⟩:∃ fa,xs 1=fa:=⟨_,rfl⟩
     obtain ⟨fb,ae⟩:∃ fb,xs 4=fb:=⟨_,rfl⟩
     simp only [af,ae] at ac ab ⊢;clear af ae hf;obtain ⟨pa,na,ca,rfl,_⟩:=ac.nums.lst;obtain ⟨pb,nb,cb,rfl,_⟩:=ab.nums.lst
     have HF:Hid (TRes (set2 w6 (w.heap.size+1) (.slice pa na ca) (.slice pb nb cb)) w.heap.size (.agg #[.slice pa na ca,.slice pb nb cb]) d' x/\Below w.heap.size w (set2 w6 (w.heap.size+1) (.slice pa na ca) (.slice pb nb cb))):=by
      exact ⟨(TRes.set ac ab (Nat.lt_of_lt_of_le (a_a XR.out.1) L.out.2.size)).low L.out.1.size,a_j (a_c L.out.1 ag) _ (by omega) _ _⟩
     clear ac ab a0 a1 z0;have xr:=(XR.out.up (a_c L.out.2 ag))
     have cf:=xr.set (.slice pa na ca) (.slice pb nb cb);obtain ⟨r0,r1,r2,r3⟩:=xr;obtain ⟨y0,y1,_,_⟩:=cf;go_wp2;exact bodyPost_ret (v:=.tuple #[.agg #[.slice pa na ca,.slice pb nb cb],.int .i64 0]) (by simp [results,Tryz.results102,go_sem,y0,y1]) rfl ⟨_,rfl,HF.out⟩
   ·rw [if_neg hN,if_neg (fun h=>hN h.2),if_neg (fun h=>hN h.2)];obtain ⟨N,eN⟩:∃ N,a_e (ntl d')=N:=⟨_,rfl⟩
    rw [eN] at cZ hN;rw [HX.out.1] at hN;have am:((N:Int) != (n2:Int))=true:=by simp;omega
    have ak:¬ ((N:Int)=(n2:Int)):=by omega
    clear eN h1 h2 h3 hd R J O aa hN;go_enter Tryz.func102,Tryz.ntmps102;go_wp2_with fail
    generalize D:World.alloc _ _=W0;have I:=b_1 (w:=w) D (by go_grown);have XA:Hid (Cel W0 w.heap.size (.slice p n c) (.slice p2 n2 c2)):=a_F D (by simp [go_sem]);have XR:Hid (Cel W0 (w.heap.size+1) (.slice none 0 0) (.slice none 0 0)):=a_F D (by simp [go_sem]);clear D;refine (cA W0 I.out).mono ?_;rintro e w1 ⟨rfl,H⟩;have E:=a_N (a_c I.out H) H;clear H;go_wp2_with fail
    refine (cB w1 E.out.1).mono ?_;rintro e w2 ⟨rfl,rfl⟩;clear cB;obtain ⟨a0,a1,_,_⟩:=XA.out.up E.out.2;have cz:∀ m,Calls Tryz.prog 76 #[.slice p3 n3 c3] (w2.drewN m) fun e M=>e = .returned (.int .i64 (N:Int))/\M=w2.drewN m:=fun m=>cZ _ (a_m E.out.1 m);go_wp2_with fail
    go_quiet (exact Calls.quiet_of_same (cz _))
    clear cz a0 a1;have xr:=(XR.out.up (a_m E.out.2 nq))
    have BF:=a_j (a_m E.out.1 nq) (w.heap.size+1) (by omega) (.slice none 0 0) (.slice none 0 0);have cf:=xr.set (.slice none 0 0) (.slice none 0 0);obtain ⟨r0,r1,r2,r3⟩:=xr;obtain ⟨y0,y1,_,_⟩:=cf;go_wp2;exact bodyPost_ret (v:=.tuple #[.agg #[.slice none 0 0,.slice none 0 0],.int .i64 4]) (by simp [results,Tryz.results102,go_sem,y0,y1]) rfl ⟨_,rfl,TRes.none _ _,BF⟩
  ·rw [decide_eq_false O] at cB;rw [if_neg (fun h=>O h.2),if_neg (fun h=>O h.1.2),if_neg (fun h=>O h.1.2)];clear h1 h2 h3 hd R J O cZ;go_enter Tryz.func102,Tryz.ntmps102;go_wp2_with fail
   generalize D:World.alloc _ _=W0;have I:=b_1 (w:=w) D (by go_grown);have XA:Hid (Cel W0 w.heap.size (.slice p n c) (.slice p2 n2 c2)):=a_F D (by simp [go_sem]);have XR:Hid (Cel W0 (w.heap.size+1) (.slice none 0 0) (.slice none 0 0)):=a_F D (by simp [go_sem]);clear D;refine (cA W0 I.out).mono ?_;rintro e w1 ⟨rfl,H⟩;have E:=a_N (a_c I.out H) H;clear H;go_wp2_with fail
   refine (cB w1 E.out.1).mono ?_;rintro e w2 ⟨rfl,rfl⟩;have xr:=(XR.out.up E.out.2)
   have BF:=a_j (E.out.1) (w.heap.size+1) (by omega) (.slice none 0 0) (.slice none 0 0);have cf:=xr.set (.slice none 0 0) (.slice none 0 0);obtain ⟨r0,r1,r2,r3⟩:=xr;obtain ⟨y0,y1,_,_⟩:=cf;go_wp2;exact bodyPost_ret (v:=.tuple #[.agg #[.slice none 0 0,.slice none 0 0],.int .i64 1]) (by simp [results,Tryz.results102,go_sem,y0,y1]) rfl ⟨_,rfl,TRes.none _ _,BF⟩
 ·rw [decide_eq_false J] at cA;rw [if_neg (fun h=>J h.1),if_neg (fun h=>J h.1.1),if_neg (fun h=>J h.1.1)];clear h1 h2 h3 hd R J cZ cB;go_enter Tryz.func102,Tryz.ntmps102;go_wp2_with fail
  generalize D:World.alloc _ _=W0;have I:=b_1 (w:=w) D (by go_grown);have XA:Hid (Cel W0 w.heap.size (.slice p n c) (.slice p2 n2 c2)):=a_F D (by simp [go_sem]);have XR:Hid (Cel W0 (w.heap.size+1) (.slice none 0 0) (.slice none 0 0)):=a_F D (by simp [go_sem]);clear D;refine (cA W0 I.out).mono ?_;rintro e w1 ⟨rfl,H⟩;have E:=a_N (a_c I.out H) H;clear H;have xr:=(XR.out.up E.out.2)
  have BF:=a_j (E.out.1) (w.heap.size+1) (by omega) (.slice none 0 0) (.slice none 0 0);have cf:=xr.set (.slice none 0 0) (.slice none 0 0);obtain ⟨r0,r1,r2,r3⟩:=xr;obtain ⟨y0,y1,_,_⟩:=cf;go_wp2;exact bodyPost_ret (v:=.tuple #[.agg #[.slice none 0 0,.slice none 0 0],.int .i64 1]) (by simp [results,Tryz.results102,go_sem,y0,y1]) rfl ⟨_,rfl,TRes.none _ _,BF⟩
end Go.Proofs.YtcpbhhlepdgdkaaGreatDoor.Wd
namespace Go.Proofs.YtcpbhhlepdgdkaaGreatDoor.Wd
open Go.RowKit Fx
/-- Two words that stand for a number. -/
def wd (v:Int):Value:=.agg #[.int .i64 (v / 18446744073709551616),.int .u64 (v % 18446744073709551616)]
def InW (v:Int):Prop:=-170141183460469231731687303715884105728<=v/\v < 170141183460469231731687303715884105728
def wr (v:Int):Int:=(v+170141183460469231731687303715884105728) % 340282366920938463463374607431768211456 - 170141183460469231731687303715884105728
theorem d_d (v:Int):InW (wr v):=by unfold InW wr;omega
theorem n_7 {v:Int} (h:InW v):wr v=v:=by unfold InW at h;unfold wr;omega
theorem j_L (a b:Int):wr (wr a+b)=wr (a+b):=by unfold wr;omega
theorem l_N (a b:Int):wr (a+wr b)=wr (a+b):=by unfold wr;omega
theorem InR.w {a:Int} (h:InR a):InW a:=by unfold InR at h;unfold InW;omega
theorem s_X (h l:Int) (H:0<=l/\l < 18446744073709551616):Value.agg #[.int .i64 h,.int .u64 l]=wd (h*18446744073709551616+l):=by
 unfold wd;have D:(h*18446744073709551616+l) / 18446744073709551616=h:=by omega
 have E:(h*18446744073709551616+l) % 18446744073709551616=l:=by omega
 rw [D,E]
theorem k_E {h l v:Int} (D:h=v / 18446744073709551616) (E:l=v % 18446744073709551616):Value.agg #[.int .i64 h,.int .u64 l]=wd v:=by
 subst D E;rfl
theorem r_E {h l v:Int} (D:h=v / 18446744073709551616) (E:l=v % 18446744073709551616):Ending.returned (.agg #[.int .i64 h,.int .u64 l]) = .returned (wd v):=by
 rw [k_E D E]
/-- A quotient, rounded: to the nearest, of two that are as near to the even one; on both sides of 0. -/
def rqI (x d:Int):Int:=if d < 2*(x % d)∨(2*(x % d)=d/\x / d % 2=1) then x / d+1 else x / d
theorem q_e (x d:Int) (E:0 < d):rqI (-x) d = -rqI x d:=by
 obtain ⟨q,H⟩:∃ q,x / d=q:=⟨_,rfl⟩
 obtain ⟨r,D⟩:∃ r,x % d=r:=⟨_,rfl⟩
 have L:0<=r:=D ▸ Int.emod_nonneg x (by omega);have M:r < d:=D ▸ Int.emod_lt_of_pos x E;have I:d*q+r=x:=by rw [<- H,<- D];exact Int.mul_ediv_add_emod x d
 by_cases J:r=0
 ·have e:(-x) / d = -q/\(-x) % d=0:=by
   rw [Int.ediv_emod_unique E];refine ⟨?_,by omega,E⟩;rw [<- I,J,Int.mul_neg];omega
  unfold rqI;rw [e.1,e.2,H,D,J]
  split <;> split <;> omega
 ·have e:(-x) / d = -q - 1/\(-x) % d=d - r:=by
   rw [Int.ediv_emod_unique E];refine ⟨?_,by omega,by omega⟩;rw [<- I,Int.mul_sub,Int.mul_neg];omega
  unfold rqI;rw [e.1,e.2,H,D]
  split <;> split <;> omega
theorem i_B (x d:Nat):rqI (x:Int) (d:Int)=((rq x d:Nat):Int):=by
 unfold rqI rq;have D:(x:Int) % d=((x % d:Nat):Int):=by omega
 have E:(x:Int) / d=((x / d:Nat):Int):=by omega
 rw [D,E]
 split <;> split <;> omega
theorem r_F (s:Bool) (x d:Nat) (D:0 < d):rqI (sg s x) d=sg s (rq x d):=by
 cases s
 ·exact i_B x d
 ·show rqI (-(x:Int)) d = -((rq x d:Nat):Int);rw [q_e _ _ (by omega),i_B]
theorem dd (x:Int) {p q:Int} (D:0 < p):x / p / q=x / (p*q):=by
 rw [Int.ediv_ediv,if_neg (fun c=>by omega),Int.sub_zero]
theorem j_M (x p:Int) (E:0 < p):x % (p*2)=x % p+p*(x / p % 2):=by
 have I:=Int.mul_ediv_add_emod x p;have H:=Int.mul_ediv_add_emod x (p*2);have D:=Int.mul_ediv_add_emod (x / p) 2;rw [dd x E] at D;rw [Int.mul_assoc] at H;have:p*(x / p)=p*(2*(x / (p*2)))+p*(x / p % 2):=by rw [<- Int.mul_add,D]
 omega
/-- Rounding towards the lower one, then the half's bit, then what is below. -/
theorem q_f (x:Int) (k:Nat) (hb:x / 2 ^ k % 2=0):rqI x (2 ^ (k+1))=x / 2 ^ (k+1):=by
 obtain ⟨p,D⟩:∃ p:Int,(2:Int) ^ k=p:=⟨_,rfl⟩
 have E:0 < p:=D ▸ Int.pow_pos (by decide);have H:(2:Int) ^ (k+1)=p*2:=by rw [Int.pow_succ,D]
 rw [D] at hb;have I:x % (p*2)=x % p+p*(x / p % 2):=j_M x p E;unfold rqI;rw [H,I,hb];have:=Int.emod_lt_of_pos x E;have:=Int.emod_nonneg x (show p≠0 by omega);rw [if_neg];omega
theorem s_Y (x:Int) (k:Nat) (hb:x / 2 ^ k % 2=1):rqI x (2 ^ (k+1))=x / 2 ^ (k+1)+(if x / 2 ^ (k+1) % 2=1∨x % 2 ^ k≠0 then 1 else 0):=by
 obtain ⟨p,D⟩:∃ p:Int,(2:Int) ^ k=p:=⟨_,rfl⟩
 have E:0 < p:=D ▸ Int.pow_pos (by decide);have H:(2:Int) ^ (k+1)=p*2:=by rw [Int.pow_succ,D]
 rw [D] at hb ⊢;have I:x % (p*2)=x % p+p*(x / p % 2):=j_M x p E;unfold rqI;rw [H,I,hb];have:=Int.emod_lt_of_pos x E;have:=Int.emod_nonneg x (show p≠0 by omega)
 split <;> split <;> omega
/-- The lower one, in its words. -/
theorem s_Z (a:Int) (n:Nat):a / 2 ^ n / 18446744073709551616=a / 18446744073709551616 / 2 ^ n:=by
 rw [dd a (Int.pow_pos (by decide)),dd a (by decide),Int.mul_comm]
theorem r_G (a:Int) (n:Nat) (h:64<=n):a / 2 ^ n=a / 18446744073709551616 / 2 ^ (n - 64):=by
 rw [dd a (by decide),show (18446744073709551616:Int)=2 ^ 64 by decide,<- Int.pow_add,show 64+(n - 64)=n by omega]
theorem r_H (x y:Nat) (J:x < 18446744073709551616) (I:y < 18446744073709551616):bits .or .u64 (x:Int) (y:Int)=((x ||| y:Nat):Int):=by
 show IntKind.u64.wrap ((BitVec.ofInt 64 (x:Int) ||| BitVec.ofInt 64 (y:Int)).toNat:Int)=_
 have E:(BitVec.ofInt 64 (x:Int)).toNat=x:=by
  rw [BitVec.ofInt_natCast,BitVec.toNat_ofNat];exact Nat.mod_eq_of_lt (by omega)
 have D:(BitVec.ofInt 64 (y:Int)).toNat=y:=by
  rw [BitVec.ofInt_natCast,BitVec.toNat_ofNat];exact Nat.mod_eq_of_lt (by omega)
 have H:x ||| y < 2 ^ 64:=Nat.or_lt_two_pow (by omega) (by omega);rw [BitVec.toNat_or,E,D,IntKind.wrap_u64];omega
theorem n_8 (x y:Int) (i:Nat) (M:i<=64) (J:0<=x) (D:x*2 ^ i < 18446744073709551616) (L:0<=y) (E:y < 2 ^ i):bits .or .u64 (x*2 ^ i) y=x*2 ^ i+y:=by
 obtain ⟨m,rfl⟩:=Int.eq_ofNat_of_zero_le J;obtain ⟨l,rfl⟩:=Int.eq_ofNat_of_zero_le L;have e:((m:Int)*2 ^ i)=((m*2 ^ i:Nat):Int):=by rw [Int.natCast_mul,Int.natCast_pow];rfl
 have H:l < 2 ^ i:=by
  have:((l:Nat):Int) < ((2 ^ i:Nat):Int):=by rw [Int.natCast_pow];exact E
  omega
 have I:2 ^ i<=2 ^ 64:=Nat.pow_le_pow_right (by decide) M;rw [e] at D ⊢;rw [r_H _ _ (by omega) (by omega),<- Nat.shiftLeft_eq,<- Nat.shiftLeft_add_eq_or_of_lt H];omega
theorem s_0 (h l:Int) (n:Nat) (hn:n < 64) (L:0<=l/\l < 18446744073709551616):
  bits .or .u64 (h*2 ^ (64 - n) % 18446744073709551616) (l / 2 ^ n)=(h*18446744073709551616+l) / 2 ^ n % 18446744073709551616:=by
 obtain ⟨p,H⟩:∃ p:Int,(2:Int) ^ n=p:=⟨_,rfl⟩
 obtain ⟨c,E⟩:∃ c:Int,(2:Int) ^ (64 - n)=c:=⟨_,rfl⟩
 have I:0 < p:=H ▸ Int.pow_pos (by decide);have V:0 < c:=E ▸ Int.pow_pos (by decide);have D:c*p=18446744073709551616:=by rw [<- H,<- E,<- Int.pow_add,show 64 - n+n=64 by omega];rfl
 have R:h*2 ^ (64 - n) % 18446744073709551616=(h % p)*2 ^ (64 - n):=by
  rw [E,<- D,Int.mul_comm c p,Int.mul_comm h c,Int.mul_comm p c,Int.mul_emod_mul_of_pos _ _ V,Int.mul_comm]
 have J:=Int.emod_nonneg h (show p≠0 by omega);have r1:=Int.emod_lt_of_pos h I;have M:0<=l / p:=Int.ediv_nonneg L.1 (by omega);have q1:l / p < c:=Int.ediv_lt_of_lt_mul I (by rw [D];exact L.2)
 have U:(h % p)*c < 18446744073709551616:=by
  have:(h % p+1)*c<=p*c:=Int.mul_le_mul_of_nonneg_right (by omega) (by omega);rw [Int.mul_comm p c,D,Int.add_mul] at this;omega
 rw [R,n_8 _ _ _ (by omega) J (by rw [E];exact U) (by rw [H];exact M) (by rw [E,H];exact q1),E,H]
 have O:(h*18446744073709551616+l) / p=h*c+l / p:=by
  rw [<- D,<- Int.mul_assoc,Int.add_comm,Int.add_mul_ediv_right _ _ (by omega),Int.add_comm]
 have e2:h*c=(h / p)*18446744073709551616+(h % p)*c:=by
  have:=Int.mul_ediv_add_emod h p
  conv=>lhs;rw [<- this]
  rw [<- D,Int.add_mul,Int.mul_comm p (h / p),Int.mul_assoc,Int.mul_comm p c]
 rw [O,e2];have m2:0<=(h % p)*c:=Int.mul_nonneg J (by omega)
 have m3:(h % p)*c+l / p < 18446744073709551616:=by
  have:(h % p+1)*c<=p*c:=Int.mul_le_mul_of_nonneg_right (by omega) (by omega);rw [Int.mul_comm p c,D,Int.add_mul] at this;omega
 omega
/-- How many of the lowest bits are 0. -/
theorem p_j (x k:Nat) (I:0 < x) (h:x < 18446744073709551616):Lib.ctz 64 x < k↔x % 2 ^ k≠0:=by
 obtain ⟨m,e,M⟩:=Lib.ctzFrom_spec 64 x I (by omega);have J:Lib.ctz 64 x=Lib.ctzFrom 64 x:=by unfold Lib.ctz;rw [if_neg (by omega)]
 rw [J];obtain ⟨z,H⟩:∃ z,Lib.ctzFrom 64 x=z:=⟨_,rfl⟩
 rw [H] at e ⊢;constructor
 ·intro L D;obtain ⟨q,E⟩:=Nat.dvd_of_mod_eq_zero D
  have:2 ^ k=2 ^ z*(2*2 ^ (k - z - 1)):=by
   rw [<- Nat.pow_succ',<- Nat.pow_add];congr 1;omega
  rw [this,Nat.mul_assoc] at E;rw [E] at e;have:=Nat.eq_of_mul_eq_mul_left (Nat.two_pow_pos z) e;rw [Nat.mul_assoc] at this;omega
 ·intro D;apply Classical.byContradiction;intro L;apply D;rw [e,show z=k+(z - k) by omega,Nat.pow_add,Nat.mul_assoc];exact Nat.mul_mod_right ..
theorem f_z {B:Nat} {W D:World} (hb:Below B W D):(∀ b o,b < B->D.cell? ⟨b,o,none⟩=W.cell? ⟨b,o,none⟩)/\(∀ b o,b < B->D.frozen? ⟨b,o,none⟩=W.frozen? ⟨b,o,none⟩):=
 ⟨fun b o h=>hb.cell (p:=⟨b,o,none⟩) h,fun b o h=>hb.frozen (p:=⟨b,o,none⟩) h⟩
theorem b_p {W:World} {p:Addr} {x v:Value} (h:W.cell? p=some v):(W.setCell p x).cell? p=some x:=World.cell?_setCell_same _ _ _ h
theorem a_w {W:World} {b i j:Nat} {x:Value} (D:j≠i):(W.setCell ⟨b,i,none⟩ x).cell? ⟨b,j,none⟩=W.cell? ⟨b,j,none⟩:=World.cell?_setCell_other _ _ _ _ (by simp;try omega)
theorem two (W:World) (b:Nat) (D E:Value) {y0 y1:Value} (H:W.cell? ⟨b,0,none⟩=some y0) (I:W.cell? ⟨b,1,none⟩=some y1):
  ((W.setCell ⟨b,0,none⟩ D).setCell ⟨b,1,none⟩ E).cell? ⟨b,0,none⟩=some D/\((W.setCell ⟨b,0,none⟩ D).setCell ⟨b,1,none⟩ E).cell? ⟨b,1,none⟩=some E:=by
 refine ⟨?_,?_⟩
 ·rw [a_w (by omega)];exact b_p H
 ·exact b_p (by rw [a_w (by omega)];exact I)
theorem ret_int {k:IntKind} {a b:Int} (h:a=b):Ending.returned (.int k a) = .returned (.int k b):=by rw [h]
/-- The two words of a number. -/
theorem words {v:Int} (D:InW v):∃ h l:Int,wd v = .agg #[.int .i64 h,.int .u64 l]/\-9223372036854775808<=h/\h<=9223372036854775807/\0<=l/\l<=18446744073709551615/\Hid (v=h*18446744073709551616+l):=by
 refine ⟨_,_,rfl,?_⟩;unfold InW at D;refine ⟨by omega,by omega,by omega,by omega,show _=_ by omega⟩
theorem of_any (n:Int) (D:InR n) (w:World):
  Calls Tryz.prog 19 #[.int .i64 n] w fun e E=>e = .returned (wd n)/\Below w.heap.size w E:=by
 obtain ⟨h,l,e,M,L,J,I,H⟩:=words (InR.w D);rw [e];unfold InR at D;go_enter Tryz.func19,Tryz.ntmps19;go_wp2;refine bodyPost_ret (v:=.agg #[.int .i64 h,.int .u64 l]) ?_ rfl ⟨rfl,by go_grown⟩;have:=H.out;simp [results,Tryz.results19,go_sem]
 try simp only [IntKind.wrap_u64,wrap64]
 constructor <;> omega
theorem s_1 (x y:Int) (E:0<=x) (D:0<=y) (w:World):(callFunc 20 #[.int .u64 x,.int .u64 y,.int .u64 0]).run Tryz.prog w =
  .ok (.value (.tuple #[.int .u64 ((x+y) % 18446744073709551616),.int .u64 ((x+y) / 18446744073709551616)])) w:=by
 obtain ⟨x,rfl⟩:=Int.eq_ofNat_of_zero_le E;obtain ⟨y,rfl⟩:=Int.eq_ofNat_of_zero_le D;rw [run_callFunc_extern Tryz.func20 (by kernel_rfl) (by kernel_rfl) (by kernel_rfl) (e:=add64Entry) (by kernel_rfl)];refine (congrArg (fun r=>Result.andThen r _) (run_add64 (x:Int) (y:Int) 0 (by omega) (by omega) (by omega) (by omega) w)).trans ?_;simp only [Result.andThen]
 congr 5 <;> omega
theorem s_2 (x y:Int) (E:0<=x) (D:0<=y) (H:y<=18446744073709551615) (w:World):(callFunc 186 #[.int .u64 x,.int .u64 y,.int .u64 0]).run Tryz.prog w =
  .ok (.value (.tuple #[.int .u64 ((x+18446744073709551616 - y) % 18446744073709551616),.int .u64 (if x < y then 1 else 0)])) w:=by
 obtain ⟨x,rfl⟩:=Int.eq_ofNat_of_zero_le E;obtain ⟨y,rfl⟩:=Int.eq_ofNat_of_zero_le D;rw [run_callFunc_extern Tryz.func186 (by kernel_rfl) (by kernel_rfl) (by kernel_rfl) (e:=sub64Entry) (by kernel_rfl)];refine (congrArg (fun r=>Result.andThen r _) (run_sub64 x y 0 (by omega) w)).trans ?_;simp only [Result.andThen]
 congr 5
 ·have:((x+18446744073709551616 - y - 0:Nat):Int)=(x:Int)+18446744073709551616 - y:=by omega
  rw [<- this];rfl
 ·by_cases h:x < y
  ·rw [if_pos (by omega),if_pos (by omega)];rfl
  ·rw [if_neg (by omega),if_neg (by omega)];rfl
theorem add_any (a b:Int) (E:InW a) (hb:InW b) (w:World):
  Calls Tryz.prog 11 #[wd a,wd b] w fun e R=>e = .returned (wd (wr (a+b)))/\Below w.heap.size w R:=by
 obtain ⟨ah,al,D,a1,a2,M,a4,U⟩:=words E;obtain ⟨bh,O,J,b1,b2,L,b4,I⟩:=words hb;obtain ⟨h,l,e,h1,h2,l1,V,H⟩:=words (d_d (a+b));rw [D,J,e];go_enter Tryz.func11,Tryz.ntmps11;go_wp2_with (simp only [s_1 al O M L])
 refine bodyPost_ret (v:=.agg #[.int .i64 h,.int .u64 l]) ?_ rfl ⟨rfl,by go_grown⟩;have:=U.out;have:=I.out;have:=H.out;simp [results,Tryz.results11,go_sem]
 try simp only [IntKind.wrap_u64,wrap64]
 unfold wr at *;constructor <;> omega
theorem sub_any (a b:Int) (R:InW a) (hb:InW b) (w:World):
  Calls Tryz.prog 183 #[wd a,wd b] w fun e w'=>e = .returned (wd (wr (a - b)))/\Below w.heap.size w w':=by
 obtain ⟨ah,al,O,a1,a2,a3,a4,Ha⟩:=words R;obtain ⟨bh,E,eb,b1,b2,V,U,Hb⟩:=words hb;obtain ⟨h,l,e,h1,h2,l1,l2,H⟩:=words (d_d (a - b));rw [O,eb,e];have M:=s_2 al E a3 V U;obtain ⟨D,J⟩:∃ D:Int,(if al < E then 1 else 0)=D:=⟨_,rfl⟩
 rw [J] at M;have I:(al < E/\D=1)∨(E<=al/\D=0):=by rw [<- J];split <;> omega
 have L:Hid ((al < E/\D=1)∨(E<=al/\D=0)):=I;have aa:0<=D/\D<=1:=by omega
 clear I J;go_enter Tryz.func183,Tryz.ntmps183;go_wp2_with (simp only [M])
 refine bodyPost_ret (v:=.agg #[.int .i64 h,.int .u64 l]) ?_ rfl ⟨rfl,by go_grown⟩;have:=Ha.out;have:=Hb.out;have:=H.out;have:=L.out;simp [results,Tryz.results183,go_sem]
 try simp only [IntKind.wrap_u64,wrap64]
 unfold wr at *;constructor <;> omega
theorem neg_any (a:Int) (M:InW a) (w:World):
  Calls Tryz.prog 179 #[wd a] w fun e J=>e = .returned (wd (wr (-a)))/\Below w.heap.size w J:=by
 obtain ⟨R,al,E,a1,a2,a3,a4,Ha⟩:=words M;obtain ⟨h,l,e,h1,h2,l1,l2,H⟩:=words (d_d (-a))
 have V:∀ W:World,Calls Tryz.prog 183 #[.agg #[.int .i64 0,.int .u64 0],.agg #[.int .i64 R,.int .u64 al]] W fun e J=>e = .returned (.agg #[.int .i64 h,.int .u64 l])/\Below W.heap.size W J:=by
  intro W;have:=sub_any 0 a (by unfold InW;omega) M W;rw [Int.zero_sub,e,E] at this;exact this
 rw [E,e];clear E e;go_enter Tryz.func179,Tryz.ntmps179;go_wp2_with fail
 refine (V _).mono ?_;rintro e' O ⟨rfl,hb⟩;obtain ⟨D,I⟩:=f_z hb;have hB:Below w.heap.size w O:=Below.trans (by go_grown) (hb.mono (by simp;try omega));have L:=hb.size;simp at L;go_wp2;obtain ⟨U,f1⟩:=two O (w.heap.size+1) (.int .i64 h) (.int .u64 l) (by rw [D _ _ (by simp)];simp [go_sem];rfl) (by rw [D _ _ (by simp)];simp [go_sem];rfl);refine bodyPost_ret (v:=.agg #[.int .i64 h,.int .u64 l]) (by simp [results,Tryz.results179,go_sem,U,f1]) rfl ⟨rfl,by go_grown⟩
theorem bound_any (b:Bool) (w:World):
  Calls Tryz.prog 167 #[.bool b] w fun e D=>e = .returned (.int .i64 (lim b))/\D=w:=by
 cases b
 all_goals
  go_enter Tryz.func167,Tryz.ntmps167;go_wp2;go_ret;exact ⟨rfl,rfl⟩
theorem f_A (a n:Int) (E:InR a) (D:(a.natAbs:Int)=n) (w:World):
  Calls Tryz.prog 170 #[.int .i64 a] w fun e I=>e = .returned (.int .u64 n)/\I=w:=by
 unfold InR at E;have H:Hid ((a.natAbs:Int)=n):=D;clear D;by_cases h:a < 0
 all_goals
  go_enter Tryz.func170,Tryz.ntmps170;go_wp2;go_ret;refine ⟨ret_int ?_,rfl⟩;have D:=H.out
  try simp only [IntKind.wrap_u64]
  omega
theorem e_x (b:Bool) (a:Int) (O:InW a) (w:World):
  Calls Tryz.prog 169 #[.bool b,wd a] w fun e J=>e = .returned (wd (if b then wr (-a) else a))/\Below w.heap.size w J:=by
 obtain ⟨M,al,E,a1,a2,a3,a4,Ha⟩:=words O;cases b
 ·simp only [Bool.false_eq_true,if_false];rw [E];clear E;go_enter Tryz.func169,Tryz.ntmps169;go_wp2;exact bodyPost_ret (v:=.agg #[.int .i64 M,.int .u64 al]) (by simp [results,Tryz.results169,go_sem]) rfl ⟨rfl,by go_grown⟩
 ·simp only [if_true];obtain ⟨h,l,e,h1,h2,l1,l2,H⟩:=words (d_d (-a))
  have V:∀ W:World,Calls Tryz.prog 179 #[.agg #[.int .i64 M,.int .u64 al]] W fun e J=>e = .returned (.agg #[.int .i64 h,.int .u64 l])/\Below W.heap.size W J:=by
   intro W;have:=neg_any a O W;rw [e,E] at this;exact this
  rw [E,e];clear E e;go_enter Tryz.func169,Tryz.ntmps169;go_wp2_with fail
  refine (V _).mono ?_;rintro e' R ⟨rfl,hb⟩;obtain ⟨D,I⟩:=f_z hb;have hB:Below w.heap.size w R:=Below.trans (by go_grown) (hb.mono (by simp;try omega));have L:=hb.size;simp at L;go_wp2;obtain ⟨U,f1⟩:=two R (w.heap.size+1) (.int .i64 h) (.int .u64 l) (by rw [D _ _ (by simp)];simp [go_sem];rfl) (by rw [D _ _ (by simp)];simp [go_sem];rfl);refine bodyPost_ret (v:=.agg #[.int .i64 h,.int .u64 l]) (by simp [results,Tryz.results169,go_sem,U,f1]) rfl ⟨rfl,by go_grown⟩
theorem l_O (a b:Int):a*b=sg (Fx.differ a b) (a.natAbs*b.natAbs):=by
 unfold sg Fx.differ;rw [<- Int.natAbs_mul];have E:0<=a->0<=b->0<=a*b:=Int.mul_nonneg;have M:a < 0->b < 0->0<=a*b:=fun h D=>Int.mul_nonneg_of_nonpos_of_nonpos (by omega) (by omega);have L:a < 0->0<=b->a*b<=0:=fun h D=>Int.mul_nonpos_of_nonpos_of_nonneg (by omega) D;have J:0<=a->b < 0->a*b<=0:=fun h D=>Int.mul_nonpos_of_nonneg_of_nonpos h (by omega);by_cases I:a < 0 <;> by_cases H:b < 0 <;> simp [I,H] <;> omega
theorem l_P (a b:Int) (D:InR a) (hb:InR b):a.natAbs*b.natAbs<=85070591730234615865843651857942052864:=by
 unfold InR at *
 calc a.natAbs*b.natAbs<=9223372036854775808*9223372036854775808:=Nat.mul_le_mul (by omega) (by omega)
  _=_:=by decide
theorem n_9 (a b:Int) (R:InR a) (hb:InR b) (w:World):
  Calls Tryz.prog 166 #[.int .i64 a,.int .i64 b] w fun e I=>e = .returned (wd (a*b))/\Below w.heap.size w I:=by
 have hp:=l_P a b R hb;have E:=l_O a b;obtain ⟨m,V⟩:∃ m,a.natAbs*b.natAbs=m:=⟨_,rfl⟩
 rw [V] at hp E;obtain ⟨x,J,L,hx,h1,l1⟩:∃ x J L:Int,x=(m:Int)/\J=x / 18446744073709551616/\L=x % 18446744073709551616:=⟨_,_,_,rfl,rfl,rfl⟩
 have hw:InW x:=by unfold InW;omega
 have e0:Value.agg #[.int .i64 J,.int .u64 L]=wd x:=by rw [h1,l1];rfl
 have O:InW (a*b):=by rw [E];unfold InW sg;split <;> omega
 obtain ⟨h,l,e,g1,g2,g3,g4,H⟩:=words O
 have hm:∀ W:World,Calls Tryz.prog 119 #[.int .u64 (a.natAbs:Int),.int .u64 (b.natAbs:Int)] W fun e I=>e = .returned (.tuple #[.int .u64 J,.int .u64 L])/\I=W:=by
  intro W;have:=Tryz.bits_Mul64 a.natAbs b.natAbs (by unfold InR at R;omega) (by unfold InR at hb;omega) W;rw [V] at this;have q1:((m / 18446744073709551616:Nat):Int)=J:=by omega
  have q2:((m % 18446744073709551616:Nat):Int)=L:=by omega
  rw [q1,q2] at this;exact this
 have hs:∀ W:World,Calls Tryz.prog 169 #[.bool (Fx.differ a b),.agg #[.int .i64 J,.int .u64 L]] W fun e I=>e = .returned (.agg #[.int .i64 h,.int .u64 l])/\Below W.heap.size W I:=by
  intro W;have:=e_x (Fx.differ a b) x hw W
  have e2:(if Fx.differ a b then wr (-x) else x)=a*b:=by
   rw [E];unfold sg
   split
   ·unfold wr;omega
   ·omega
  rw [e2,e,<- e0] at this;exact this
 have b1:0<=J/\J<=4611686018427387904:=by omega
 have b2:0<=L/\L<=18446744073709551615:=by omega
 obtain ⟨p,ep⟩:∃ p:Int,(a.natAbs:Int)=p:=⟨_,rfl⟩
 obtain ⟨q,eq⟩:∃ q:Int,(b.natAbs:Int)=q:=⟨_,rfl⟩
 have ca:∀ W:World,Calls Tryz.prog 170 #[.int .i64 a] W fun e I=>e = .returned (.int .u64 p)/\I=W:=fun W=>f_A a p R ep W;have cb:∀ W:World,Calls Tryz.prog 170 #[.int .i64 b] W fun e I=>e = .returned (.int .u64 q)/\I=W:=fun W=>f_A b q hb eq W;rw [ep,eq] at hm;unfold InR at R hb;have p1:0<=p/\p<=9223372036854775808:=by omega
 have q1:0<=q/\q<=9223372036854775808:=by omega
 rw [e];clear e e0 O hw hx h1 l1 hp E V H ep eq;unfold Fx.differ at hs;go_enter Tryz.func166,Tryz.ntmps166;go_wp2_with fail
 refine (ca _).mono ?_;rintro e' M ⟨rfl,rfl⟩;go_wp2_with fail
 refine (cb _).mono ?_;rintro e' M ⟨rfl,rfl⟩;go_wp2_with fail
 refine (hm _).mono ?_;rintro e' M ⟨rfl,rfl⟩;go_wp2_with fail
 refine (hs _).mono ?_;rintro e' M ⟨rfl,hb⟩;obtain ⟨D,U⟩:=f_z hb;have hB:Below w.heap.size w M:=Below.trans (by go_grown) (hb.mono (by simp;try omega));have aa:=hb.size;simp at aa;go_wp2;obtain ⟨f0,f1⟩:=two M w.heap.size (.int .i64 h) (.int .u64 l) (by rw [D _ _ (by simp)];simp [go_sem];rfl) (by rw [D _ _ (by simp)];simp [go_sem];rfl);refine bodyPost_ret (v:=.agg #[.int .i64 h,.int .u64 l]) (by simp [results,Tryz.results166,go_sem,f0,f1]) rfl ⟨rfl,by go_grown⟩
theorem o_a (x:Int):InR (IntKind.i64.wrap x):=by unfold InR;rw [IntKind.wrap_i64];omega
theorem s_3 (al:Int) (E:0<=al/\al<=18446744073709551615) (W:World):Calls Tryz.prog 19 #[.int .i64 (IntKind.i64.wrap al)] W fun e D=>e = .returned (.agg #[.int .i64 (if al < 9223372036854775808 then 0 else -1),.int .u64 al])/\Below W.heap.size W D:=by
 have:=of_any (IntKind.i64.wrap al) (o_a al) W
 have e:wd (IntKind.i64.wrap al) = .agg #[.int .i64 (if al < 9223372036854775808 then 0 else -1),.int .u64 al]:=by
  refine (k_E ?_ ?_).symm
  ·rw [IntKind.wrap_i64];split <;> omega
  ·rw [IntKind.wrap_i64];omega
 rw [e] at this;exact this
theorem e_y (a:Int) (V:InW a) (w:World):
  Calls Tryz.prog 141 #[wd a] w fun e w'=>e = .returned (.int .i64 (hold a))/\Below w.heap.size w w':=by
 obtain ⟨R,al,U,a1,a2,a3,a4,Ha⟩:=words V;have O:=s_3 al ⟨a3,a4⟩;obtain ⟨H,J⟩:∃ H:Int,(if al < 9223372036854775808 then 0 else -1)=H:=⟨_,rfl⟩
 rw [J] at O;have Ho:Hid ((if al < 9223372036854775808 then 0 else -1)=H):=J;have ob:-1<=H/\H<=0:=by rw [<- J];split <;> omega
 rw [U];clear U J;by_cases h:H=R
 ·subst h;go_enter Tryz.func141,Tryz.ntmps141;go_wp2_with fail
  go_region_with (go_at_call 19;refine (O _).mono ?_;rintro e' L ⟨rfl,hb⟩;obtain ⟨E,D⟩:=f_z hb;have hB:Below w.heap.size w L:=Below.trans (by go_grown) (hb.mono (by simp;try omega));have I:=hb.size;simp at I)
  all_goals
   go_wp2;go_ret;refine ⟨ret_int ?_,by go_grown⟩;have h1:=Ha.out;have M:=Ho.out
   try simp only [IntKind.wrap_i64,wrap64]
   unfold hold
   split at M <;> split <;> (try split) <;> omega
 ·have aa:(H==R)=false:=by simpa using h
  go_enter Tryz.func141,Tryz.ntmps141;go_wp2_with fail
  go_region_with (go_at_call 19;refine (O _).mono ?_;rintro e' L ⟨rfl,hb⟩;obtain ⟨E,D⟩:=f_z hb;have hB:Below w.heap.size w L:=Below.trans (by go_grown) (hb.mono (by simp;try omega));have I:=hb.size;simp at I)
  all_goals
   go_wp2_with (go_at_call 167;refine (bound_any _ _).mono ?_;rintro e' w2 ⟨rfl,rfl⟩)
   go_ret;refine ⟨ret_int ?_,by go_grown⟩;have h1:=Ha.out;have M:=Ho.out;unfold InW at V;unfold lim hold;simp only [decide_eq_true_eq]
   split at M <;> split <;> split <;> (try split) <;> omega
end Go.Proofs.YtcpbhhlepdgdkaaGreatDoor.Wd
