/- Tensors: what matm.All, matm.Mean and ma -/
import Derived.Test.YtjlofobnmjompaaGreatDoorP08
set_option linter.unusedVariables false
set_option linter.unusedSimpArgs false
set_option maxHeartbeats 16000000
set_option maxRecDepth 16000
namespace Go.Proofs.YtjlofobnmjompaaGreatDoor.Wd
open Go.RowKit Fx
def k_7 (d x:List Int):Int:=if isP d x then 0 else 1
def p_9 (d x:List Int):Int:=if isP d x then hold (b_v x) else 0
def h_N (d x:List Int):Int:=if isP d x then i_r x else 0
theorem isP.len {d x:List Int} (h:isP d x):1<=x.length/\x.length<=4096:=by
 have:=h.1.2.2;have:=h.1.pos;have:=h.2;omega
theorem g_W {x:List Int} (D:RI x) (h:x.length<=4096):InW (b_v x):=by
 have:=l_P D;unfold InW;omega
theorem q_a (p p2:Option Addr) (n c n2 R:Nat) (d x:List Int) (hd:RI d) (hx:RI x) (w:World) (h1:Nums .i64 w (.slice p n c) d) (J:Nums .i64 w (.slice p2 n2 R) x):
  Calls Tryz.prog 124 #[.agg #[.slice p n c,.slice p2 n2 R]] w fun e w'=>e = .returned (.tuple #[.int .i64 (p_9 d x),.int .i64 (k_7 d x)])/\Below w.heap.size w w':=by
 have cA:=fun W (U:Below w.heap.size w W)=>a_C _ _ d x hd W (h1.up U) (J.up U);unfold p_9 k_7;by_cases H:isP d x
 ·rw [decide_eq_true H] at cA;rw [if_pos H,if_pos H];obtain ⟨_,_,_,e4,HX⟩:=J.lst;cases e4;have V:=H.len;have wT:=g_W hx V.2;rw [HX.out.1] at V;have cT:=fun W (U:Below w.heap.size w W)=>f_w p2 n2 R x hx V.2 W (J.up U);have cF:∀ W,Calls Tryz.prog 152 #[wd (b_v x)] W fun e w'=>e = .returned (.int .i64 (hold (b_v x)))/\Below W.heap.size W w':=fun W=>e_v _ wT W;obtain ⟨th,tl,et,t1,t2,t3,t4,Ht⟩:=words wT;rw [et] at cT cF;obtain ⟨T,eT⟩:∃ T,hold (b_v x)=T:=⟨_,rfl⟩
  rw [eT] at cF ⊢;clear h1 J hd hx H HX wT et eT V;go_enter Tryz.func124,Tryz.ntmps124;go_wp2_with fail
  generalize I:World.alloc _ _=W0;have O:=b_W (w:=w) I (by go_grown);have XA:Hid (Cel W0 w.heap.size (.slice p n c) (.slice p2 n2 R)):=a_F I (by simp [go_sem]);clear I;refine (cA W0 O.out).mono ?_;rintro e w1 ⟨rfl,D⟩;have E:=a_N (a_c O.out D) D;clear D;obtain ⟨a0,a1,_,_⟩:=XA.out.up E.out.2;go_wp2_with fail
  refine (cT w1 E.out.1).mono ?_;rintro e w2 ⟨rfl,L⟩;have ab:Hid (Below w.heap.size w w2):=a_c E.out.1 L;clear L a0 a1;go_wp2_with fail
  refine (cF w2).mono ?_;rintro e w3 ⟨rfl,M⟩;have aa:Hid (Below w.heap.size w w3):=a_c ab.out M;clear M;go_wp2;exact bodyPost_ret (v:=.tuple #[.int .i64 T,.int .i64 0]) (by simp [results,Tryz.results124,go_sem]) rfl ⟨rfl,aa.out⟩
 ·rw [decide_eq_false H] at cA;rw [if_neg H,if_neg H];clear h1 J hd hx H;go_enter Tryz.func124,Tryz.ntmps124;go_wp2_with fail
  refine (cA _ (by go_grown)).mono ?_;rintro e w1 ⟨rfl,D⟩;have E:Hid (Below w.heap.size w w1):=a_c (a_b w _) D;clear D;go_wp2;exact bodyPost_ret (v:=.tuple #[.int .i64 0,.int .i64 1]) (by simp [results,Tryz.results124,go_sem]) rfl ⟨rfl,E.out⟩
theorem q_b (a:Int) (n:Nat) (D:1<=n):ovI a (n:Int)=hold (rqI a n):=by
 unfold ovI;rw [if_neg (by omega),<- r_q _ _ _ (by omega)]
 congr 2
 ·unfold Fx.differ sg;rw [show decide ((n:Int) < 0)=false from decide_eq_false (by omega),Bool.bne_false];by_cases h:a < 0
  ·rw [decide_eq_true h];simp;omega
  ·rw [decide_eq_false h];simp;omega
theorem j_J (p p2:Option Addr) (n c I M:Nat) (d x:List Int) (hd:RI d) (hx:RI x) (w:World) (h1:Nums .i64 w (.slice p n c) d) (O:Nums .i64 w (.slice p2 I M) x):
  Calls Tryz.prog 125 #[.agg #[.slice p n c,.slice p2 I M]] w fun e w'=>e = .returned (.tuple #[.int .i64 (h_N d x),.int .i64 (k_7 d x)])/\Below w.heap.size w w':=by
 have cA:=fun W (L:Below w.heap.size w W)=>a_C _ _ d x hd W (h1.up L) (O.up L);unfold h_N k_7;by_cases H:isP d x
 ·rw [decide_eq_true H] at cA;rw [if_pos H,if_pos H];obtain ⟨_,_,_,e4,HX⟩:=O.lst;cases e4;have R:=H.len;have wT:=g_W hx R.2;rw [HX.out.1] at R;have cT:=fun W (L:Below w.heap.size w W)=>f_w p2 I M x hx R.2 W (O.up L)
  have cF:∀ W,Calls Tryz.prog 154 #[wd (b_v x),.int .i64 (I:Int)] W fun e w'=>e = .returned (.int .i64 (i_r x))/\Below W.heap.size W w':=fun W=>by
   have:=over_any (b_v x) (I:Int) wT (by unfold InR;omega) W;rw [q_b _ _ R.1] at this;rw [i_r,HX.out.1];exact this
  obtain ⟨th,tl,et,t1,t2,t3,t4,Ht⟩:=words wT;rw [et] at cT cF;obtain ⟨T,eT⟩:∃ T,i_r x=T:=⟨_,rfl⟩
  rw [eT] at cF ⊢;have ac:(I:Int)<=4096:=by omega
  clear h1 O hd hx H HX wT et eT R;haveI:Nonempty World:=⟨w⟩
  go_enter Tryz.func125,Tryz.ntmps125;go_wp2_with fail
  generalize J:World.alloc _ _=W0;have aa:=b_W (w:=w) J (by go_grown);have XA:Hid (Cel W0 w.heap.size (.slice p n c) (.slice p2 I M)):=a_F J (by simp [go_sem]);clear J;refine (cA W0 aa.out).mono ?_;rintro e w1 ⟨rfl,D⟩;have E:=a_N (a_c aa.out D) D;clear D;obtain ⟨a0,a1,_,_⟩:=XA.out.up E.out.2;have ad:=a_a a0;have V:Hid (∀ W,Below w1.heap.size w1 W->Calls Tryz.prog 153 #[.slice p2 I M] W fun e w'=>e = .returned (.agg #[.int .i64 th,.int .u64 tl])/\Below W.heap.size W w'):=fun W L=>cT W (a_c E.out.1 L);clear cT;go_wp2_with fail
  refine j_r 9 14 (by kernel_rfl) rfl rfl (by kernel_rfl) ?_;apply Exists.intro;refine ⟨?_,?_⟩
  ·intro F hF;have hFc:=hF.cell;have hFf:=hF.frozen;simp only [List.take_succ_cons,List.take_zero,List.eraseIdx_cons_succ,List.eraseIdx_cons_zero]
   repeat (go_big_quiet_step (first|(go_at_call 153;exact hF.call (V.out _ (hF.below _)))|(go_at_call 154;with_reducible exact hF.call (cF _))))
   refine wpQuiet_nil ?_;exact rfl
  ·intro W8 U;have ab:Hid (Below w.heap.size w W8):=a_c E.out.1 U;clear U a0 a1 V cF;simp only [List.drop_succ_cons,List.drop_zero];go_wp2;exact bodyPost_ret (v:=.tuple #[.int .i64 T,.int .i64 0]) (by simp [results,Tryz.results125,go_sem]) rfl ⟨rfl,ab.out⟩
 ·rw [decide_eq_false H] at cA;rw [if_neg H,if_neg H];clear h1 O hd hx H;go_enter Tryz.func125,Tryz.ntmps125;go_wp2_with fail
  refine (cA _ (by go_grown)).mono ?_;rintro e w1 ⟨rfl,D⟩;have E:Hid (Below w.heap.size w w1):=a_c (a_b w _) D;clear D;go_wp2;exact bodyPost_ret (v:=.tuple #[.int .i64 0,.int .i64 1]) (by simp [results,Tryz.results125,go_sem]) rfl ⟨rfl,E.out⟩
theorem l_W (x:List Int) (a m:Nat) (h:a+m<=x.length):(x.drop a).take m=(List.range m).map fun j=>x.getD (a+j) 0:=by
 refine List.ext_getElem (by simp;omega) fun i E D=>?_;simp at E D;simp only [List.getElem_take,List.getElem_drop,List.getElem_map,List.getElem_range];rw [a_r x (a+i) 0 (by omega)]
theorem o_a {W:World} {J:Option Addr} {R I:Nat} {x:List Int} (E D i:Nat) (O:x.length=E*D) (hi:i < E) (H:R<=I) (L:Nums .i64 W (.slice J R I) x):Nums .i64 W (sliced J (i*D) ((i+1)*D) I 1) ((List.range D).map fun j=>x.getD (i*D+j) 0):=by
 obtain ⟨_,_,_,V,M⟩:=L.lst;cases V;have U:(i+1)*D<=E*D:=Nat.mul_le_mul_right _ hi;have k2:i*D+D=(i+1)*D:=by rw [Nat.add_mul,Nat.one_mul]
 have h:=g_R (k:=.i64) (W:=W) (p:=J) (i:=i*D) (j:=(i+1)*D) (by omega) (by rw [<- M.out.1,O];exact U) M.out.1 H L;rw [show (i+1)*D - i*D=D by omega,l_W x (i*D) D (by rw [O];omega)] at h;exact h
theorem r_D (H:Option Addr) (i D E:Nat):∃ q,sliced H (i*D) ((i+1)*D) E 1 = .slice q D (E - i*D):=by
 obtain ⟨q,h⟩:=d_b H (i*D) ((i+1)*D) E;rw [show (i+1)*D - i*D=D by rw [Nat.add_mul,Nat.one_mul];omega] at h;exact ⟨q,h⟩
end Go.Proofs.YtjlofobnmjompaaGreatDoor.Wd
