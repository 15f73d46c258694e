/- Tensors: what matm.All, matm.Mean and matm.row hand back. -/
import Derived.Test.YtjlofobnmjompaaGreatDoorT06
import Derived.Test.YtjlofobnmjompaaGreatDoorT01
import Derived.Test.YtjlofobnmjompaaGreatDoorT08
set_option linter.unusedVariables false
set_option linter.unusedSimpArgs false
set_option maxHeartbeats 16000000
set_option maxRecDepth 16000
namespace Go.Proofs.YtjlofobnmjompaaGreatDoor.Wd
open Go.RowKit Fx
def k_B (d x:List Int):Int:=if isP d x then 0 else 1
def p_4 (d x:List Int):Int:=if isP d x then hold (b_v x) else 0
def f_Y (d x:List Int):Int:=if isP d x then f_X x else 0
theorem isP.len {d x:List Int} (h:isP d x):1<=x.length/\x.length<=4096:=by
 have:=h.1.2.2;have:=h.1.pos;have:=h.2;omega
theorem g_X {x:List Int} (D:RI x) (h:x.length<=4096):InW (b_v x):=by
 have:=l_J D;unfold InW;omega
theorem p_5 (p p2:Option Addr) (n c n2 U:Nat) (d x:List Int) (hd:RI d) (hx:RI x) (w:World) (h1:Nums .i64 w (.slice p n c) d) (L:Nums .i64 w (.slice p2 n2 U) x):
  Calls Tryz.prog 124 #[.agg #[.slice p n c,.slice p2 n2 U]] w fun e w'=>e = .returned (.tuple #[.int .i64 (p_4 d x),.int .i64 (k_B d x)])/\Below w.heap.size w w':=by
 have cA:=fun W (V:Below w.heap.size w W)=>a_D _ _ d x hd W (h1.up V) (L.up V);unfold p_4 k_B;by_cases I:isP d x
 ·rw [decide_eq_true I] at cA;rw [if_pos I,if_pos I];obtain ⟨_,_,_,e4,HX⟩:=L.lst;cases e4;have hl:=I.len;have wT:=g_X hx hl.2;rw [HX.out.1] at hl;have cT:=fun W (V:Below w.heap.size w W)=>f_x p2 n2 U x hx hl.2 W (L.up V);have cF:∀ W,Calls Tryz.prog 152 #[wd (b_v x)] W fun e w'=>e = .returned (.int .i64 (hold (b_v x)))/\Below W.heap.size W w':=fun W=>e_v _ wT W;obtain ⟨th,tl,et,t1,t2,t3,t4,Ht⟩:=words wT;rw [et] at cT cF;obtain ⟨T,eT⟩:∃ T,hold (b_v x)=T:=⟨_,rfl⟩
  rw [eT] at cF ⊢;clear h1 L hd hx I HX wT et eT hl;go_enter Tryz.func124,Tryz.ntmps124;go_wp2_with fail
  generalize J:World.alloc _ _=W0;have O:=b_C (w:=w) J (by go_grown);have XA:Hid (Cel W0 w.heap.size (.slice p n c) (.slice p2 n2 U)):=a_y J (by simp [go_sem]);clear J;refine (cA W0 O.out).mono ?_;rintro e w1 ⟨rfl,D⟩;have H:=a_M (a_c O.out D) D;clear D;obtain ⟨a0,a1,_,_⟩:=XA.out.up H.out.2;go_wp2_with fail
  refine (cT w1 H.out.1).mono ?_;rintro e w2 ⟨rfl,M⟩;have ab:Hid (Below w.heap.size w w2):=a_c H.out.1 M;clear M a0 a1;go_wp2_with fail
  refine (cF w2).mono ?_;rintro e w3 ⟨rfl,R⟩;have aa:Hid (Below w.heap.size w w3):=a_c ab.out R;clear R;go_wp2;exact bodyPost_ret (v:=.tuple #[.int .i64 T,.int .i64 0]) (by simp [results,Tryz.results124,go_sem]) rfl ⟨rfl,aa.out⟩
 ·rw [decide_eq_false I] at cA;rw [if_neg I,if_neg I];clear h1 L hd hx I;go_enter Tryz.func124,Tryz.ntmps124;go_wp2_with fail
  refine (cA _ (by go_grown)).mono ?_;rintro e w1 ⟨rfl,D⟩;have H:Hid (Below w.heap.size w w1):=a_c (a_b w _) D;clear D;go_wp2;exact bodyPost_ret (v:=.tuple #[.int .i64 0,.int .i64 1]) (by simp [results,Tryz.results124,go_sem]) rfl ⟨rfl,H.out⟩
theorem p_6 (a:Int) (n:Nat) (D:1<=n):ovI a (n:Int)=hold (rqI a n):=by
 unfold ovI;rw [if_neg (by omega),<- r_n _ _ _ (by omega)]
 congr 2
 ·unfold Fx.differ sg;rw [show decide ((n:Int) < 0)=false from decide_eq_false (by omega),Bool.bne_false];by_cases h:a < 0
  ·rw [decide_eq_true h];simp;omega
  ·rw [decide_eq_false h];simp;omega
theorem j_I (p p2:Option Addr) (n c J R:Nat) (d x:List Int) (hd:RI d) (hx:RI x) (w:World) (h1:Nums .i64 w (.slice p n c) d) (O:Nums .i64 w (.slice p2 J R) x):
  Calls Tryz.prog 125 #[.agg #[.slice p n c,.slice p2 J R]] w fun e w'=>e = .returned (.tuple #[.int .i64 (f_Y d x),.int .i64 (k_B d x)])/\Below w.heap.size w w':=by
 have cA:=fun W (M:Below w.heap.size w W)=>a_D _ _ d x hd W (h1.up M) (O.up M);unfold f_Y k_B;by_cases I:isP d x
 ·rw [decide_eq_true I] at cA;rw [if_pos I,if_pos I];obtain ⟨_,_,_,e4,HX⟩:=O.lst;cases e4;have hl:=I.len;have wT:=g_X hx hl.2;rw [HX.out.1] at hl;have cT:=fun W (M:Below w.heap.size w W)=>f_x p2 J R x hx hl.2 W (O.up M)
  have cF:∀ W,Calls Tryz.prog 154 #[wd (b_v x),.int .i64 (J:Int)] W fun e w'=>e = .returned (.int .i64 (f_X x))/\Below W.heap.size W w':=fun W=>by
   have:=over_any (b_v x) (J:Int) wT (by unfold InR;omega) W;rw [p_6 _ _ hl.1] at this;rw [f_X,HX.out.1];exact this
  obtain ⟨th,tl,et,t1,t2,t3,t4,Ht⟩:=words wT;rw [et] at cT cF;obtain ⟨T,eT⟩:∃ T,f_X x=T:=⟨_,rfl⟩
  rw [eT] at cF ⊢;have ad:(J:Int)<=4096:=by omega
  clear h1 O hd hx I HX wT et eT hl;haveI:Nonempty World:=⟨w⟩
  go_enter Tryz.func125,Tryz.ntmps125;go_wp2_with fail
  generalize L:World.alloc _ _=W0;have V:=b_C (w:=w) L (by go_grown);have XA:Hid (Cel W0 w.heap.size (.slice p n c) (.slice p2 J R)):=a_y L (by simp [go_sem]);clear L;refine (cA W0 V.out).mono ?_;rintro e w1 ⟨rfl,D⟩;have H:=a_M (a_c V.out D) D;clear D;obtain ⟨a0,a1,_,_⟩:=XA.out.up H.out.2;have ac:=a_a a0;have aa:Hid (∀ W,Below w1.heap.size w1 W->Calls Tryz.prog 153 #[.slice p2 J R] W fun e w'=>e = .returned (.agg #[.int .i64 th,.int .u64 tl])/\Below W.heap.size W w'):=fun W M=>cT W (a_c H.out.1 M);clear cT;go_wp2_with fail
  refine j_r 9 14 (by kernel_rfl) rfl rfl (by kernel_rfl) ?_;apply Exists.intro;refine ⟨?_,?_⟩
  ·intro F hF;have hFc:=hF.cell;have hFf:=hF.frozen;simp only [List.take_succ_cons,List.take_zero,List.eraseIdx_cons_succ,List.eraseIdx_cons_zero]
   repeat (go_big_quiet_step (first|(go_at_call 153;exact hF.call (aa.out _ (hF.below _)))|(go_at_call 154;with_reducible exact hF.call (cF _))))
   refine wpQuiet_nil ?_;exact rfl
  ·intro W8 U;have ab:Hid (Below w.heap.size w W8):=a_c H.out.1 U;clear U a0 a1 aa cF;simp only [List.drop_succ_cons,List.drop_zero];go_wp2;exact bodyPost_ret (v:=.tuple #[.int .i64 T,.int .i64 0]) (by simp [results,Tryz.results125,go_sem]) rfl ⟨rfl,ab.out⟩
 ·rw [decide_eq_false I] at cA;rw [if_neg I,if_neg I];clear h1 O hd hx I;go_enter Tryz.func125,Tryz.ntmps125;go_wp2_with fail
  refine (cA _ (by go_grown)).mono ?_;rintro e w1 ⟨rfl,D⟩;have H:Hid (Below w.heap.size w w1):=a_c (a_b w _) D;clear D;go_wp2;exact bodyPost_ret (v:=.tuple #[.int .i64 0,.int .i64 1]) (by simp [results,Tryz.results125,go_sem]) rfl ⟨rfl,H.out⟩
theorem l_Q (x:List Int) (a m:Nat) (h:a+m<=x.length):(x.drop a).take m=(List.range m).map fun j=>x.getD (a+j) 0:=by
 refine List.ext_getElem (by simp;omega) fun i D H=>?_;simp at D H;simp only [List.getElem_take,List.getElem_drop,List.getElem_map,List.getElem_range];rw [a_r x (a+i) 0 (by omega)]
theorem n_0 {W:World} {J:Option Addr} {U L:Nat} {x:List Int} (I D i:Nat) (R:x.length=I*D) (hi:i < I) (H:U<=L) (M:Nums .i64 W (.slice J U L) x):Nums .i64 W (sliced J (i*D) ((i+1)*D) L 1) ((List.range D).map fun j=>x.getD (i*D+j) 0):=by
 obtain ⟨_,_,_,V,O⟩:=M.lst;cases V;have k1:(i+1)*D<=I*D:=Nat.mul_le_mul_right _ hi;have k2:i*D+D=(i+1)*D:=by rw [Nat.add_mul,Nat.one_mul]
 have h:=g_S (k:=.i64) (W:=W) (p:=J) (i:=i*D) (j:=(i+1)*D) (by omega) (by rw [<- O.out.1,R];exact k1) O.out.1 H M;rw [show (i+1)*D - i*D=D by omega,l_Q x (i*D) D (by rw [R];omega)] at h;exact h
theorem r_A (I:Option Addr) (i D H:Nat):∃ q,sliced I (i*D) ((i+1)*D) H 1 = .slice q D (H - i*D):=by
 obtain ⟨q,h⟩:=d_b I (i*D) ((i+1)*D) H;rw [show (i+1)*D - i*D=D by rw [Nat.add_mul,Nat.one_mul];omega] at h;exact ⟨q,h⟩
end Go.Proofs.YtjlofobnmjompaaGreatDoor.Wd
