/- The code's nets: layers and nets as a walk reads them; kinds, and whether numbers may be. · The code's inFits, layerFits, numbersFit. -/
import Derived.Test.YtjlofobnmjompaaGreatDoorT22
import Derived.Test.YtjlofobnmjompaaGreatDoorT01
import Derived.Test.YtjlofobnmjompaaGreatDoorT00
import Derived.Deep.MidRow
import Derived.Lib.SlicesS
set_option linter.unusedVariables false
set_option linter.unusedSimpArgs false
set_option maxHeartbeats 16000000
set_option maxRecDepth 16000
namespace Go.Proofs.YtjlofobnmjompaaGreatDoor.Wd
open Go.RowKit
/-- A slice of layers. -/
def LyR (L:TypeId) (W:World) (p:Option Addr) (n:Nat) (ls:List Ly):Prop:=ls.length=n/\∀ i,i < n->∃ q o,p=some ⟨q,o,none⟩/\W.cell? ⟨q,o+i*3,none⟩=some (.string (lyA ls i).1)/\W.cell? ⟨q,o+i*3+1,none⟩=some (.int .i64 (lyA ls i).2.1)/\W.cell? ⟨q,o+i*3+2,none⟩=some (.int .i64 (lyA ls i).2.2)
theorem LyR.up {L:TypeId} {W W':World} {p:Option Addr} {n:Nat} {ls:List Ly} (h:LyR L W p n ls) (D:Below W.heap.size W W'):LyR L W' p n ls:=⟨h.1,fun i J=>by
 obtain ⟨q,o,e,H,I,M⟩:=h.2 i J;exact ⟨q,o,e,a_h D H,a_h D I,a_h D M⟩⟩
def Kz (w:World):Prop:=∀ i,i < 5->w.cell? ⟨0,i*4,none⟩=some (.string (b_L i))/\w.cell? ⟨0,i*4+1,none⟩=some (.int .i64 (h_m i))/\w.cell? ⟨0,i*4+2,none⟩=some (.int .i64 (c_s i))/\w.cell? ⟨0,i*4+3,none⟩=some (.int .i64 (d_h i))
theorem Hid.up_kz {w D:World} (h:Hid (Kz w)) (hb:Below w.heap.size w D):Hid (Kz D):=fun i M=>by
 obtain ⟨H,I,J,L⟩:=h.out i M;exact ⟨a_h hb H,a_h hb I,a_h hb J,a_h hb L⟩
theorem e_E (v t:Int) (w:World):Calls Tryz.prog 92 #[.int .i64 v,.int .i64 t] w fun e L=>e = .returned (.bool (decide (1<=v/\v<=t)))/\L=w:=by
 obtain ⟨z,H⟩:∃ z,decide (1<=v/\v<=t)=z:=⟨_,rfl⟩
 have D:Hid (decide (1<=v/\v<=t)=z):=H;rw [H];clear H;go_enter Tryz.func92,Tryz.ntmps92;by_cases I:1<=v
 ·by_cases J:v<=t
  ·go_wp2;go_ret;exact ⟨by rw [<- D.out,decide_eq_true ⟨I,J⟩];rfl,rfl⟩
  ·have M:t < v:=by omega
   go_wp2;go_ret;exact ⟨by rw [<- D.out,decide_eq_false fun h=>by omega];rfl,rfl⟩
 ·have O:v < 1:=by omega
  go_wp2;go_ret;exact ⟨by rw [<- D.out,decide_eq_false fun h=>by omega];rfl,rfl⟩
theorem g_p (l:List Int) (x:Int):a_t (l++[x])=a_t l*x:=by simp [a_t]
/-- Sides so small that their product can't run over. -/
def k_O (l:List Int):Prop:=l.length<=4/\∀ k,k<=l.length->-9223372036854775808<=a_t (l.take k)/\a_t (l.take k)<=9223372036854775807
theorem d_j (v:Value) (l:List Int) (O:k_O l) (w:World) (V:Nums .i64 w v l):
  Calls Tryz.prog 38 #[v] w fun e w'=>e = .returned (.int .i64 (a_t l))/\w'=w:=by
 obtain ⟨p,n,c,rfl,L⟩:=V.lst;have HL:Hid (k_O l):=O;have aa:(n:Int)<=4:=by have:=O.1;rw [L.out.1] at this;omega
 obtain ⟨r,M⟩:∃ r:Int,a_t l=r:=⟨_,rfl⟩
 have HR:Hid (a_t l=r):=M;rw [M];clear M V O;go_enter Tryz.func38,Tryz.ntmps38;go_wp2_with fail
 go_loopg [3,8] n (fun gg u v wr=>∃ (k:Nat) (x:Int),k<=n/\gg=n - k/\u = .int .i64 x/\v = .int .i64 (k:Int)/\Hid (x=a_t (l.take k))/\wr=w)
 case atStart=>exact ⟨0,1,by omega,by omega,rfl,rfl,rfl,rfl⟩
 case round=>
  obtain ⟨k,x,hk,hg,rfl,rfl,Hx,rfl⟩:=hrel;by_cases I:k < n
  ·have ab:(k:Int) < (n:Int):=by omega
   obtain ⟨q,o,rfl,H⟩:=L.out.2 k I;have D:k < l.length:=by rw [L.out.1];exact I
   obtain ⟨y,R⟩:∃ y,l.getD k 0=y:=⟨_,rfl⟩
   rw [R] at H
   have J:x*y=a_t (l.take (k+1)):=by
    rw [List.take_add_one,List.getElem?_eq_getElem D,Option.toList_some,g_p,Hx.out,<- R,List.getD_eq_getElem?_getD,List.getElem?_eq_getElem D];rfl
   have U:=HL.out.2 (k+1) (by omega);rw [<- J] at U;obtain ⟨m,em⟩:∃ m,x*y=m:=⟨_,rfl⟩
   rw [em] at U J;have Hn:Hid (m=a_t (l.take (k+1))):=J;clear R D J;go_wp2;go_roundg (n - (k+1))
   case measure=>omega
   case rel=>exact ⟨k+1,m,by omega,rfl,by first|rfl|simp [em],by first|rfl|simp,Hn,rfl⟩
  ·obtain rfl:k=n:=by omega
   go_wp2;go_ret;rw [<- HR.out,Hx.out,List.take_of_length_le (by rw [L.out.1];exact Nat.le_refl _)];exact ⟨rfl,rfl⟩
theorem o_u (v:Value) (l:List Int) (J:k_O l) (w:World) (I:Nums .i64 w v l):
  Calls Tryz.prog 79 #[v] w fun e L=>e = .returned (.bool (decide (4096 < a_t l)))/\L=w:=by
 have H:=d_j v l J w I;obtain ⟨r,D⟩:∃ r:Int,a_t l=r:=⟨_,rfl⟩
 rw [D] at H ⊢;clear D I;go_enter Tryz.func79,Tryz.ntmps79;go_wp2_with fail
 refine H.mono ?_;rintro e M ⟨rfl,rfl⟩;go_wp2;go_ret;exact ⟨rfl,rfl⟩
theorem InOk.smal {d:List Int} (h:InOk d):k_O d:=by
 refine ⟨by rcases h with ⟨x,rfl,h⟩|⟨x,y,rfl,I,H⟩ <;> simp,fun k D=>?_⟩;rcases h with ⟨x,rfl,h⟩|⟨x,y,rfl,I,H⟩
 ·rcases (show k=0∨k=1 by simp at D;omega) with rfl|rfl <;> simp [a_t] <;> omega
 ·have:=a_1 I H;rcases (show k=0∨k=1∨k=2 by simp at D;omega) with rfl|rfl|rfl <;> simp [a_t] <;> omega
theorem m_O (s:ByteArray) (k:Nat) (D:k < 5) (h:b_L k=s):a_s s=k:=by
 subst h;rcases (show k=0∨k=1∨k=2∨k=3∨k=4 by omega) with rfl|rfl|rfl|rfl|rfl <;> decide +kernel
theorem q_H (s:ByteArray) (h:∀ k,k < 5->b_L k≠s):a_s s=5:=by
 rcases d_z s with ⟨e,_⟩|⟨e,_⟩|⟨e,_⟩|⟨e,_⟩|⟨e,_⟩|⟨_,e⟩
 ·exact absurd e.symm (h 0 (by omega))
 ·exact absurd e.symm (h 1 (by omega))
 ·exact absurd e.symm (h 2 (by omega))
 ·exact absurd e.symm (h 3 (by omega))
 ·exact absurd e.symm (h 4 (by omega))
 ·exact e
def kArr:Array Value:=#[.string (b_L 0),.int .i64 (h_m 0:Nat),.int .i64 (c_s 0),.int .i64 (d_h 0),.string (b_L 1),.int .i64 (h_m 1:Nat),.int .i64 (c_s 1),.int .i64 (d_h 1),.string (b_L 2),.int .i64 (h_m 2:Nat),.int .i64 (c_s 2),.int .i64 (d_h 2),.string (b_L 3),.int .i64 (h_m 3:Nat),.int .i64 (c_s 3),.int .i64 (d_h 3),.string (b_L 4),.int .i64 (h_m 4:Nat),.int .i64 (c_s 4),.int .i64 (d_h 4)]
theorem o_v {w:World} (h:Kz w):w.rangeAt 0 0 kArr.toList:=by
 intro j v D;have U:j < 20:=(List.getElem?_eq_some_iff.1 D).1;rw [Nat.zero_add];have J:∃ i,i < 5/\(j=i*4∨j=i*4+1∨j=i*4+2∨j=i*4+3):=⟨j / 4,by omega,by omega⟩
 obtain ⟨i,R,H⟩:=J;obtain ⟨L,I,M,O⟩:=h i R;rcases (show i=0∨i=1∨i=2∨i=3∨i=4 by omega) with rfl|rfl|rfl|rfl|rfl <;> rcases H with rfl|rfl|rfl|rfl <;> first|exact L.trans D|exact I.trans D|exact M.trans D|exact O.trans D
theorem p_k {x y:ByteArray} (h:x≠y):(x.toList==y.toList)=false:=(Lib.bytes_beq_false_iff x y).2 h
theorem q_I (k:Nat) (D:k < 5):∀ W,(Instr.index 183 (.agg kArr) (.int .i64 (k:Int))).run Tryz.prog W = .ok (.agg #[.string (b_L k),.int .i64 (h_m k:Nat),.int .i64 (c_s k),.int .i64 (d_h k)]) W:=by
 intro W;rcases (show k=0∨k=1∨k=2∨k=3∨k=4 by omega) with rfl|rfl|rfl|rfl|rfl <;> kernel_rfl
theorem j_6 {W U:World} {b:Nat} {t:TypeId} {V O R a3 I J H L:Value} (h:W.heap[b]?=some (.cells #[V,O,R,a3] t (0,0))) (e:(((W.setCell ⟨b,0,none⟩ I).setCell ⟨b,1,none⟩ J).setCell ⟨b,2,none⟩ H).setCell ⟨b,3,none⟩ L=U):
  U.cell? ⟨b,0,none⟩=some I/\U.cell? ⟨b,1,none⟩=some J/\U.cell? ⟨b,2,none⟩=some H/\U.cell? ⟨b,3,none⟩=some L/\∀ w,Below b w W->Below b w U:=by
 have D:U.heap[b]?=some (.cells #[I,J,H,L] t (0,0)):=by
  rw [<- e,a_m (a_m (a_m (a_m h)))];rfl
 refine ⟨by simp [World.cell?,D],by simp [World.cell?,D],by simp [World.cell?,D],by simp [World.cell?,D],fun w M=>?_⟩;rw [<- e];exact (((M.setCell (Nat.le_refl _) _).setCell (Nat.le_refl _) _).setCell (Nat.le_refl _) _).setCell (Nat.le_refl _) _
theorem k_P (s:ByteArray) (w:World) (hK:Hid (Kz w)):
  Calls Tryz.prog 93 #[.string s] w fun e w'=>e = .returned (.tuple #[.agg #[.string (b_L (a_s s)),.int .i64 (h_m (a_s s)),.int .i64 (c_s (a_s s)),.int .i64 (d_h (a_s s))],.bool (decide (a_s s < 5))])/\Below w.heap.size w w':=by
 obtain ⟨z,L⟩:∃ z,a_s s=z:=⟨_,rfl⟩
 have HZ:Hid (a_s s=z):=L;obtain ⟨zb,eb⟩:∃ zb,decide (z < 5)=zb:=⟨_,rfl⟩
 have O:Hid (decide (z < 5)=zb):=eb;rw [L,eb];clear L eb;go_enter Tryz.func93,Tryz.ntmps93;have hz:=a_f (hK.out 0 (by omega)).1;have ad:(w.alloc (.cells #[.string ⟨#[]⟩,.int .i64 0,.int .i64 0,.int .i64 0] 163)).rangeAt 0 0 kArr.toList:=o_v (Hid.up_kz hK (a_b w _)).out;have ac:Hid ((w.alloc (.cells #[.string ⟨#[]⟩,.int .i64 0,.int .i64 0,.int .i64 0] 163)).rangeAt 0 0 kArr.toList):=ad;clear ad;obtain ⟨KA,R⟩:∃ KA:Array Value,kArr.toList.toArray=KA:=⟨_,rfl⟩
 have HQ:Hid (kArr=KA):=R;go_wp2_with (refine wpList_load_mid rfl 183 (.global 0) rfl _ 0 rfl _ _ ac.out Tryz.underlying183 rfl (by kernel_rfl) ?_;rw [R];clear R)
 generalize M:World.alloc _ _=W0;have ah:Hid (Below w.heap.size w W0):=by rw [<- M];exact a_b w _
 have af:Hid (W0.heap[w.heap.size]?=some (.cells #[.string ⟨#[]⟩,.int .i64 0,.int .i64 0,.int .i64 0] 163 (0,0))/\w.heap.size < W0.heap.size):=by
  show _/\_;rw [<- M];exact ⟨Array.getElem?_push_size,by simp⟩
 clear M ac
 go_loopg [7] 5 (fun gg v wr=>∃ (k:Nat),k<=5/\gg=5 - k/\v = .int .i64 (k:Int)/\Hid (∀ i,i < k->b_L i≠s)/\Hid (Below W0.heap.size W0 wr))
 case atStart=>exact ⟨0,by omega,by omega,rfl,fun i hi=>by omega,Below.refl _ _⟩
 case round=>
  obtain ⟨k,hk,hg,rfl,Hx,HB⟩:=hrel;have H2:=af.out.1;rw [<- HB.out.block _ af.out.2] at H2
  obtain ⟨⟨c0,f0⟩,⟨c1,f1⟩,⟨c2,f2⟩,⟨c3,f3⟩⟩:(wr.cell? ⟨w.heap.size,0,none⟩=some (.string ⟨#[]⟩)/\wr.frozen? ⟨w.heap.size,0,none⟩=false)/\(wr.cell? ⟨w.heap.size,1,none⟩=some (.int .i64 0)/\wr.frozen? ⟨w.heap.size,1,none⟩=false)/\(wr.cell? ⟨w.heap.size,2,none⟩=some (.int .i64 0)/\wr.frozen? ⟨w.heap.size,2,none⟩=false)/\(wr.cell? ⟨w.heap.size,3,none⟩=some (.int .i64 0)/\wr.frozen? ⟨w.heap.size,3,none⟩=false):=by
   simp [World.cell?,World.frozen?,H2]
  have am:=a_f c0;have ae:Hid (Below w.heap.size w wr):=a_c ah.out HB.out;have H3:Hid (wr.heap[w.heap.size]?=some (.cells #[.string ⟨#[]⟩,.int .i64 0,.int .i64 0,.int .i64 0] 163 (0,0))):=H2;clear H2;by_cases h5:k=5
  ·subst h5;have L:=q_H s fun k hk=>Hx.out k hk;rw [HZ.out] at L;subst L;have aa:=O.out;subst aa;go_wp2;generalize hU:World.setCell _ _ _=U;obtain ⟨u0,u1,u2,u3,ai⟩:=j_6 H3.out hU;exact bodyPost_ret (v:=.tuple #[.agg #[.string ⟨#[]⟩,.int .i64 0,.int .i64 0,.int .i64 0],.bool false]) (by simp [results,Tryz.results93,go_sem,u0,u1,u2,u3]) rfl ⟨rfl,ai w ae.out⟩
  have ag:=q_I k (by omega);rw [HQ.out] at ag;have ao:(k:Int) < 5:=by omega
  by_cases hs:b_L k=s
  ·subst hs;have L:=m_O _ k (by omega) rfl;have ak:k < 5:=by omega
   rw [HZ.out] at L;subst L;have aa:true=zb:=(decide_eq_true ak).symm.trans O.out;subst aa;clear HZ O;go_wp2;generalize hV:World.setCell _ _ _=V;obtain ⟨u0,u1,u2,u3,aj⟩:=j_6 H3.out hV;have ab:=a_f u0;exact bodyPost_ret (v:=.tuple #[.agg #[.string (b_L z),.int .i64 (h_m z:Nat),.int .i64 (c_s z),.int .i64 (d_h z)],.bool true]) (by simp [results,Tryz.results93,go_sem,u0,u1,u2,u3,ab]) rfl ⟨rfl,(aj w ae.out).alloc (Nat.le_of_lt ab) _⟩
  ·have an:=p_k hs
   have Hn:Hid (∀ i,i < k+1->b_L i≠s):=fun i hi=>by
    rcases Nat.lt_succ_iff_lt_or_eq.1 hi with h|rfl
    ·exact Hx.out i h
    ·exact hs
   go_wp2;go_roundg (5 - (k+1))
   case measure=>omega
   case rel=>exact ⟨k+1,by omega,rfl,by first|rfl|simp,Hn,g_a HB.out _⟩
theorem h_4 {d:List Int} (D:d.length≠1) (H:d.length≠2):d_P d=false:=by
 match d with
 | []=>rfl
 | [x]=>simp at D
 | [x,y]=>simp at H
 | x :: y :: z :: r=>rfl
theorem j_7 (v t:Int) (q:Bool) (D:decide (1<=v/\v<=t)=q) (w:World):Calls Tryz.prog 92 #[.int .i64 v,.int .i64 t] w fun e H=>e = .returned (.bool q)/\H=w:=by
 rw [<- D];exact e_E v t w
theorem k_Q (v:Value) (d:List Int) (w:World) (hv:Nums .i64 w v d):
  Calls Tryz.prog 73 #[v] w fun e w'=>e = .returned (.bool (d_P d))/\w'=w:=by
 obtain ⟨p,n,c,rfl,D⟩:=hv.lst;obtain ⟨r,M⟩:∃ r:Bool,d_P d=r:=⟨_,rfl⟩
 have L:Hid (d_P d=r):=M;rw [M];clear M hv;go_enter Tryz.func73,Tryz.ntmps73;by_cases R:n=1
 ·subst R;obtain ⟨q,o,rfl,O⟩:=D.out.2 0 (by omega)
  obtain ⟨x,rfl⟩:∃ x,d = [x]:=by
   have:=D.out.1
   match d with
   | [x]=>exact ⟨x,rfl⟩
  simp only [List.getD_cons_zero,Nat.add_zero] at O;go_wp2_with fail
  refine (j_7 _ _ r L.out _).mono ?_;rintro e V ⟨rfl,rfl⟩;go_wp2;go_ret;exact ⟨rfl,rfl⟩
 have g1:((n:Int)==1)=false:=by simpa using (show (n:Int)≠1 by omega)
 by_cases U:n=2
 ·subst U;obtain ⟨q,o,rfl,O⟩:=D.out.2 0 (by omega);obtain ⟨q',o',e,c1⟩:=D.out.2 1 (by omega);cases e
  obtain ⟨x,y,rfl⟩:∃ x y,d = [x,y]:=by
   have:=D.out.1
   match d with
   | [x,y]=>exact ⟨x,y,rfl⟩
  simp only [List.getD_cons_zero,List.getD_cons_succ,Nat.add_zero] at O c1;go_wp2_with fail
  refine (e_E _ _ _).mono ?_;rintro e V ⟨rfl,rfl⟩;by_cases I:1<=x/\x<=64
  ·rw [decide_eq_true I];go_wp2_with fail
   refine (e_E _ _ _).mono ?_;rintro e V ⟨rfl,rfl⟩;obtain ⟨J,H⟩:∃ J,decide (1<=y/\y<=64)=J:=⟨_,rfl⟩
   have HQ:Hid (decide (1<=y/\y<=64)=J):=H;rw [H];clear H;go_wp2;go_ret;refine ⟨?_,rfl⟩;rw [<- L.out];show _=Ending.returned (Value.bool (decide ((1<=x/\x<=64)/\1<=y/\y<=64)));rw [show decide ((1<=x/\x<=64)/\1<=y/\y<=64)=J by rw [<- HQ.out];exact decide_eq_decide.2 ⟨fun h=>h.2,fun h=>⟨I,h⟩⟩];rfl
  ·rw [decide_eq_false I];have HX:Hid (¬ (1<=x/\x<=64)):=I;clear I;go_wp2;go_ret;refine ⟨?_,rfl⟩;rw [<- L.out];show _=Ending.returned (Value.bool (decide ((1<=x/\x<=64)/\1<=y/\y<=64)));rw [decide_eq_false fun h=>HX.out h.1];rfl
 have g2:((n:Int)==2)=false:=by simpa using (show (n:Int)≠2 by omega)
 go_wp2;go_ret;refine ⟨?_,rfl⟩;rw [<- L.out,h_4 (by rw [D.out.1];exact R) (by rw [D.out.1];exact U)];rfl
/-- Is one of a layer's two numbers as its kind asks? -/
def chk (kd:Nat) (a b:Int) (k:Nat):Bool:=if k < h_m kd then decide (1<=(if k=0 then a else b)/\(if k=0 then a else b)<=(if k=0 then c_s kd else d_h kd)) else decide ((if k=0 then a else b)=0)
theorem q_J (l:Ly):decide (a_R l)=(decide (a_s l.1 < 5) && chk (a_s l.1) l.2.1 l.2.2 0 && chk (a_s l.1) l.2.1 l.2.2 1):=by
 unfold chk;rw [Bool.eq_iff_iff];simp only [decide_eq_true_eq,Bool.and_eq_true,if_true,if_neg (show ¬ (1:Nat)=0 by omega)];unfold a_R
 split <;> split <;> simp [and_assoc]
theorem g_7 (s:ByteArray) (a b:Int) (w:World) (hK:Hid (Kz w)):
  Calls Tryz.prog 74 #[.agg #[.string s,.int .i64 a,.int .i64 b]] w fun e w'=>e = .returned (.bool (decide (a_R (s,a,b))))/\Below w.heap.size w w':=by
 obtain ⟨r,er⟩:∃ r:Bool,decide (a_R (s,a,b))=r:=⟨_,rfl⟩
 have HR:Hid ((decide (a_s s < 5) && chk (a_s s) a b 0 && chk (a_s s) a b 1)=r):=(q_J (s,a,b)).symm.trans er;rw [er];clear er;go_enter Tryz.func74,Tryz.ntmps74;go_wp2_with fail
 generalize aa:World.alloc _ _=W0;have ab:Hid (Below w.heap.size w W0):=by rw [<- aa];exact a_b w _
 have af:Hid (W0.cell? ⟨w.heap.size,1,none⟩=some (.int .i64 a)/\W0.cell? ⟨w.heap.size,2,none⟩=some (.int .i64 b)):=by show _/\_;rw [<- aa];simp [go_sem]
 clear aa;refine (k_P s W0 (Hid.up_kz hK ab.out)).mono ?_;rintro e w1 ⟨rfl,O⟩;obtain ⟨z,ez⟩:∃ z,a_s s=z:=⟨_,rfl⟩
 rw [ez] at HR ⊢;have ah:Hid (Below w.heap.size w w1):=a_c ab.out O;have C1:=a_h O af.out.1;have C2:=a_h O af.out.2;have am:=a_f C1;by_cases h5:z < 5
 case neg=>
  rw [decide_eq_false h5];rw [decide_eq_false h5] at HR;go_wp2;go_ret;rw [<- HR.out];exact ⟨rfl,g_a ah.out _⟩
 rw [decide_eq_true h5];rw [decide_eq_true h5] at HR;obtain ⟨V,ag⟩:∃ V,h_m z=V:=⟨_,rfl⟩
 obtain ⟨tA,eA⟩:∃ x,c_s z=x:=⟨_,rfl⟩
 obtain ⟨tB,eB⟩:∃ x,d_h z=x:=⟨_,rfl⟩
 have HZ:Hid (h_m z=V/\c_s z=tA/\d_h z=tB):=⟨ag,eA,eB⟩
 rw [ag,eA,eB];clear ag eA eB ez O;go_wp2_with fail
 generalize ae:World.alloc _ _=W2;have ad:Hid (Below w.heap.size w W2):=by rw [<- ae];exact g_a ah.out _
 obtain ⟨d1,d2,d3,d4⟩:W2.cell? ⟨w1.heap.size,0,none⟩=some (.string (b_L z))/\W2.cell? ⟨w1.heap.size,1,none⟩=some (.int .i64 (V:Int))/\W2.cell? ⟨w1.heap.size,2,none⟩=some (.int .i64 tA)/\W2.cell? ⟨w1.heap.size,3,none⟩=some (.int .i64 tB):=by rw [<- ae];simp [go_sem]
 clear ae C1 C2 af ab d1
 go_loopg [20] 2 (fun gg v wr=>∃ (k:Nat),k<=2/\gg=2 - k/\v = .int .i64 (k:Int)/\Hid (∀ i,i < k->chk z a b i=true)/\wr=W2)
 case atStart=>exact ⟨0,by omega,by omega,rfl,fun i hi=>by omega,rfl⟩
 case round=>
  obtain ⟨k,hk,hg,rfl,Hx,rfl⟩:=hrel;rcases (show k=2∨k=0∨k=1 by omega) with rfl|L
  ·go_wp2;go_ret;rw [<- HR.out,Hx.out 0 (by omega),Hx.out 1 (by omega)];exact ⟨rfl,ad.out⟩
  obtain ⟨x,ex⟩:∃ x,(if k=0 then a else b)=x:=⟨_,rfl⟩
  obtain ⟨t,et⟩:∃ x,(if k=0 then tA else tB)=x:=⟨_,rfl⟩
  have J:Hid (chk z a b k=if k < V then decide (1<=x/\x<=t) else decide (x=0)):=by
   show _=_;unfold chk;rw [HZ.out.1,HZ.out.2.1,HZ.out.2.2,ex,et]
  have an:∀ W,(Instr.index 161 (.agg #[.int .i64 a,.int .i64 b]) (.int .i64 (k:Int))).run Tryz.prog W = .ok (.int .i64 x) W:=by
   intro W;rcases L with rfl|rfl
   ·rw [if_pos rfl] at ex;subst ex;kernel_rfl
   ·rw [if_neg (by omega)] at ex;subst ex;kernel_rfl
  have dk:wr.cell? ⟨w1.heap.size,2+k,none⟩=some (.int .i64 t):=by
   rcases L with rfl|rfl
   ·rw [if_pos rfl] at et;subst et;exact d3
   ·rw [if_neg (by omega)] at et;subst et;exact d4
  have ao:(k:Int) < 2:=by omega
  have I:Hid (chk z a b k=true->∀ i,i < k+1->chk z a b i=true):=fun h i hi=>by
   rcases Nat.lt_succ_iff_lt_or_eq.1 hi with h2|rfl
   ·exact Hx.out i h2
   ·exact h
  have U:Hid (chk z a b k=false->r=false):=fun h=>by
   rw [<- HR.out];rcases L with rfl|rfl <;> simp [h]
  have aj:Hid (k=0∨k=1):=L;clear ex et d3 d4 L HZ;by_cases hc:k < V
  ·have ai:(k:Int) < (V:Int):=by omega
   rw [if_pos hc] at J;go_wp2_with fail
   obtain ⟨qb,ac⟩:∃ qb,decide (1<=x/\x<=t)=qb:=⟨_,rfl⟩
   refine (j_7 _ _ qb ac _).mono ?_;rintro e w2 ⟨rfl,rfl⟩;rw [ac] at J;clear ac;cases qb with
   | false=>
    have er:=U.out J.out;subst er;go_wp2;go_ret;exact ⟨rfl,ad.out⟩
   | true=>
    have Hn:=I.out J.out;have HN:Hid (∀ i,i < k+1->chk z a b i=true):=Hn;clear Hn I;go_wp2;go_roundg (2 - (k+1))
    case measure=>omega
    case rel=>exact ⟨k+1,by omega,rfl,by first|rfl|simp,HN,rfl⟩
  ·have ai:(V:Int)<=(k:Int):=by omega
   rw [if_neg hc] at J;by_cases M:x=0
   ·rw [decide_eq_true M] at J;have HN:Hid (∀ i,i < k+1->chk z a b i=true):=I.out J.out;clear I;subst M;go_wp2;go_roundg (2 - (k+1))
    case measure=>omega
    case rel=>exact ⟨k+1,by omega,rfl,by first|rfl|simp,HN,rfl⟩
   ·rw [decide_eq_false M] at J;have er:=U.out J.out;subst er;have ak:(x != 0)=true:=by simpa using M
    go_wp2;go_ret;exact ⟨rfl,ad.out⟩
theorem j_8 {ls:List Ly} {f:Ly->Bool} {n:Nat} (I:ls.length=n) (h:∀ i,i < n->f (lyA ls i)=true):ls.all f=true:=by
 rw [List.all_eq_true];intro l D;obtain ⟨i,H,rfl⟩:=List.getElem_of_mem D;have:=h i (by omega);unfold lyA at this;rw [List.getD_eq_getElem?_getD,List.getElem?_eq_getElem H] at this;exact this
theorem m_P {ls:List Ly} {f:Ly->Bool} {i:Nat} (D:i < ls.length) (h:f (lyA ls i)=false):ls.all f=false:=by
 rw [List.all_eq_false];exact ⟨_,d_Q D,by rw [h];simp⟩
theorem f_4 (p p2:Option Addr) (n c D U:Nat) (d:List Int) (ls:List Ly) (ad:D<=1073741824) (w:World) (hK:Hid (Kz w)) (h1:Nums .i64 w (.slice p n c) d) (h2:LyR 0 w p2 D ls):
  Calls Tryz.prog 55 #[.agg #[.slice p n c,.slice p2 D U]] w fun e w'=>e = .returned (.bool (b_M d ls))/\Below w.heap.size w w':=by
 obtain ⟨r,J⟩:∃ r:Bool,b_M d ls=r:=⟨_,rfl⟩
 have HR:Hid (b_M d ls=r):=J;rw [J];clear J;have HL:Hid (LyR 0 w p2 D ls):=h2;clear h2;go_enter Tryz.func55,Tryz.ntmps55;go_wp2_with fail
 generalize L:World.alloc _ _=W0;have M:Hid (Below w.heap.size w W0):=by rw [<- L];exact a_b w _
 have C1:W0.cell? ⟨w.heap.size,1,none⟩=some (.slice p2 D U):=by rw [<- L];simp [go_sem]
 clear L;obtain ⟨qi,I⟩:∃ q,d_P d=q:=⟨_,rfl⟩
 have ci:=k_Q _ d W0 (h1.up M.out);rw [I] at ci;refine ci.mono ?_;rintro e w1 ⟨rfl,rfl⟩;cases qi with
 | false=>
  have J:r=false:=by rw [<- HR.out];unfold b_M;rw [I];rfl
  subst J;clear I ci h1;go_wp2;go_ret;exact ⟨rfl,M.out⟩
 | true=>
  have HF:Hid (b_M d ls=ls.all fun l=>decide (a_R l)):=by show _=_;unfold b_M;rw [I];rfl
  clear I ci h1;go_wp2_with fail
  go_loopg [12] D (fun gg v wr=>∃ (k:Nat),k<=D/\gg=D - k/\v = .int .i64 (k:Int)/\Hid (∀ i,i < k->decide (a_R (lyA ls i))=true)/\Hid (Below w.heap.size w wr))
  case atStart=>exact ⟨0,by omega,by omega,rfl,fun i hi=>by omega,M⟩
  case round=>
   obtain ⟨k,hk,hg,rfl,Hx,HB⟩:=hrel;by_cases R:k < D
   ·have ae:(k:Int) < (D:Int):=by omega
    obtain ⟨q,o,rfl,c0,c1,U⟩:=(HL.out.up HB.out).2 k R;obtain ⟨l,el⟩:∃ l,lyA ls k=l:=⟨_,rfl⟩
    obtain ⟨s,a,b⟩:=l;rw [el] at c0 c1 U;have ac:=a_f c0;go_wp2_with fail
    generalize V:World.alloc _ _=W2;have aa:Hid (Below w.heap.size w W2):=by rw [<- V];exact g_a HB.out _
    clear V;obtain ⟨ql,H⟩:∃ q,decide (a_R (s,a,b))=q:=⟨_,rfl⟩
    have cl:=g_7 s a b W2 (Hid.up_kz hK aa.out);rw [H] at cl;refine cl.mono ?_;rintro e w3 ⟨rfl,ab⟩;have O:Hid (Below w.heap.size w w3):=a_c aa.out ab;clear cl ab c0 c1 U ac;cases ql with
    | false=>
     have J:r=false:=by rw [<- HR.out,HF.out];exact m_P (i:=k) (by rw [HL.out.1];exact R) (by rw [el];exact H)
     subst J;clear el H;go_wp2;go_ret;exact ⟨rfl,O.out⟩
    | true=>
     have HN:Hid (∀ i,i < k+1->decide (a_R (lyA ls i))=true):=fun i hi=>by
      rcases Nat.lt_succ_iff_lt_or_eq.1 hi with h2|rfl
      ·exact Hx.out i h2
      ·rw [el];exact H
     clear el H;go_wp2;go_roundg (D - (k+1))
     case measure=>omega
     case rel=>exact ⟨k+1,by omega,rfl,by first|rfl|simp,HN,O⟩
   ·obtain rfl:k=D:=by omega
    have J:r=true:=by rw [<- HR.out,HF.out];exact j_8 HL.out.1 Hx.out
    subst J;go_wp2;go_ret;exact ⟨rfl,HB.out⟩
end Go.Proofs.YtjlofobnmjompaaGreatDoor.Wd
