/- The code's nets: layers and nets as a wa -/
import Derived.Test.YtjlofobnmjompaaGreatDoorP22
import Derived.Deep.MidRow
import Derived.Lib.SlicesS
set_option linter.unusedVariables false
set_option linter.unusedSimpArgs false
set_option maxHeartbeats 16000000
set_option maxRecDepth 16000
namespace Go.Proofs.YtjlofobnmjompaaGreatDoor.Wd
open Go.RowKit
/-- A slice of layers. -/
def LyR (L:TypeId) (W:World) (p:Option Addr) (n:Nat) (ls:List Ly):Prop:=ls.length=n/\∀ i,i < n->∃ q o,p=some ⟨q,o,none⟩/\W.cell? ⟨q,o+i*3,none⟩=some (.string (lyA ls i).1)/\W.cell? ⟨q,o+i*3+1,none⟩=some (.int .i64 (lyA ls i).2.1)/\W.cell? ⟨q,o+i*3+2,none⟩=some (.int .i64 (lyA ls i).2.2)
theorem LyR.up {L:TypeId} {W W':World} {p:Option Addr} {n:Nat} {ls:List Ly} (h:LyR L W p n ls) (D:Below W.heap.size W W'):LyR L W' p n ls:=⟨h.1,fun i J=>by
 obtain ⟨q,o,e,H,E,I⟩:=h.2 i J;exact ⟨q,o,e,a_h D H,a_h D E,a_h D I⟩⟩
def Kz (w:World):Prop:=∀ i,i < 5->w.cell? ⟨0,i*4,none⟩=some (.string (b_K i))/\w.cell? ⟨0,i*4+1,none⟩=some (.int .i64 (h_o i))/\w.cell? ⟨0,i*4+2,none⟩=some (.int .i64 (c_s i))/\w.cell? ⟨0,i*4+3,none⟩=some (.int .i64 (d_h i))
theorem Hid.up_kz {w D:World} (h:Hid (Kz w)) (hb:Below w.heap.size w D):Hid (Kz D):=fun i I=>by
 obtain ⟨L,J,H,E⟩:=h.out i I;exact ⟨a_h hb L,a_h hb J,a_h hb H,a_h hb E⟩
theorem e_E (v t:Int) (w:World):Calls Tryz.prog 92 #[.int .i64 v,.int .i64 t] w fun e M=>e = .returned (.bool (decide (1<=v/\v<=t)))/\M=w:=by
 obtain ⟨z,E⟩:∃ z,decide (1<=v/\v<=t)=z:=⟨_,rfl⟩
 have D:Hid (decide (1<=v/\v<=t)=z):=E;rw [E];clear E;go_enter Tryz.func92,Tryz.ntmps92;by_cases H:1<=v
 ·by_cases L:v<=t
  ·go_wp2;go_ret;exact ⟨by rw [<- D.out,decide_eq_true ⟨H,L⟩];rfl,rfl⟩
  ·have J:t < v:=by omega
   go_wp2;go_ret;exact ⟨by rw [<- D.out,decide_eq_false fun h=>by omega];rfl,rfl⟩
 ·have I:v < 1:=by omega
  go_wp2;go_ret;exact ⟨by rw [<- D.out,decide_eq_false fun h=>by omega];rfl,rfl⟩
theorem g_p (l:List Int) (x:Int):a_t (l++[x])=a_t l*x:=by simp [a_t]
/-- Sides so small that their product can't run over. -/
def k_P (l:List Int):Prop:=l.length<=4/\∀ k,k<=l.length->-9223372036854775808<=a_t (l.take k)/\a_t (l.take k)<=9223372036854775807
theorem d_j (v:Value) (l:List Int) (L:k_P l) (w:World) (R:Nums .i64 w v l):
  Calls Tryz.prog 38 #[v] w fun e w'=>e = .returned (.int .i64 (a_t l))/\w'=w:=by
 obtain ⟨p,n,c,rfl,J⟩:=R.lst;have HL:Hid (k_P l):=L;have ab:(n:Int)<=4:=by have:=L.1;rw [J.out.1] at this;omega
 obtain ⟨r,O⟩:∃ r:Int,a_t l=r:=⟨_,rfl⟩
 have HR:Hid (a_t l=r):=O;rw [O];clear O R L;go_enter Tryz.func38,Tryz.ntmps38;go_wp2_with fail
 go_loopg [3,8] n (fun gg u v wr=>∃ (k:Nat) (x:Int),k<=n/\gg=n - k/\u = .int .i64 x/\v = .int .i64 (k:Int)/\Hid (x=a_t (l.take k))/\wr=w)
 case atStart=>exact ⟨0,1,by omega,by omega,rfl,rfl,rfl,rfl⟩
 case round=>
  obtain ⟨k,x,hk,hg,rfl,rfl,U,rfl⟩:=hrel;by_cases H:k < n
  ·have aa:(k:Int) < (n:Int):=by omega
   obtain ⟨q,o,rfl,D⟩:=J.out.2 k H;have E:k < l.length:=by rw [J.out.1];exact H
   obtain ⟨y,M⟩:∃ y,l.getD k 0=y:=⟨_,rfl⟩
   rw [M] at D
   have I:x*y=a_t (l.take (k+1)):=by
    rw [List.take_add_one,List.getElem?_eq_getElem E,Option.toList_some,g_p,U.out,<- M,List.getD_eq_getElem?_getD,List.getElem?_eq_getElem E];rfl
   have hm:=HL.out.2 (k+1) (by omega);rw [<- I] at hm;obtain ⟨m,V⟩:∃ m,x*y=m:=⟨_,rfl⟩
   rw [V] at hm I;have Hn:Hid (m=a_t (l.take (k+1))):=I;clear M E I;go_wp2;go_roundg (n - (k+1))
   case measure=>omega
   case rel=>exact ⟨k+1,m,by omega,rfl,by first|rfl|simp [V],by first|rfl|simp,Hn,rfl⟩
  ·obtain rfl:k=n:=by omega
   go_wp2;go_ret;rw [<- HR.out,U.out,List.take_of_length_le (by rw [J.out.1];exact Nat.le_refl _)];exact ⟨rfl,rfl⟩
theorem o_D (v:Value) (l:List Int) (I:k_P l) (w:World) (E:Nums .i64 w v l):
  Calls Tryz.prog 79 #[v] w fun e J=>e = .returned (.bool (decide (4096 < a_t l)))/\J=w:=by
 have D:=d_j v l I w E;obtain ⟨r,H⟩:∃ r:Int,a_t l=r:=⟨_,rfl⟩
 rw [H] at D ⊢;clear H E;go_enter Tryz.func79,Tryz.ntmps79;go_wp2_with fail
 refine D.mono ?_;rintro e L ⟨rfl,rfl⟩;go_wp2;go_ret;exact ⟨rfl,rfl⟩
theorem InOk.smal {d:List Int} (h:InOk d):k_P d:=by
 refine ⟨by rcases h with ⟨x,rfl,h⟩|⟨x,y,rfl,H,E⟩ <;> simp,fun k D=>?_⟩;rcases h with ⟨x,rfl,h⟩|⟨x,y,rfl,H,E⟩
 ·rcases (show k=0∨k=1 by simp at D;omega) with rfl|rfl <;> simp [a_t] <;> omega
 ·have:=a_3 H E;rcases (show k=0∨k=1∨k=2 by simp at D;omega) with rfl|rfl|rfl <;> simp [a_t] <;> omega
theorem m_U (s:ByteArray) (k:Nat) (D:k < 5) (h:b_K k=s):a_s s=k:=by
 subst h;rcases (show k=0∨k=1∨k=2∨k=3∨k=4 by omega) with rfl|rfl|rfl|rfl|rfl <;> decide +kernel
theorem q_J (s:ByteArray) (h:∀ k,k < 5->b_K k≠s):a_s s=5:=by
 rcases d_B s with ⟨e,_⟩|⟨e,_⟩|⟨e,_⟩|⟨e,_⟩|⟨e,_⟩|⟨_,e⟩
 ·exact absurd e.symm (h 0 (by omega))
 ·exact absurd e.symm (h 1 (by omega))
 ·exact absurd e.symm (h 2 (by omega))
 ·exact absurd e.symm (h 3 (by omega))
 ·exact absurd e.symm (h 4 (by omega))
 ·exact e
def kArr:Array Value:=#[.string (b_K 0),.int .i64 (h_o 0:Nat),.int .i64 (c_s 0),.int .i64 (d_h 0),.string (b_K 1),.int .i64 (h_o 1:Nat),.int .i64 (c_s 1),.int .i64 (d_h 1),.string (b_K 2),.int .i64 (h_o 2:Nat),.int .i64 (c_s 2),.int .i64 (d_h 2),.string (b_K 3),.int .i64 (h_o 3:Nat),.int .i64 (c_s 3),.int .i64 (d_h 3),.string (b_K 4),.int .i64 (h_o 4:Nat),.int .i64 (c_s 4),.int .i64 (d_h 4)]
theorem o_E {w:World} (h:Kz w):w.rangeAt 0 0 kArr.toList:=by
 intro j v D;have R:j < 20:=(List.getElem?_eq_some_iff.1 D).1;rw [Nat.zero_add];have M:∃ i,i < 5/\(j=i*4∨j=i*4+1∨j=i*4+2∨j=i*4+3):=⟨j / 4,by omega,by omega⟩
 obtain ⟨i,J,E⟩:=M;obtain ⟨I,O,L,H⟩:=h i J;rcases (show i=0∨i=1∨i=2∨i=3∨i=4 by omega) with rfl|rfl|rfl|rfl|rfl <;> rcases E with rfl|rfl|rfl|rfl <;> first|exact I.trans D|exact O.trans D|exact L.trans D|exact H.trans D
theorem p_m {x y:ByteArray} (h:x≠y):(x.toList==y.toList)=false:=(Lib.bytes_beq_false_iff x y).2 h
theorem q_K (k:Nat) (D:k < 5):∀ W,(Instr.index 183 (.agg kArr) (.int .i64 (k:Int))).run Tryz.prog W = .ok (.agg #[.string (b_K k),.int .i64 (h_o k:Nat),.int .i64 (c_s k),.int .i64 (d_h k)]) W:=by
 intro W;rcases (show k=0∨k=1∨k=2∨k=3∨k=4 by omega) with rfl|rfl|rfl|rfl|rfl <;> kernel_rfl
theorem j_6 {W U:World} {b:Nat} {t:TypeId} {L O R V J E I H:Value} (h:W.heap[b]?=some (.cells #[L,O,R,V] t (0,0))) (e:(((W.setCell ⟨b,0,none⟩ J).setCell ⟨b,1,none⟩ E).setCell ⟨b,2,none⟩ I).setCell ⟨b,3,none⟩ H=U):
  U.cell? ⟨b,0,none⟩=some J/\U.cell? ⟨b,1,none⟩=some E/\U.cell? ⟨b,2,none⟩=some I/\U.cell? ⟨b,3,none⟩=some H/\∀ w,Below b w W->Below b w U:=by
 have D:U.heap[b]?=some (.cells #[J,E,I,H] t (0,0)):=by
  rw [<- e,a_n (a_n (a_n (a_n h)))];rfl
 refine ⟨by simp [World.cell?,D],by simp [World.cell?,D],by simp [World.cell?,D],by simp [World.cell?,D],fun w M=>?_⟩;rw [<- e];exact (((M.setCell (Nat.le_refl _) _).setCell (Nat.le_refl _) _).setCell (Nat.le_refl _) _).setCell (Nat.le_refl _) _
theorem k_Q (s:ByteArray) (w:World) (hK:Hid (Kz w)):
  Calls Tryz.prog 93 #[.string s] w fun e w'=>e = .returned (.tuple #[.agg #[.string (b_K (a_s s)),.int .i64 (h_o (a_s s)),.int .i64 (c_s (a_s s)),.int .i64 (d_h (a_s s))],.bool (decide (a_s s < 5))])/\Below w.heap.size w w':=by
 obtain ⟨z,J⟩:∃ z,a_s s=z:=⟨_,rfl⟩
 have HZ:Hid (a_s s=z):=J;obtain ⟨zb,eb⟩:∃ zb,decide (z < 5)=zb:=⟨_,rfl⟩
 have M:Hid (decide (z < 5)=zb):=eb;rw [J,eb];clear J eb;go_enter Tryz.func93,Tryz.ntmps93;have hz:=a_g (hK.out 0 (by omega)).1;have ae:(w.alloc (.cells #[.string ⟨#[]⟩,.int .i64 0,.int .i64 0,.int .i64 0] 163)).rangeAt 0 0 kArr.toList:=o_E (Hid.up_kz hK (a_b w _)).out;have aa:Hid ((w.alloc (.cells #[.string ⟨#[]⟩,.int .i64 0,.int .i64 0,.int .i64 0] 163)).rangeAt 0 0 kArr.toList):=ae;clear ae;obtain ⟨KA,O⟩:∃ KA:Array Value,kArr.toList.toArray=KA:=⟨_,rfl⟩
 have HQ:Hid (kArr=KA):=O;go_wp2_with (refine wpList_load_mid rfl 183 (.global 0) rfl _ 0 rfl _ _ aa.out Tryz.underlying183 rfl (by kernel_rfl) ?_;rw [O];clear O)
 generalize L:World.alloc _ _=W0;have ai:Hid (Below w.heap.size w W0):=by rw [<- L];exact a_b w _
 have ac:Hid (W0.heap[w.heap.size]?=some (.cells #[.string ⟨#[]⟩,.int .i64 0,.int .i64 0,.int .i64 0] 163 (0,0))/\w.heap.size < W0.heap.size):=by
  show _/\_;rw [<- L];exact ⟨Array.getElem?_push_size,by simp⟩
 clear L aa
 go_loopg [7] 5 (fun gg v wr=>∃ (k:Nat),k<=5/\gg=5 - k/\v = .int .i64 (k:Int)/\Hid (∀ i,i < k->b_K i≠s)/\Hid (Below W0.heap.size W0 wr))
 case atStart=>exact ⟨0,by omega,by omega,rfl,fun i hi=>by omega,Below.refl _ _⟩
 case round=>
  obtain ⟨k,hk,hg,rfl,Hx,HB⟩:=hrel;have H2:=ac.out.1;rw [<- HB.out.block _ ac.out.2] at H2
  obtain ⟨⟨c0,f0⟩,⟨c1,f1⟩,⟨c2,f2⟩,⟨c3,f3⟩⟩:(wr.cell? ⟨w.heap.size,0,none⟩=some (.string ⟨#[]⟩)/\wr.frozen? ⟨w.heap.size,0,none⟩=false)/\(wr.cell? ⟨w.heap.size,1,none⟩=some (.int .i64 0)/\wr.frozen? ⟨w.heap.size,1,none⟩=false)/\(wr.cell? ⟨w.heap.size,2,none⟩=some (.int .i64 0)/\wr.frozen? ⟨w.heap.size,2,none⟩=false)/\(wr.cell? ⟨w.heap.size,3,none⟩=some (.int .i64 0)/\wr.frozen? ⟨w.heap.size,3,none⟩=false):=by
   simp [World.cell?,World.frozen?,H2]
  have ak:=a_g c0;have ad:Hid (Below w.heap.size w wr):=a_c ai.out HB.out;have H3:Hid (wr.heap[w.heap.size]?=some (.cells #[.string ⟨#[]⟩,.int .i64 0,.int .i64 0,.int .i64 0] 163 (0,0))):=H2;clear H2;by_cases h5:k=5
  ·subst h5;have J:=q_J s fun k hk=>Hx.out k hk;rw [HZ.out] at J;subst J;have R:=M.out;subst R;go_wp2;generalize hU:World.setCell _ _ _=U;obtain ⟨u0,u1,u2,u3,ah⟩:=j_6 H3.out hU;exact bodyPost_ret (v:=.tuple #[.agg #[.string ⟨#[]⟩,.int .i64 0,.int .i64 0,.int .i64 0],.bool false]) (by simp [results,Tryz.results93,go_sem,u0,u1,u2,u3]) rfl ⟨rfl,ah w ad.out⟩
  have aj:=q_K k (by omega);rw [HQ.out] at aj;have am:(k:Int) < 5:=by omega
  by_cases hs:b_K k=s
  ·subst hs;have J:=m_U _ k (by omega) rfl;have af:k < 5:=by omega
   rw [HZ.out] at J;subst J;have R:true=zb:=(decide_eq_true af).symm.trans M.out;subst R;clear HZ M;go_wp2;generalize hV:World.setCell _ _ _=V;obtain ⟨u0,u1,u2,u3,ag⟩:=j_6 H3.out hV;have ab:=a_g u0;exact bodyPost_ret (v:=.tuple #[.agg #[.string (b_K z),.int .i64 (h_o z:Nat),.int .i64 (c_s z),.int .i64 (d_h z)],.bool true]) (by simp [results,Tryz.results93,go_sem,u0,u1,u2,u3,ab]) rfl ⟨rfl,(ag w ad.out).alloc (Nat.le_of_lt ab) _⟩
  ·have an:=p_m hs
   have Hn:Hid (∀ i,i < k+1->b_K i≠s):=fun i hi=>by
    rcases Nat.lt_succ_iff_lt_or_eq.1 hi with h|rfl
    ·exact Hx.out i h
    ·exact hs
   go_wp2;go_roundg (5 - (k+1))
   case measure=>omega
   case rel=>exact ⟨k+1,by omega,rfl,by first|rfl|simp,Hn,g_a HB.out _⟩
theorem h_7 {d:List Int} (E:d.length≠1) (D:d.length≠2):d_S d=false:=by
 match d with
 | []=>rfl
 | [x]=>simp at E
 | [x,y]=>simp at D
 | x :: y :: z :: r=>rfl
theorem j_7 (v t:Int) (q:Bool) (D:decide (1<=v/\v<=t)=q) (w:World):Calls Tryz.prog 92 #[.int .i64 v,.int .i64 t] w fun e E=>e = .returned (.bool q)/\E=w:=by
 rw [<- D];exact e_E v t w
theorem k_R (v:Value) (d:List Int) (w:World) (R:Nums .i64 w v d):
  Calls Tryz.prog 73 #[v] w fun e w'=>e = .returned (.bool (d_S d))/\w'=w:=by
 obtain ⟨p,n,c,rfl,E⟩:=R.lst;obtain ⟨r,M⟩:∃ r:Bool,d_S d=r:=⟨_,rfl⟩
 have I:Hid (d_S d=r):=M;rw [M];clear M R;go_enter Tryz.func73,Tryz.ntmps73;by_cases U:n=1
 ·subst U;obtain ⟨q,o,rfl,L⟩:=E.out.2 0 (by omega)
  obtain ⟨x,rfl⟩:∃ x,d = [x]:=by
   have:=E.out.1
   match d with
   | [x]=>exact ⟨x,rfl⟩
  simp only [List.getD_cons_zero,Nat.add_zero] at L;go_wp2_with fail
  refine (j_7 _ _ r I.out _).mono ?_;rintro e V ⟨rfl,rfl⟩;go_wp2;go_ret;exact ⟨rfl,rfl⟩
 have g1:((n:Int)==1)=false:=by simpa using (show (n:Int)≠1 by omega)
 by_cases O:n=2
 ·subst O;obtain ⟨q,o,rfl,L⟩:=E.out.2 0 (by omega);obtain ⟨q',o',e,c1⟩:=E.out.2 1 (by omega);cases e
  obtain ⟨x,y,rfl⟩:∃ x y,d = [x,y]:=by
   have:=E.out.1
   match d with
   | [x,y]=>exact ⟨x,y,rfl⟩
  simp only [List.getD_cons_zero,List.getD_cons_succ,Nat.add_zero] at L c1;go_wp2_with fail
  refine (e_E _ _ _).mono ?_;rintro e V ⟨rfl,rfl⟩;by_cases H:1<=x/\x<=64
  ·rw [decide_eq_true H];go_wp2_with fail
   refine (e_E _ _ _).mono ?_;rintro e V ⟨rfl,rfl⟩;obtain ⟨J,D⟩:∃ J,decide (1<=y/\y<=64)=J:=⟨_,rfl⟩
   have HQ:Hid (decide (1<=y/\y<=64)=J):=D;rw [D];clear D;go_wp2;go_ret;refine ⟨?_,rfl⟩;rw [<- I.out];show _=Ending.returned (Value.bool (decide ((1<=x/\x<=64)/\1<=y/\y<=64)));rw [show decide ((1<=x/\x<=64)/\1<=y/\y<=64)=J by rw [<- HQ.out];exact decide_eq_decide.2 ⟨fun h=>h.2,fun h=>⟨H,h⟩⟩];rfl
  ·rw [decide_eq_false H];have HX:Hid (¬ (1<=x/\x<=64)):=H;clear H;go_wp2;go_ret;refine ⟨?_,rfl⟩;rw [<- I.out];show _=Ending.returned (Value.bool (decide ((1<=x/\x<=64)/\1<=y/\y<=64)));rw [decide_eq_false fun h=>HX.out h.1];rfl
 have g2:((n:Int)==2)=false:=by simpa using (show (n:Int)≠2 by omega)
 go_wp2;go_ret;refine ⟨?_,rfl⟩;rw [<- I.out,h_7 (by rw [E.out.1];exact U) (by rw [E.out.1];exact O)];rfl
/-- Is one of a layer's two numbers as its kind asks? -/
def chk (kd:Nat) (a b:Int) (k:Nat):Bool:=if k < h_o kd then decide (1<=(if k=0 then a else b)/\(if k=0 then a else b)<=(if k=0 then c_s kd else d_h kd)) else decide ((if k=0 then a else b)=0)
theorem q_L (l:Ly):decide (a_S l)=(decide (a_s l.1 < 5) && chk (a_s l.1) l.2.1 l.2.2 0 && chk (a_s l.1) l.2.1 l.2.2 1):=by
 unfold chk;rw [Bool.eq_iff_iff];simp only [decide_eq_true_eq,Bool.and_eq_true,if_true,if_neg (show ¬ (1:Nat)=0 by omega)];unfold a_S
 split <;> split <;> simp [and_assoc]
theorem g_4 (s:ByteArray) (a b:Int) (w:World) (hK:Hid (Kz w)):
  Calls Tryz.prog 74 #[.agg #[.string s,.int .i64 a,.int .i64 b]] w fun e w'=>e = .returned (.bool (decide (a_S (s,a,b))))/\Below w.heap.size w w':=by
 obtain ⟨r,er⟩:∃ r:Bool,decide (a_S (s,a,b))=r:=⟨_,rfl⟩
 have HR:Hid ((decide (a_s s < 5) && chk (a_s s) a b 0 && chk (a_s s) a b 1)=r):=(q_L (s,a,b)).symm.trans er;rw [er];clear er;go_enter Tryz.func74,Tryz.ntmps74;go_wp2_with fail
 generalize V:World.alloc _ _=W0;have af:Hid (Below w.heap.size w W0):=by rw [<- V];exact a_b w _
 have aa:Hid (W0.cell? ⟨w.heap.size,1,none⟩=some (.int .i64 a)/\W0.cell? ⟨w.heap.size,2,none⟩=some (.int .i64 b)):=by show _/\_;rw [<- V];simp [go_sem]
 clear V;refine (k_Q s W0 (Hid.up_kz hK af.out)).mono ?_;rintro e w1 ⟨rfl,O⟩;obtain ⟨z,ez⟩:∃ z,a_s s=z:=⟨_,rfl⟩
 rw [ez] at HR ⊢;have ag:Hid (Below w.heap.size w w1):=a_c af.out O;have C1:=a_h O aa.out.1;have C2:=a_h O aa.out.2;have am:=a_g C1;by_cases h5:z < 5
 case neg=>
  rw [decide_eq_false h5];rw [decide_eq_false h5] at HR;go_wp2;go_ret;rw [<- HR.out];exact ⟨rfl,g_a ag.out _⟩
 rw [decide_eq_true h5];rw [decide_eq_true h5] at HR;obtain ⟨U,ad⟩:∃ U,h_o z=U:=⟨_,rfl⟩
 obtain ⟨tA,eA⟩:∃ x,c_s z=x:=⟨_,rfl⟩
 obtain ⟨tB,eB⟩:∃ x,d_h z=x:=⟨_,rfl⟩
 have HZ:Hid (h_o z=U/\c_s z=tA/\d_h z=tB):=⟨ad,eA,eB⟩
 rw [ad,eA,eB];clear ad eA eB ez O;go_wp2_with fail
 generalize ae:World.alloc _ _=W2;have ac:Hid (Below w.heap.size w W2):=by rw [<- ae];exact g_a ag.out _
 obtain ⟨d1,d2,d3,d4⟩:W2.cell? ⟨w1.heap.size,0,none⟩=some (.string (b_K z))/\W2.cell? ⟨w1.heap.size,1,none⟩=some (.int .i64 (U:Int))/\W2.cell? ⟨w1.heap.size,2,none⟩=some (.int .i64 tA)/\W2.cell? ⟨w1.heap.size,3,none⟩=some (.int .i64 tB):=by rw [<- ae];simp [go_sem]
 clear ae C1 C2 aa af d1
 go_loopg [20] 2 (fun gg v wr=>∃ (k:Nat),k<=2/\gg=2 - k/\v = .int .i64 (k:Int)/\Hid (∀ i,i < k->chk z a b i=true)/\wr=W2)
 case atStart=>exact ⟨0,by omega,by omega,rfl,fun i hi=>by omega,rfl⟩
 case round=>
  obtain ⟨k,hk,hg,rfl,Hx,rfl⟩:=hrel;rcases (show k=2∨k=0∨k=1 by omega) with rfl|J
  ·go_wp2;go_ret;rw [<- HR.out,Hx.out 0 (by omega),Hx.out 1 (by omega)];exact ⟨rfl,ac.out⟩
  obtain ⟨x,ex⟩:∃ x,(if k=0 then a else b)=x:=⟨_,rfl⟩
  obtain ⟨t,et⟩:∃ x,(if k=0 then tA else tB)=x:=⟨_,rfl⟩
  have H:Hid (chk z a b k=if k < U then decide (1<=x/\x<=t) else decide (x=0)):=by
   show _=_;unfold chk;rw [HZ.out.1,HZ.out.2.1,HZ.out.2.2,ex,et]
  have an:∀ W,(Instr.index 161 (.agg #[.int .i64 a,.int .i64 b]) (.int .i64 (k:Int))).run Tryz.prog W = .ok (.int .i64 x) W:=by
   intro W;rcases J with rfl|rfl
   ·rw [if_pos rfl] at ex;subst ex;kernel_rfl
   ·rw [if_neg (by omega)] at ex;subst ex;kernel_rfl
  have dk:wr.cell? ⟨w1.heap.size,2+k,none⟩=some (.int .i64 t):=by
   rcases J with rfl|rfl
   ·rw [if_pos rfl] at et;subst et;exact d3
   ·rw [if_neg (by omega)] at et;subst et;exact d4
  have ak:(k:Int) < 2:=by omega
  have I:Hid (chk z a b k=true->∀ i,i < k+1->chk z a b i=true):=fun h i hi=>by
   rcases Nat.lt_succ_iff_lt_or_eq.1 hi with h2|rfl
   ·exact Hx.out i h2
   ·exact h
  have R:Hid (chk z a b k=false->r=false):=fun h=>by
   rw [<- HR.out];rcases J with rfl|rfl <;> simp [h]
  have aj:Hid (k=0∨k=1):=J;clear ex et d3 d4 J HZ;by_cases hc:k < U
  ·have ah:(k:Int) < (U:Int):=by omega
   rw [if_pos hc] at H;go_wp2_with fail
   obtain ⟨qb,ab⟩:∃ qb,decide (1<=x/\x<=t)=qb:=⟨_,rfl⟩
   refine (j_7 _ _ qb ab _).mono ?_;rintro e w2 ⟨rfl,rfl⟩;rw [ab] at H;clear ab;cases qb with
   | false=>
    have er:=R.out H.out;subst er;go_wp2;go_ret;exact ⟨rfl,ac.out⟩
   | true=>
    have Hn:=I.out H.out;have HN:Hid (∀ i,i < k+1->chk z a b i=true):=Hn;clear Hn I;go_wp2;go_roundg (2 - (k+1))
    case measure=>omega
    case rel=>exact ⟨k+1,by omega,rfl,by first|rfl|simp,HN,rfl⟩
  ·have ah:(U:Int)<=(k:Int):=by omega
   rw [if_neg hc] at H;by_cases L:x=0
   ·rw [decide_eq_true L] at H;have HN:Hid (∀ i,i < k+1->chk z a b i=true):=I.out H.out;clear I;subst L;go_wp2;go_roundg (2 - (k+1))
    case measure=>omega
    case rel=>exact ⟨k+1,by omega,rfl,by first|rfl|simp,HN,rfl⟩
   ·rw [decide_eq_false L] at H;have er:=R.out H.out;subst er;have ai:(x != 0)=true:=by simpa using L
    go_wp2;go_ret;exact ⟨rfl,ac.out⟩
theorem j_8 {ls:List Ly} {f:Ly->Bool} {n:Nat} (H:ls.length=n) (h:∀ i,i < n->f (lyA ls i)=true):ls.all f=true:=by
 rw [List.all_eq_true];intro l E;obtain ⟨i,D,rfl⟩:=List.getElem_of_mem E;have:=h i (by omega);unfold lyA at this;rw [List.getD_eq_getElem?_getD,List.getElem?_eq_getElem D] at this;exact this
theorem m_V {ls:List Ly} {f:Ly->Bool} {i:Nat} (D:i < ls.length) (h:f (lyA ls i)=false):ls.all f=false:=by
 rw [List.all_eq_false];exact ⟨_,d_T D,by rw [h];simp⟩
theorem f_3 (p p2:Option Addr) (n c D O:Nat) (d:List Int) (ls:List Ly) (ad:D<=1073741824) (w:World) (hK:Hid (Kz w)) (h1:Nums .i64 w (.slice p n c) d) (h2:LyR 0 w p2 D ls):
  Calls Tryz.prog 55 #[.agg #[.slice p n c,.slice p2 D O]] w fun e w'=>e = .returned (.bool (b_L d ls))/\Below w.heap.size w w':=by
 obtain ⟨r,I⟩:∃ r:Bool,b_L d ls=r:=⟨_,rfl⟩
 have HR:Hid (b_L d ls=r):=I;rw [I];clear I;have HL:Hid (LyR 0 w p2 D ls):=h2;clear h2;go_enter Tryz.func55,Tryz.ntmps55;go_wp2_with fail
 generalize J:World.alloc _ _=W0;have L:Hid (Below w.heap.size w W0):=by rw [<- J];exact a_b w _
 have C1:W0.cell? ⟨w.heap.size,1,none⟩=some (.slice p2 D O):=by rw [<- J];simp [go_sem]
 clear J;obtain ⟨qi,E⟩:∃ q,d_S d=q:=⟨_,rfl⟩
 have ci:=k_R _ d W0 (h1.up L.out);rw [E] at ci;refine ci.mono ?_;rintro e w1 ⟨rfl,rfl⟩;cases qi with
 | false=>
  have I:r=false:=by rw [<- HR.out];unfold b_L;rw [E];rfl
  subst I;clear E ci h1;go_wp2;go_ret;exact ⟨rfl,L.out⟩
 | true=>
  have HF:Hid (b_L d ls=ls.all fun l=>decide (a_S l)):=by show _=_;unfold b_L;rw [E];rfl
  clear E ci h1;go_wp2_with fail
  go_loopg [12] D (fun gg v wr=>∃ (k:Nat),k<=D/\gg=D - k/\v = .int .i64 (k:Int)/\Hid (∀ i,i < k->decide (a_S (lyA ls i))=true)/\Hid (Below w.heap.size w wr))
  case atStart=>exact ⟨0,by omega,by omega,rfl,fun i hi=>by omega,L⟩
  case round=>
   obtain ⟨k,hk,hg,rfl,Hx,HB⟩:=hrel;by_cases U:k < D
   ·have ae:(k:Int) < (D:Int):=by omega
    obtain ⟨q,o,rfl,c0,c1,O⟩:=(HL.out.up HB.out).2 k U;obtain ⟨l,V⟩:∃ l,lyA ls k=l:=⟨_,rfl⟩
    obtain ⟨s,a,b⟩:=l;rw [V] at c0 c1 O;have ac:=a_g c0;go_wp2_with fail
    generalize aa:World.alloc _ _=W2;have R:Hid (Below w.heap.size w W2):=by rw [<- aa];exact g_a HB.out _
    clear aa;obtain ⟨ql,H⟩:∃ q,decide (a_S (s,a,b))=q:=⟨_,rfl⟩
    have cl:=g_4 s a b W2 (Hid.up_kz hK R.out);rw [H] at cl;refine cl.mono ?_;rintro e w3 ⟨rfl,ab⟩;have M:Hid (Below w.heap.size w w3):=a_c R.out ab;clear cl ab c0 c1 O ac;cases ql with
    | false=>
     have I:r=false:=by rw [<- HR.out,HF.out];exact m_V (i:=k) (by rw [HL.out.1];exact U) (by rw [V];exact H)
     subst I;clear V H;go_wp2;go_ret;exact ⟨rfl,M.out⟩
    | true=>
     have HN:Hid (∀ i,i < k+1->decide (a_S (lyA ls i))=true):=fun i hi=>by
      rcases Nat.lt_succ_iff_lt_or_eq.1 hi with h2|rfl
      ·exact Hx.out i h2
      ·rw [V];exact H
     clear V H;go_wp2;go_roundg (D - (k+1))
     case measure=>omega
     case rel=>exact ⟨k+1,by omega,rfl,by first|rfl|simp,HN,M⟩
   ·obtain rfl:k=D:=by omega
    have I:r=true:=by rw [<- HR.out,HF.out];exact j_8 HL.out.1 Hx.out
    subst I;go_wp2;go_ret;exact ⟨rfl,HB.out⟩
end Go.Proofs.YtjlofobnmjompaaGreatDoor.Wd
