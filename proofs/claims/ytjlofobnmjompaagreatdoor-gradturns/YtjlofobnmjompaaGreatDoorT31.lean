/- The code's plans: layer. · The code's plans: planOf. · The code's play: the steps of a plan, one after the other. -/
import Derived.Test.YtjlofobnmjompaaGreatDoorT30
import Derived.Maps.AppendAt
set_option linter.unusedVariables false
set_option linter.unusedSimpArgs false
set_option maxHeartbeats 16000000
set_option maxRecDepth 16000
namespace Go.Proofs.YtjlofobnmjompaaGreatDoor.Wd
open Go.RowKit
/-- A Leaf of parameters. -/
abbrev spL (D X:List Int):Sp:=⟨1,0,0,0,D,X,true⟩
/-- The Leafs of the first j parameters, and what is left. -/
def prS (PP:List (List Int)) (rest:List Int):Nat->List Sp×List Int
 | 0=>([],rest)
 | j+1=>((prS PP rest j).1++[spL (shA PP j) ((prS PP rest j).2.take (a_t (shA PP j)).toNat)],(prS PP rest j).2.drop (a_t (shA PP j)).toNat)
theorem i_X {PP:List (List Int)} {rest:List Int}:∀ j,(∀ i,i < j->0<=a_t (shA PP i))->(∀ i,i<=j->d_T PP i<=(rest.length:Int))->((prS PP rest j).2.length:Int)=(rest.length:Int) - d_T PP j/\(prS PP rest j).1.length=j
 | 0,_,_=>by simp [prS,d_T]
 | j+1,h,h2=>by
  obtain ⟨L,D⟩:=i_X j (fun i I=>h i (by omega)) (fun i I=>h2 i (by omega));have J:=h j (by omega);have H:=h2 (j+1) (by omega);simp only [d_T] at H ⊢;simp only [prS,List.length_drop,List.length_append,List.length_cons,List.length_nil];omega
/-- The numbers of nodes, from N on. -/
def k_a (N j:Nat):List Int:=(List.range j).map fun i=>((N+i:Nat):Int)
theorem m_T (N j:Nat):k_a N (j+1)=k_a N j++[((N+j:Nat):Int)]:=by simp [k_a,List.range_succ]
theorem Rn.low {B:Nat} {D W W':World} (h:Rn B D W) (L:B<=D.heap.size) (H:Below D.heap.size W W'):Rn B D W':=⟨h.bel.trans (H.mono L),Nat.le_trans h.onl.1 H.size,fun k I J=>(H.block k I).trans (h.onl.2 k I J)⟩
theorem PlanO.int {B:Nat} {D W W':World} {H:Nat} {sts:List Sp} {rest:List Int} (h:PlanO B D W H sts rest) (J:B<=D.heap.size) (I:Only [3] W W') (M:Below D.heap.size W W'):PlanO B D W' H sts rest:=by
 obtain ⟨hb,V,p,n,c,R,n2,U,xs,L,h3,O⟩:=h;exact ⟨hb,V.low J M,p,n,c,R,n2,U,xs,I.keep L (by decide),a_A h3 I (by decide),O⟩
theorem PlanO.rn {B:Nat} {D W:World} {H:Nat} {sts:List Sp} {rest:List Int} (h:PlanO B D W H sts rest):Rn B D W:=h.2.1
theorem Rn.block {B:Nat} {D W:World} (h:Rn B D W) {k:Nat} {H:Array Value} {e:TypeId} {I:Nat×Nat} (J:D.heap[k]?=some (.cells H e I)) (he:e∉S2):W.heap[k]?=some (.cells H e I):=h.onl.keep J he
theorem OwnS.dims {B:Nat} {H:World} {p:Option Addr} {n c:Nat} {PP:List (List Int)} (h:OwnS H 0 (.slice p n c) PP) (hn:PP.length=n):∀ j,j < n->∃ q o a b d,p=some ⟨q,o,none⟩/\(∀ W',Rn B H W'->W'.cell? ⟨q,o+j,none⟩=some (.slice a b d))/\Kept B H (.slice a b d) (shA PP j):=by
 subst hn;intro j J;obtain ⟨vs,I,U⟩:=h;obtain ⟨a,b,d,e,M⟩:=U j J;have D:=I;rcases I.2 with ⟨_,h0⟩|⟨g,V,O,L,hB,hc,_⟩
 ·omega
 ·cases L;refine ⟨g,0,a,b,d,rfl,fun W' R=>?_,M.kept (by decide)⟩;have:=World.ownsRow.cells (a_A D R.onl (by decide)) rfl j _ e;rw [a_u] at this;exact this
theorem s_a:GT Tryz.prog 30 3 1 8:=⟨Tryz.underlying30,by kernel_rfl⟩
/-- What a layer lays: its steps, and the number of what comes out. -/
def f_O (l:Ly) (d:List Int) (N:Nat) (rest:List Int) (bf last:Int):List Sp:=(prS (c_t l d) rest (c_t l d).length).1++(if a_s l.1=0 then n_k (decide (d.length=2)) (N+2) (N:Int) ((N+1:Nat):Int) last else if a_s l.1=1 then [spD 12 last (N:Int) 1] else if a_s l.1=2 then [spD 13 last 0 l.2.1] else if a_s l.1=3 then [spD 11 last 0 l.2.1] else [spD 2 bf last 0])
def k_T (l:Ly) (d:List Int) (N:Nat):Nat:=if a_s l.1=0 then r_a (decide (d.length=2)) (N+2) else if a_s l.1=1 then N+1 else N
def h_7 (l:Ly) (d:List Int) (rest:List Int):List Int:=(prS (c_t l d) rest (c_t l d).length).2
theorem m_U (B J N:Nat) (sts:List Sp) (rest:List Int) (hN:sts.length=N) (aZ:N<=180) (s:ByteArray) (a b:Int) (hl:a_R (s,a,b)) (d:List Int) (hd:InOk d) (ap:a_s s=1->d.length=2) (aG:psz (s,a,b) d<=(rest.length:Int)) (aJ:rest.length<=1073741824) (p:Option Addr) (n c:Nat) (bf H:Int) (w:World) (hP:PlanO B w w J sts rest) (h1:Kept B w (.slice p n c) d):
  Calls Tryz.prog 60 #[.pointer (some ⟨J,0,none⟩),.agg #[.string s,.int .i64 a,.int .i64 b],.slice p n c,.int .i64 bf,.int .i64 H] w fun e w'=>e = .returned (.int .i64 (k_T (s,a,b) d N:Int))/\PlanO B w' w' J (sts++f_O (s,a,b) d N rest bf H) (h_7 (s,a,b) d rest)/\Rn B w w':=by
 haveI:Nonempty World:=⟨w⟩
 obtain ⟨RN,av⟩:∃ R,k_T (s,a,b) d N=R:=⟨_,rfl⟩
 obtain ⟨RS,az⟩:∃ R,f_O (s,a,b) d N rest bf H=R:=⟨_,rfl⟩
 obtain ⟨RR,ay⟩:∃ R,h_7 (s,a,b) d rest=R:=⟨_,rfl⟩
 rw [av,az,ay];obtain ⟨PP,eP⟩:∃ PP,c_t (s,a,b) d=PP:=⟨_,rfl⟩
 have aM:d.length=n:=by
  obtain ⟨_,_,_,e,h⟩:=h1.nums.lst;cases e;exact h.out.1
 obtain ⟨L,aj⟩:∃ n,PP.length=n:=⟨_,rfl⟩
 have an:=j_9 hl hd;have aA:=e_0 (l:=(s,a,b)) (d:=d);have M:=f_N hl hd;have aa:=e_1 (s,a,b) d;rw [eP] at an aA M aa;rw [aj] at an aA M aa
 have am:∀ i,i < L->0<=a_t (shA PP i):=fun i hi=>by
  rw [<- eP,<- aj] at *;have hp:=hd.prod;unfold c_t at hi ⊢;rcases a_K hl with ⟨-,k,g1,g2⟩|⟨-,k,g1,g2⟩|⟨-,k,g1,g2⟩|⟨-,k,g1,g2⟩|⟨-,k,g1,g2⟩ <;> simp only [] at k g1 g2 hi ⊢ <;> rw [k] at hi ⊢ <;> simp at hi
  ·have:=a_1 g1 hp;rcases (show i=0∨i=1 by omega) with rfl|rfl <;> simp [shA,c_E,c_D] <;> omega
  ·subst hi;have h0:0<=d.getD 0 0:=by rcases hd with ⟨x,rfl,h⟩|⟨x,y,rfl,hx,hy⟩ <;> simp <;> omega
   simp only [if_neg (show ¬ (1:Nat)=0 by omega),if_true];show 0<=a_t [a,d.getD 0 0,b];rw [c_V];exact Int.mul_nonneg (Int.mul_nonneg (by omega) h0) (by omega)
 have ac:∀ i,i<=L->d_T PP i<=(rest.length:Int):=by
  have aV:∀ k i,i+k=L->d_T PP i<=d_T PP L:=by
   intro k
   induction k with
   | zero=>intro i hi;rw [show i=L by omega];exact Int.le_refl _
   | succ k ih=>
    intro i hi;have h5:=ih (i+1) (by omega);have h6:=am i (by omega);simp only [d_T] at h5;omega
  intro i hi;have:=aV (L - i) i (by omega);omega
 have af:∀ j,j<=L->((prS PP rest j).2.length:Int)=(rest.length:Int) - d_T PP j/\(prS PP rest j).1.length=j:=fun j hj=>i_X j (fun i hi=>am i (by omega)) (fun i hi=>ac i (by omega))
 have HM:Hid ((∀ j,j<=L->(prS PP rest j).2.length<=rest.length/\(prS PP rest j).1.length=j)/\(∀ j,j < L->(a_t (shA PP j)).toNat<=(prS PP rest j).2.length/\a_t (shA PP j)=((a_t (shA PP j)).toNat:Int)/\k_O (shA PP j))):=by
  refine ⟨fun j hj=>?_,fun j hj=>?_⟩
  ·have:=af j hj;have h5:=an j (by omega);exact ⟨by omega,this.2⟩
  ·have:=af j (by omega);have h5:=am j hj;have h6:=ac (j+1) (by omega);simp only [d_T] at h6;exact ⟨by omega,by omega,M j hj⟩
 have aU:=a_K hl
 have cp:Hid (∀ W,Below w.heap.size w W->Calls Tryz.prog 58 #[.agg #[.string s,.int .i64 a,.int .i64 b],.slice p n c] W fun e w'=>∃ v',e = .returned v'/\ParR PP v' w'/\Below W.heap.size W w'):=fun W hW=>by
  rw [<- eP];exact d_k s a b d hl hd ap p n c W (h1.nums.up hW)
 have D:Hid (k_T (s,a,b) d N=RN/\f_O (s,a,b) d N rest bf H=RS/\h_7 (s,a,b) d rest=RR/\c_t (s,a,b) d=PP/\PP.length=L/\d.length=n/\sts.length=N/\L<=2/\rest.length<=1073741824):=⟨av,az,ay,eP,aj,aM,hN,aa,aJ⟩
 have HP:Hid (PlanO B w w J sts rest):=hP;obtain ⟨t0,t1,t2,t3,-⟩:=kts s;clear av az ay eP aj aM an aA M am ac af hP h1 aG aJ ap hd hl hN;go_enter Tryz.func60,Tryz.ntmps60;go_wp2_with fail
 generalize aq:World.alloc _ _=W0;have ar:Hid (Below w.heap.size w W0):=by rw [<- aq];exact a_b w _
 have aB:Hid (W0.heap[w.heap.size]?=some (.cells #[.string s,.int .i64 a,.int .i64 b] 69 (0,0))):=by
  show _=_;rw [<- aq];exact Array.getElem?_push_size
 clear aq;refine (cp.out W0 ar.out).mono ?_;rintro e I ⟨v1,rfl,aX,aw⟩;obtain ⟨aS,a1,rfl,-,ah⟩:=aX;have ak:Below w.heap.size w I:=a_c ar.out aw;rw [D.out.2.2.2.2.1] at ah ⊢;have ab:Hid (PlanO B I I J sts rest/\B<=I.heap.size/\Rn B w I):=⟨(HP.out.up ak).on,Nat.le_trans HP.out.size ak.size,Rn.of HP.out.size ak⟩
 have HD:Hid (∀ j,j < L->∃ q o a b d,aS=some ⟨q,o,none⟩/\(∀ W',Rn B I W'->W'.cell? ⟨q,o+j,none⟩=some (.slice a b d))/\Kept B I (.slice a b d) (shA PP j)):=OwnS.dims ah D.out.2.2.2.2.1;have aQ:Hid (I.heap[w.heap.size]?=some (.cells #[.string s,.int .i64 a,.int .i64 b] 69 (0,0))):=(aw.block _ (a_i aB.out)).trans aB.out;have aL:L<=2:=aa;clear ah aw ak cp aB ar;go_wp2_with fail
 go_loopg [11,18] L (fun gg u v wr=>∃ (j:Nat),j<=L/\gg=L - j/\v = .int .i64 (j:Int)/\Hid (OwnK .i64 3 wr I.heap.size u (k_a N j))/\Hid (PlanO B I wr J (sts++(prS PP rest j).1) (prS PP rest j).2))
 case atStart=>exact ⟨0,by omega,by omega,rfl,OwnK.nil _ _ _ _,by show PlanO _ _ _ _ _ _;simpa [prS] using ab.out.1⟩
 case round=>
  obtain ⟨j,hj,hg,rfl,HO,HJ⟩:=hrel;obtain ⟨pv,nv,cv,rfl,V⟩:=HO.out.nums.lst;have aY:k_a N j=k_a N j:=rfl;have ao:=V.out.1;simp only [k_a,List.length_map,List.length_range] at ao;subst ao;clear aY;by_cases aE:j < L
  ·have a0:(j:Int) < (L:Int):=by omega
   obtain ⟨q,o,a3,b3,d3,rfl,ag,aI⟩:=HD.out j aE;have c0:=ag wr HJ.out.rn;obtain ⟨m1,m2,m3⟩:=HM.out.2 j aE;have ae:=HM.out.1 j (by omega);have ax:(sts++(prS PP rest j).1).length=N+j:=by rw [List.length_append,ae.2,D.out.2.2.2.2.2.2.1]
   have cq:=m_R B J (sts++(prS PP rest j).1) (prS PP rest j).2 (by rw [ax];omega) (shA PP j) m3 _ m2 m1 (by have:=D.out.2.2.2.2.2.2.2.2;omega) a3 b3 d3 I wr HJ.out aI;rw [ax] at cq;clear m1 m2 m3 aI ag ae ax V;go_wp2_with fail
   refine cq.mono ?_;rintro e w1 ⟨rfl,aK,aN⟩;have aF:Hid (OwnK .i64 3 w1 I.heap.size (.slice pv j cv) (k_a N j)):=HO.out.only aN.onl (by decide)
   have aC:Hid (PlanO B I w1 J (sts++(prS PP rest (j+1)).1) (prS PP rest (j+1)).2):=by
    have:=aK;rw [List.append_assoc] at this;exact this
   have aW:Hid (I.heap.size<=w1.heap.size):=aC.out.rn.size;have au:Below w1.heap.size w1 (w1.alloc (.cells #[.int .i64 ((N+j:Nat):Int)] 3)):=a_b w1 _
   have A1:Hid ((w1.alloc (.cells #[.int .i64 ((N+j:Nat):Int)] 3)).ownsRow I.heap.size 3 1 (.slice pv j cv) j (b_c .i64 (k_a N j))):=by
    have:=aF.out.up au;unfold OwnK at this;rw [show (k_a N j).length=j by simp [k_a]] at this;exact this
   have A2:Hid ((w1.alloc (.cells #[.int .i64 ((N+j:Nat):Int)] 3)).heap[w1.heap.size]?=some (.cells [Value.int .i64 ((N+j:Nat):Int)].toArray 3 (0,0))):=Array.getElem?_push_size;have A3:Hid (∀ y∈[Value.int .i64 ((N+j:Nat):Int)],y.oneCell'=true):=fun y hy=>by simp at hy;subst hy;rfl
   have A4:Hid (I.heap.size<=(w1.alloc (.cells #[.int .i64 ((N+j:Nat):Int)] 3)).heap.size):=Nat.le_trans aW.out au.size;clear cq aK aN HO HJ c0 au;go_wp2_with (at_builtin;refine b_p s_a (by decide) (by decide) rfl (.tmp 22) (.tmp 26) rfl I.heap.size _ _ _ rfl A1.out _ [.int .i64 ((N+j:Nat):Int)] rfl A2.out rfl A3.out (by omega) A4.out ?_;intro v0 w0 H0 O0 B0)
   have HF:Hid (OwnK .i64 3 w0 I.heap.size v0 (k_a N (j+1))):=by
    show OwnK _ _ _ _ _ _;unfold OwnK;rw [m_T,show (k_a N j++[((N+j:Nat):Int)]).length=j+1 by simp [k_a]];have:=H0.out;unfold b_c at *;rw [List.map_append];exact this
   have aP:Hid (PlanO B I w0 J (sts++(prS PP rest (j+1)).1) (prS PP rest (j+1)).2):=(aC.out.up (a_b w1 _)).int ab.out.2.1 O0.out (B0.out _ (Below.refl _ _));clear A1 A2 A3 A4 H0 O0 B0 aF aC;go_wp2;go_roundg (L - (j+1))
   case measure=>omega
   case rel=>exact ⟨j+1,by omega,rfl,by first|rfl|simp,HF,aP⟩
  ·obtain rfl:j=L:=by omega
   have hX:=HJ.out.rn.block aQ.out (by decide);obtain ⟨⟨y0,_⟩,⟨y1,_⟩,⟨y2,_⟩⟩:=t_i hX;have ai:(sts++(prS PP rest j).1).length=N+j:=by rw [List.length_append,(HM.out.1 j (Nat.le_refl _)).2,D.out.2.2.2.2.2.2.1]
   have ad:(c_t (s,a,b) d).length=j:=by rw [D.out.2.2.2.1];exact D.out.2.2.2.2.1
   have U:=V.out.2;clear hX aL aa;rcases aU with ⟨-,k,-⟩|⟨-,k,-⟩|⟨-,k,-⟩|⟨-,k,-⟩|⟨-,k,-⟩ <;> (try simp only [] at k) <;> rw [k] at t0 t1 t2 t3 <;> simp [c_t,k] at ad
   ·replace t0:=t0.trans (show decide ((0:Nat)=0)=true from rfl);subst ad;obtain ⟨q,o,rfl,c0⟩:=U 0 (by omega);obtain ⟨q',o',e',c1⟩:=U 1 (by omega);cases e';replace c0:wr.cell? ⟨q,o,none⟩=some (.int .i64 (N:Int)):=c0;replace c1:wr.cell? ⟨q,o+1,none⟩=some (.int .i64 ((N+1:Nat):Int)):=c1;have aT:=a_f c0;clear U V HO HD t1 t2 t3;go_wp2;refine rel [] 9 73 (by kernel_rfl) rfl rfl (by kernel_rfl) (by rfl) ?_ ?_
    ·intro e he;simp at he
    apply Exists.intro;refine ⟨fun x=>?_,?_,?_⟩
    ·simp only [List.take_succ_cons,List.take_zero]
     iterate 9
      refine a_n rfl rfl ?_;apply Exists.intro;refine ⟨fun F hF hf K hK=>?_,?_⟩
      ·have hFc:=hF.cell;have hFf:=hF.frozen
       go_big_quiet_op
       first|exact hK|(apply Exists.intro;refine ⟨fun _=>?_,?_⟩;(· fail);exact hK)
      (try simp only [Act.put,sA_,sB_,sC_])
     refine b_f ?_;exact rfl
    ·exact fun x=>rfl
    ·intro w9 xs aH hf;simp only [List.drop_succ_cons,List.drop_zero];have aO:Hid (PlanO B I w9 J (sts++(prS PP rest 2).1) (prS PP rest 2).2):=HJ.out.up aH;clear hf aH c0 c1;go_wp2_with fail
     refine (m_S B J (N+2) _ _ ai (by omega) (N:Int) ((N+1:Nat):Int) H p n c I w9 aO.out).mono ?_;rintro e O ⟨rfl,aD,aR⟩
     have HF:Hid (PlanO B O O J (sts++RS) RR/\Rn B w O):=by
      refine ⟨?_,ab.out.2.2.trans aD.rn⟩;have h3:=aD.on;rw [List.append_assoc] at h3;rw [<- D.out.2.1,<- D.out.2.2.1];unfold f_O h_7;rw [D.out.2.2.2.1,D.out.2.2.2.2.1,D.out.2.2.2.2.2.1];simp only [k,if_true];exact h3
     have eN:RN=r_a (decide (n=2)) (N+2):=by
      rw [<- D.out.1];unfold k_T;rw [D.out.2.2.2.2.2.1];simp only [k,if_true]
     rw [<- eN];clear aD aR D;go_wp2;go_ret;exact ⟨by first|rfl|simp [eN],HF.out⟩
   ·replace t0:=t0.trans (show decide ((1:Nat)=0)=false from rfl);replace t1:=t1.trans (show decide ((1:Nat)=1)=true from rfl);subst ad;obtain ⟨q,o,rfl,c0⟩:=U 0 (by omega);replace c0:wr.cell? ⟨q,o,none⟩=some (.int .i64 (N:Int)):=c0;have aT:=a_f c0;clear U V HO HD t2 t3;go_wp2_with fail
    refine (c_h B J (N+1) _ _ ai (by omega) 12 H (N:Int) 1 I wr HJ.out).mono ?_;rintro e O ⟨rfl,H2⟩
    have HF:Hid (PlanO B O O J (sts++RS) RR/\Rn B w O):=by
     refine ⟨?_,ab.out.2.2.trans H2.out.1.rn⟩;have h3:=H2.out.1.on;rw [List.append_assoc] at h3;rw [<- D.out.2.1,<- D.out.2.2.1];unfold f_O h_7;rw [D.out.2.2.2.1,D.out.2.2.2.2.1];simp only [k,if_true,if_false,if_neg (show ¬ (1:Nat)=0 by omega),if_neg (show ¬ (2:Nat)=0 by omega),if_neg (show ¬ (2:Nat)=1 by omega),if_neg (show ¬ (3:Nat)=0 by omega),if_neg (show ¬ (3:Nat)=1 by omega),if_neg (show ¬ (3:Nat)=2 by omega),if_neg (show ¬ (4:Nat)=0 by omega),if_neg (show ¬ (4:Nat)=1 by omega),if_neg (show ¬ (4:Nat)=2 by omega),if_neg (show ¬ (4:Nat)=3 by omega)];exact h3
    have eN:RN=N+1:=by
     rw [<- D.out.1];unfold k_T;simp only [k,if_true,if_false,if_neg (show ¬ (1:Nat)=0 by omega),if_neg (show ¬ (2:Nat)=0 by omega),if_neg (show ¬ (2:Nat)=1 by omega),if_neg (show ¬ (3:Nat)=0 by omega),if_neg (show ¬ (3:Nat)=1 by omega),if_neg (show ¬ (3:Nat)=2 by omega),if_neg (show ¬ (4:Nat)=0 by omega),if_neg (show ¬ (4:Nat)=1 by omega),if_neg (show ¬ (4:Nat)=2 by omega),if_neg (show ¬ (4:Nat)=3 by omega)]
     (try rfl)
    subst eN;clear H2 D;go_wp2;go_ret;exact ⟨by first|rfl|simp,HF.out⟩
   ·replace t0:=t0.trans (show decide ((2:Nat)=0)=false from rfl);replace t1:=t1.trans (show decide ((2:Nat)=1)=false from rfl);replace t2:=t2.trans (show decide ((2:Nat)=2)=true from rfl);subst ad;clear U V HO HD;go_wp2_with fail
    refine (c_h B J (N+0) _ _ ai (by omega) 13 H 0 a I wr HJ.out).mono ?_;rintro e O ⟨rfl,H2⟩
    have HF:Hid (PlanO B O O J (sts++RS) RR/\Rn B w O):=by
     refine ⟨?_,ab.out.2.2.trans H2.out.1.rn⟩;have h3:=H2.out.1.on;rw [List.append_assoc] at h3;rw [<- D.out.2.1,<- D.out.2.2.1];unfold f_O h_7;rw [D.out.2.2.2.1,D.out.2.2.2.2.1];simp only [k,if_true,if_false,if_neg (show ¬ (1:Nat)=0 by omega),if_neg (show ¬ (2:Nat)=0 by omega),if_neg (show ¬ (2:Nat)=1 by omega),if_neg (show ¬ (3:Nat)=0 by omega),if_neg (show ¬ (3:Nat)=1 by omega),if_neg (show ¬ (3:Nat)=2 by omega),if_neg (show ¬ (4:Nat)=0 by omega),if_neg (show ¬ (4:Nat)=1 by omega),if_neg (show ¬ (4:Nat)=2 by omega),if_neg (show ¬ (4:Nat)=3 by omega)];exact h3
    have eN:RN=N+0:=by
     rw [<- D.out.1];unfold k_T;simp only [k,if_true,if_false,if_neg (show ¬ (1:Nat)=0 by omega),if_neg (show ¬ (2:Nat)=0 by omega),if_neg (show ¬ (2:Nat)=1 by omega),if_neg (show ¬ (3:Nat)=0 by omega),if_neg (show ¬ (3:Nat)=1 by omega),if_neg (show ¬ (3:Nat)=2 by omega),if_neg (show ¬ (4:Nat)=0 by omega),if_neg (show ¬ (4:Nat)=1 by omega),if_neg (show ¬ (4:Nat)=2 by omega),if_neg (show ¬ (4:Nat)=3 by omega)]
     (try rfl)
    subst eN;clear H2 D;go_wp2;go_ret;exact ⟨by first|rfl|simp,HF.out⟩
   ·replace t0:=t0.trans (show decide ((3:Nat)=0)=false from rfl);replace t1:=t1.trans (show decide ((3:Nat)=1)=false from rfl);replace t2:=t2.trans (show decide ((3:Nat)=2)=false from rfl);replace t3:=t3.trans (show decide ((3:Nat)=3)=true from rfl);subst ad;clear U V HO HD;go_wp2_with fail
    refine (c_h B J (N+0) _ _ ai (by omega) 11 H 0 a I wr HJ.out).mono ?_;rintro e O ⟨rfl,H2⟩
    have HF:Hid (PlanO B O O J (sts++RS) RR/\Rn B w O):=by
     refine ⟨?_,ab.out.2.2.trans H2.out.1.rn⟩;have h3:=H2.out.1.on;rw [List.append_assoc] at h3;rw [<- D.out.2.1,<- D.out.2.2.1];unfold f_O h_7;rw [D.out.2.2.2.1,D.out.2.2.2.2.1];simp only [k,if_true,if_false,if_neg (show ¬ (1:Nat)=0 by omega),if_neg (show ¬ (2:Nat)=0 by omega),if_neg (show ¬ (2:Nat)=1 by omega),if_neg (show ¬ (3:Nat)=0 by omega),if_neg (show ¬ (3:Nat)=1 by omega),if_neg (show ¬ (3:Nat)=2 by omega),if_neg (show ¬ (4:Nat)=0 by omega),if_neg (show ¬ (4:Nat)=1 by omega),if_neg (show ¬ (4:Nat)=2 by omega),if_neg (show ¬ (4:Nat)=3 by omega)];exact h3
    have eN:RN=N+0:=by
     rw [<- D.out.1];unfold k_T;simp only [k,if_true,if_false,if_neg (show ¬ (1:Nat)=0 by omega),if_neg (show ¬ (2:Nat)=0 by omega),if_neg (show ¬ (2:Nat)=1 by omega),if_neg (show ¬ (3:Nat)=0 by omega),if_neg (show ¬ (3:Nat)=1 by omega),if_neg (show ¬ (3:Nat)=2 by omega),if_neg (show ¬ (4:Nat)=0 by omega),if_neg (show ¬ (4:Nat)=1 by omega),if_neg (show ¬ (4:Nat)=2 by omega),if_neg (show ¬ (4:Nat)=3 by omega)]
     (try rfl)
    subst eN;clear H2 D;go_wp2;go_ret;exact ⟨by first|rfl|simp,HF.out⟩
   ·replace t0:=t0.trans (show decide ((4:Nat)=0)=false from rfl);replace t1:=t1.trans (show decide ((4:Nat)=1)=false from rfl);replace t2:=t2.trans (show decide ((4:Nat)=2)=false from rfl);replace t3:=t3.trans (show decide ((4:Nat)=3)=false from rfl);subst ad;clear U V HO HD;go_wp2_with fail
    refine (c_h B J (N+0) _ _ ai (by omega) 2 bf H 0 I wr HJ.out).mono ?_;rintro e O ⟨rfl,H2⟩
    have HF:Hid (PlanO B O O J (sts++RS) RR/\Rn B w O):=by
     refine ⟨?_,ab.out.2.2.trans H2.out.1.rn⟩;have h3:=H2.out.1.on;rw [List.append_assoc] at h3;rw [<- D.out.2.1,<- D.out.2.2.1];unfold f_O h_7;rw [D.out.2.2.2.1,D.out.2.2.2.2.1];simp only [k,if_true,if_false,if_neg (show ¬ (1:Nat)=0 by omega),if_neg (show ¬ (2:Nat)=0 by omega),if_neg (show ¬ (2:Nat)=1 by omega),if_neg (show ¬ (3:Nat)=0 by omega),if_neg (show ¬ (3:Nat)=1 by omega),if_neg (show ¬ (3:Nat)=2 by omega),if_neg (show ¬ (4:Nat)=0 by omega),if_neg (show ¬ (4:Nat)=1 by omega),if_neg (show ¬ (4:Nat)=2 by omega),if_neg (show ¬ (4:Nat)=3 by omega)];exact h3
    have eN:RN=N+0:=by
     rw [<- D.out.1];unfold k_T;simp only [k,if_true,if_false,if_neg (show ¬ (1:Nat)=0 by omega),if_neg (show ¬ (2:Nat)=0 by omega),if_neg (show ¬ (2:Nat)=1 by omega),if_neg (show ¬ (3:Nat)=0 by omega),if_neg (show ¬ (3:Nat)=1 by omega),if_neg (show ¬ (3:Nat)=2 by omega),if_neg (show ¬ (4:Nat)=0 by omega),if_neg (show ¬ (4:Nat)=1 by omega),if_neg (show ¬ (4:Nat)=2 by omega),if_neg (show ¬ (4:Nat)=3 by omega)]
     (try rfl)
    subst eN;clear H2 D;go_wp2;go_ret;exact ⟨by first|rfl|simp,HF.out⟩
/-- The plan of the first i layers: its steps, the parameters that are left, what went in, what comes out. -/
def plF (d:List Int) (ls:List Ly) (S:List (List Int)) (P X:List Int):Nat->List Sp×List Int×Int×Int
 | 0=>([⟨1,0,0,0,d,X,false⟩],P,0,0)
 | i+1=>((plF d ls S P X i).1++f_O (lyA ls i) (shA S i) (plF d ls S P X i).1.length (plF d ls S P X i).2.1 (plF d ls S P X i).2.2.1 (plF d ls S P X i).2.2.2,h_7 (lyA ls i) (shA S i) (plF d ls S P X i).2.1,(plF d ls S P X i).2.2.2,(k_T (lyA ls i) (shA S i) (plF d ls S P X i).1.length:Int))
theorem m_V (PP:List (List Int)) (rest:List Int):∀ j,(prS PP rest j).1.length=j
 | 0=>rfl
 | j+1=>by simp [prS,m_V PP rest j]
theorem o_z (l:Ly) (d:List Int) (N:Nat) (rest:List Int) (I D:Int):(f_O l d N rest I D).length<=6:=by
 unfold f_O;rw [List.length_append,m_V];have:=e_1 l d;have J:a_s l.1≠0->(c_t l d).length<=1:=fun h=>by unfold c_t;rw [if_neg h];split <;> simp
 by_cases H:a_s l.1=0
 ·rw [if_pos H];unfold n_k;split <;> simp <;> omega
 ·have:=J H;rw [if_neg H]
  split
  ·simp;omega
  ·split
   ·simp;omega
   ·split <;> simp <;> omega
theorem h_a (d:List Int) (ls:List Ly) (S:List (List Int)) (P X:List Int):∀ i,(plF d ls S P X i).1.length<=1+6*i
 | 0=>by simp [plF]
 | i+1=>by
  have:=h_a d ls S P X i;have D:=o_z (lyA ls i) (shA S i) (plF d ls S P X i).1.length (plF d ls S P X i).2.1 (plF d ls S P X i).2.2.1 (plF d ls S P X i).2.2.2;simp only [plF,List.length_append];omega
theorem k_b {l:Ly} {d:List Int} (O:a_R l) (J:InOk d):∀ i,i < (c_t l d).length->0<=a_t (shA (c_t l d) i):=fun i H=>by
 have L:=J.prod;unfold c_t at H ⊢;rcases a_K O with ⟨-,k,D,I⟩|⟨-,k,D,I⟩|⟨-,k,D,I⟩|⟨-,k,D,I⟩|⟨-,k,D,I⟩ <;> rw [k] at H ⊢ <;> simp at H
 ·have:=a_1 D L;rcases (show i=0∨i=1 by omega) with rfl|rfl <;> simp [shA,c_E,c_D] <;> omega
 ·subst H;have M:0<=d.getD 0 0:=by rcases J with ⟨x,rfl,h⟩|⟨x,y,rfl,R,U⟩ <;> simp <;> omega
  simp only [if_neg (show ¬ (1:Nat)=0 by omega),if_true];show 0<=a_t [l.2.1,d.getD 0 0,l.2.2];rw [c_V];exact Int.mul_nonneg (Int.mul_nonneg (by omega) M) (by omega)
theorem p_m {l:Ly} {d:List Int} (D:a_R l) (H:InOk d):∀ k i,i+k=(c_t l d).length->d_T (c_t l d) i<=d_T (c_t l d) (c_t l d).length
 | 0,i,hi=>by rw [show i=(c_t l d).length by omega];exact Int.le_refl _
 | k+1,i,hi=>by
  have I:=p_m D H k (i+1) (by omega);have J:=k_b D H i (by omega);simp only [d_T] at I;omega
theorem o_A {l:Ly} {d:List Int} (D:a_R l) (H:InOk d) {rest:List Int} (h:psz l d<=(rest.length:Int)):((h_7 l d rest).length:Int)=(rest.length:Int) - psz l d:=by
 unfold h_7;rw [<- e_0] at h ⊢;exact (i_X (PP:=c_t l d) (rest:=rest) _ (k_b D H) (fun i I=>Int.le_trans (p_m D H ((c_t l d).length - i) i (by omega)) h)).1
theorem i_Y {d:List Int} {ls:List Ly} {S:List (List Int)} (H:NetOk d ls S):∀ i,i<=ls.length->b_4 ls S i<=b_4 ls S ls.length:=by
 have D:∀ k i,i+k=ls.length->b_4 ls S i<=b_4 ls S ls.length:=by
  intro k
  induction k with
  | zero=>intro i I;rw [show i=ls.length by omega];exact Int.le_refl _
  | succ k ih=>
   intro i I;have J:=ih (i+1) (by omega);have L:=e_D (H.inn i (by omega)) (H.lay i (by omega));simp only [b_4] at J;omega
 exact fun i I=>D (ls.length - i) i (by omega)
theorem h_b {d:List Int} {ls:List Ly} {S:List (List Int)} {P X:List Int} (H:NetOk d ls S) (I:(P.length:Int)=b_4 ls S ls.length):∀ i,i<=ls.length->((plF d ls S P X i).2.1.length:Int)=(P.length:Int) - b_4 ls S i/\(i < ls.length->psz (lyA ls i) (shA S i)<=((plF d ls S P X i).2.1.length:Int))
 | 0,_=>by
  refine ⟨by simp [plF,b_4],fun h=>?_⟩;have D:=i_Y H 1 (by omega);simp only [b_4] at D;simp only [plF];omega
 | i+1,hi=>by
  obtain ⟨M,J⟩:=h_b (X:=X) H I i (by omega);have L:=J (by omega);have O:=o_A (H.lay i (by omega)) (H.inn i (by omega)) L
  have e:((plF d ls S P X (i+1)).2.1.length:Int)=(P.length:Int) - b_4 ls S (i+1):=by
   simp only [plF,b_4];omega
  refine ⟨e,fun h=>?_⟩;have D:=i_Y H (i+1+1) (by omega);rw [e];simp only [b_4] at D ⊢;omega
theorem k_U (B:Nat) (d:List Int) (ls:List Ly) (S:List (List Int)) (ok:NetOk d ls S) (aD:ls.length<=16) (P X:List Int) (aB:(P.length:Int)=b_4 ls S ls.length) (aq:P.length<=1073741824) (p p2 ps pp px:Option Addr) (n c I c2 ns cs np cp nx cx:Nat) (w:World) (hB:B<=w.heap.size) (av:Kept B w (.slice p n c) d) (ai:∀ W',Rn B w W'->LyR 0 W' p2 I ls) (aL:OwnS w 0 (.slice ps ns cs) S) (an:S.length=ns) (hp:Kept B w (.slice pp np cp) P) (aI:np<=cp) (hx:Kept B w (.slice px nx cx) X):
  Calls Tryz.prog 39 #[.agg #[.slice p n c,.slice p2 I c2],.slice ps ns cs,.slice pp np cp,.slice px nx cx] w fun e w'=>∃ q m r xs,e = .returned (.slice q m r)/\(plF d ls S P X ls.length).1.length=m/\w'.ownsRow B 129 7 (.slice q m r) m xs/\StsC B w' (plF d ls S P X ls.length).1 xs/\Rn B w w':=by
 haveI:Nonempty World:=⟨w⟩
 obtain ⟨F,eF⟩:∃ F,plF d ls S P X=F:=⟨_,rfl⟩
 have M:=h_a d ls S P X;have J:=h_b (P:=P) (X:=X) ok aB;have h0:F 0=([⟨1,0,0,0,d,X,false⟩],P,0,0):=by rw [<- eF];rfl
 have hs:∀ i,F (i+1)=((F i).1++f_O (lyA ls i) (shA S i) (F i).1.length (F i).2.1 (F i).2.2.1 (F i).2.2.2,h_7 (lyA ls i) (shA S i) (F i).2.1,(F i).2.2.2,(k_T (lyA ls i) (shA S i) (F i).1.length:Int)):=fun i=>by rw [<- eF];rfl
 rw [eF] at M J ⊢;have HF:Hid (F 0=([⟨1,0,0,0,d,X,false⟩],P,0,0)/\(∀ i,F (i+1)=((F i).1++f_O (lyA ls i) (shA S i) (F i).1.length (F i).2.1 (F i).2.2.1 (F i).2.2.2,h_7 (lyA ls i) (shA S i) (F i).2.1,(F i).2.2.2,(k_T (lyA ls i) (shA S i) (F i).1.length:Int)))/\(∀ i,(F i).1.length<=1+6*i)/\(∀ i,i<=ls.length->((F i).2.1.length:Int)=(P.length:Int) - b_4 ls S i/\(i < ls.length->psz (lyA ls i) (shA S i)<=((F i).2.1.length:Int)))):=⟨h0,hs,M,J⟩
 have az:P.length=np:=by
  obtain ⟨_,_,_,e,h⟩:=hp.nums.lst;cases e;exact h.out.1
 have ag:ls.length=I:=(ai w (Rn.refl _ _)).1;have L:Hid (NetOk d ls S/\ls.length<=16/\Kept B w (.slice p n c) d/\(∀ W',Rn B w W'->LyR 0 W' p2 I ls)/\Kept B w (.slice pp np cp) P/\np<=cp/\Kept B w (.slice px nx cx) X/\P.length<=1073741824/\P.length=np/\ls.length=I):=⟨ok,aD,av,ai,hp,aI,hx,aq,az,ag⟩
 have aR:Hid (∀ j,j < ns->∃ q o a b d,ps=some ⟨q,o,none⟩/\(∀ W',Rn B w W'->W'.cell? ⟨q,o+j,none⟩=some (.slice a b d))/\Kept B w (.slice a b d) (shA S j)):=OwnS.dims aL an;have ax:ns=I+1:=by rw [<- an,ok.len,ag]
 subst ax;have aS:I<=16:=by omega
 clear eF h0 hs M J av ai aL an hp aI hx aq aB ok aD az ag;go_enter Tryz.func39,Tryz.ntmps39;go_wp2_with fail
 generalize U:World.alloc _ _=W0;have aU:W0.heap.size=w.heap.size+2:=by rw [<- U];simp
 have ar:Below w.heap.size w W0:=by rw [<- U];go_grown
 have ak:Rn B w W0:=Rn.of hB ar
 have aK:Hid (W0.heap[w.heap.size]?=some (.cells #[.slice p n c,.slice p2 I c2] 33 (0,0))/\W0.heap[w.heap.size+1]?=some (.cells #[.slice none 0 0,.slice pp np cp] 126 (0,0))):=by
  show _/\_;rw [<- U];refine ⟨((a_b _ _).block _ (by simp)).trans Array.getElem?_push_size,?_⟩;rw [show w.heap.size+1=(w.alloc (.cells #[.slice p n c,.slice p2 I c2] 33)).heap.size by simp];exact Array.getElem?_push_size
 have ab:Hid (PlanO B W0 W0 (w.heap.size+1) [] P/\Rn B w W0):=⟨⟨by omega,Rn.refl _ _,_,_,_,_,_,_,[],aK.out.2,⟨rfl,.inl ⟨rfl,rfl⟩⟩,rfl,StsC.nil _ _,L.out.2.2.2.2.1.up ak,L.out.2.2.2.2.2.1,L.out.2.2.2.2.2.2.2.2.1⟩,ak⟩
 clear U ar ak;refine (g_9 B (w.heap.size+1) [] P (by simp) ⟨1,0,0,0,d,X,false⟩ p n c px nx cx W0 W0 ab.out.1 (L.out.2.2.1.up ab.out.2) (L.out.2.2.2.2.2.2.1.up ab.out.2)).mono ?_;rintro e w1 ⟨rfl,aF,ap⟩
 have aE:Hid (PlanO B w1 w1 (w.heap.size+1) (F 0).1 (F 0).2.1/\Rn B W0 w1):=by
  rw [HF.out.1];exact ⟨aF.on,ap⟩
 have aN:Hid (w1.heap[w.heap.size]?=some (.cells #[.slice p n c,.slice p2 I c2] 33 (0,0))):=ap.block aK.out.1 (by decide);obtain ⟨_,⟨g1,_⟩⟩:=e_n aN.out;clear aF ap;go_wp2_with fail
 go_loopg [10,11,27] I (fun gg u u2 v wr=>∃ (k:Nat),k<=I/\gg=I - k/\u = .int .i64 (F k).2.2.1/\u2 = .int .i64 (F k).2.2.2/\v = .int .i64 (k:Int)/\Hid (PlanO B wr wr (w.heap.size+1) (F k).1 (F k).2.1/\Rn B w wr))
 case atStart=>exact ⟨0,by omega,by omega,by rw [HF.out.1],by rw [HF.out.1],rfl,aE.out.1,ab.out.2.trans aE.out.2⟩
 case round=>
  obtain ⟨k,hk,hg,rfl,rfl,rfl,R⟩:=hrel;by_cases aJ:k < I
  ·have aZ:(k:Int) < (I:Int):=by omega
   have aX:(k:Int) < ((I+1:Nat):Int):=by omega
   have ac:k < ls.length:=by rw [L.out.2.2.2.2.2.2.2.2.2];exact aJ
   obtain ⟨q,o,rfl,y0,y1,y2⟩:=(L.out.2.2.2.1 wr R.out.2).2 k aJ;obtain ⟨q3,o3,a3,b3,d3,rfl,aG,aC⟩:=aR.out k (by omega);have s3:=aG wr R.out.2;have O:=HF.out.2.1 k;have au:=HF.out.2.2.1 k;have aa:=HF.out.2.2.2 k (by omega);obtain ⟨l,el⟩:∃ l,lyA ls k=l:=⟨_,rfl⟩
   have ao:=L.out.1.lay k ac;have V:=L.out.1.fit k ac;have aw:=L.out.1.inn k ac;rw [el] at y0 y1 y2 ao V O aa;obtain ⟨s,a,b⟩:=l;simp only [] at y0 y1 y2 V;obtain ⟨N,eN⟩:∃ N,(F k).1.length=N:=⟨_,rfl⟩
   obtain ⟨bf,ae⟩:∃ x,(F k).2.2.1=x:=⟨_,rfl⟩
   obtain ⟨la,aj⟩:∃ x,(F k).2.2.2=x:=⟨_,rfl⟩
   rw [eN,ae,aj] at O;rw [eN] at au;rw [ae,aj]
   have cL:Hid (∀ W,Below wr.heap.size wr W->Calls Tryz.prog 60 #[.pointer (some ⟨w.heap.size+1,0,none⟩),.agg #[.string s,.int .i64 a,.int .i64 b],.slice a3 b3 d3,.int .i64 bf,.int .i64 la] W fun e w'=>e = .returned (.int .i64 (F (k+1)).2.2.2)/\PlanO B w' w' (w.heap.size+1) (F (k+1)).1 (F (k+1)).2.1/\Rn B W w'):=fun W hW=>by
    have hR:Rn B w W:=R.out.2.trans (Rn.of R.out.1.size hW);have:=m_U B (w.heap.size+1) N (F k).1 (F k).2.1 eN (by omega) s a b ao (shA S k) aw V (aa.2 ac) (by have h7:=aa.1;have h8:=g_6 (ls:=ls) (S:=S) (i:=k) (fun j hj=>L.out.1.inn j (by omega)) (fun j hj=>L.out.1.lay j (by omega));have h9:=L.out.2.2.2.2.2.2.2.1;omega) a3 b3 d3 bf la W (R.out.1.up hW).on (aC.up hR);rw [O];exact this
   have aP:Hid ((F (k+1)).2.2.1=la):=by show _=_;rw [O]
   have aV:=a_f y0;have aY:=a_f s3;clear O au aa ao V aw aG aC el eN ae aj;go_wp2;generalize af:World.alloc _ _=W2;have am:Hid (Below wr.heap.size wr W2):=by rw [<- af];exact a_b wr _
   obtain ⟨e0,e1,e2⟩:W2.cell? ⟨wr.heap.size,0,none⟩=some (.string s)/\W2.cell? ⟨wr.heap.size,1,none⟩=some (.int .i64 a)/\W2.cell? ⟨wr.heap.size,2,none⟩=some (.int .i64 b):=by rw [<- af];simp [go_sem]
   replace s3:=a_h am.out s3;have aW:=a_f e0;have aQ:=a_f s3;clear af y0 y1 y2;refine l_v [] 9 47 (by kernel_rfl) rfl rfl 0 _ rfl (by decide) rfl (by kernel_rfl) (by kernel_rfl) (fun _ _ _ _ h=>h) (by rfl) ?_ ?_
   ·intro e he;simp at he
   apply Exists.intro;refine ⟨?yl1,?wk1,?pk1,?rest1⟩
   case wk1=>
    intro x;simp only [List.take_succ_cons,List.take_zero]
    iterate 9
     refine a_n rfl rfl ?_;apply Exists.intro;refine ⟨fun F hF hf K hK=>?_,?_⟩
     ·have hFc:=hF.cell;have hFf:=hF.frozen
      go_big_quiet_op
      first|exact hK|(apply Exists.intro;refine ⟨fun _=>?_,?_⟩;(· fail);exact hK)
     (try simp only [Act.put,sA_,sB_,sC_])
    refine b_f ?_;exact rfl
   case pk1=>
    intro x;simp only [b_n,List.foldl_cons,List.foldl_nil,Act.put,sA_,sB_,sC_]
   case yl1=>
    intro x hx;have e9:True:=trivial;refine ⟨.int .i64 la,fun t ht=>?_,.inl ⟨by rfl,fun w=>?_⟩⟩
    ·cases ht;rfl
    ·simp [execOp,Act.eval,e9,go_sem]
   intro w9 xs ay hf;simp only [List.drop_succ_cons,List.drop_zero];have ah:Hid (Below wr.heap.size wr w9):=a_c am.out ay;clear hf ay e0 e1 e2 s3 aQ;go_wp2_with fail
   refine (cL.out w9 ah.out).mono ?_;rintro e w2 ⟨rfl,aM,aA⟩;have aO:Hid (PlanO B w2 w2 (w.heap.size+1) (F (k+1)).1 (F (k+1)).2.1/\Rn B w w2):=⟨aM,(R.out.2.trans (Rn.of R.out.1.size ah.out)).trans aA⟩
   clear aM aA cL R ah am;go_wp2;go_roundg (I - (k+1))
   case measure=>omega
   case rel=>exact ⟨k+1,by omega,rfl,by rw [aP.out],rfl,by first|rfl|simp,aO⟩
  ·obtain rfl:k=I:=by omega
   have aH:=L.out.2.2.2.2.2.2.2.2.2;obtain ⟨hb,hr,q,m,r,pR,nR,cR,xs,h1,h3,h4,h5,_⟩:=R.out.1;obtain ⟨⟨x0,_⟩,_⟩:=e_n h1
   have HE:Hid ((F ls.length).1.length=m/\wr.ownsRow B 129 7 (.slice q m r) m xs/\StsC B wr (F ls.length).1 xs/\Rn B w wr):=by
    rw [aH];exact ⟨h4,by rw [h4] at h3;exact h3,h5,R.out.2⟩
   clear hb hr h1 h3 h4 h5 aH;go_wp2;go_ret;exact ⟨_,_,_,_,rfl,HE.out⟩
end Go.Proofs.YtjlofobnmjompaaGreatDoor.Wd
namespace Go.Proofs.YtjlofobnmjompaaGreatDoor.Wd
open Go.RowKit Fx
def spA (sts:List Sp) (i:Nat):Sp:=sts.getD i ⟨1,0,0,0,[],[],false⟩
/-- The first i steps: an error, the nodes, the last node, the parameters' nodes. -/
def pyF (f:Int) (sts:List Sp) (ns:List Nd):Nat->Int×List Nd×Int×List Int
 | 0=>(0,ns,0,[])
 | i+1=>if (pyF f sts ns i).1=0 then (stE f (pyF f sts ns i).2.1 (spA sts i),stN f (pyF f sts ns i).2.1 (spA sts i),stR f (pyF f sts ns i).2.1 (spA sts i),if (spA sts i).par=true then (pyF f sts ns i).2.2.2++[stR f (pyF f sts ns i).2.1 (spA sts i)] else (pyF f sts ns i).2.2.2) else pyF f sts ns i
theorem i_Z {P:Program} {t e:TypeId} {s b:Nat} (T:GT P t e s b) (hb:b<=256) (U:0 < s) {ops:Array Oper} {rest:List Oper} {o:Oper} {a:Act} {Q:Exit->Act->World->Prop} {w:World} (aa:o.guard=none) (sx x:Operand)
  (ho:o.op = .call { callee:=.builtin .append,args:=#[sx,x],argTypes:=#[t,t] }) (B:Nat) (v:Value) (n:Nat) (xs:List Value) (hs:a.eval sx=v) (I:w.ownsRow B e s v n xs) (g:Nat) (u:List Value) (hx:a.eval x = .slice (some ⟨g,0,none⟩) 1 1)
  (hg:w.heap[g]?=some (.cells u.toArray e (0,0))) (hu:u.length=s) (h1:∀ y∈u,y.oneCell'=true) (hn:n+1<=1073741825) (hB:B<=w.heap.size)
  (h:∀ H M,Hid (M.ownsRow B e s H (n+1) (xs++u))->Hid (w.grownBy M v.ownBlock)->Hid (H.ownBlock=v.ownBlock∨H.ownBlock=some w.heap.size)->wpList P ops Q rest (a.put o.dst H) M):wpList P ops Q (o :: rest) a w:=by
 have J:=T.hi;cases R:P.info? e with
 | none=>rw [R] at J;cases J
 | some i=>
  rw [R] at J;simp only [Option.map_some,Option.some.injEq,Prod.mk.injEq] at J;obtain ⟨L,V,O⟩:=J;cases D:i.zero with
  | none=>rw [D] at L;cases L
  | some z=>
   rw [D] at L;simp only [Option.map_some,Option.some.injEq] at L;have hm:(n+1)*b<=1073741825*256:=Nat.mul_le_mul hn hb
   exact wpList_append_own_at w aa sx x t ho B e i z s b T.ht R D V O L U v n xs hs I ⟨g,0,none⟩ 1 1 u hx (by omega) (fun j y hj=>by
    rw [a_u,Nat.zero_add];unfold World.cell?;simpa [hg] using hj) h1 (by unfold maxLen;omega) (by omega) hB (fun H M h2 h3 _ h5=>h H M h2 h3 h5)
theorem t_X {B n c:Nat} {W W':World} {p:Option Addr} {sts:List Sp} {xs:List Value} {Bs m:Nat} (ho:W'.ownsRow Bs 129 7 (.slice p m c) m xs) (H:StsC B W sts xs) (hm:sts.length=m) (i:Nat) (hi:i < m):
  ∃ q U L O M R J,p=some ⟨q,0,none⟩/\W'.cell? ⟨q,i*7,none⟩=some (.int .i64 (spA sts i).op)/\W'.cell? ⟨q,i*7+1,none⟩=some (.int .i64 (spA sts i).a)/\W'.cell? ⟨q,i*7+2,none⟩=some (.int .i64 (spA sts i).b)/\W'.cell? ⟨q,i*7+3,none⟩=some (.int .i64 (spA sts i).k)/\W'.cell? ⟨q,i*7+4,none⟩=some (.slice U L O)/\W'.cell? ⟨q,i*7+5,none⟩=some (.slice M R J)/\W'.cell? ⟨q,i*7+6,none⟩=some (.bool (spA sts i).par)/\Kept B W (.slice U L O) (spA sts i).D/\Kept B W (.slice M R J) (spA sts i).X:=by
 have V:sts[i]?=some (spA sts i):=by
  unfold spA;rw [List.getD_eq_getElem?_getD,List.getElem?_eq_getElem (by omega)];rfl
 obtain ⟨U,L,O,M,R,J,e,h1,h2⟩:=H.2 i _ V
 have I:∀ j u,((xs.drop (i*7)).take 7)[j]?=some u->xs[i*7+j]?=some u:=fun j u h=>by
  rw [List.getElem?_take] at h
  split at h
  ·rw [List.getElem?_drop] at h;exact h
  ·cases h
 rw [e] at I;rcases ho.2 with ⟨h0,h1⟩|⟨g,aa,ab,hv,hb,hg,rest⟩
 ·omega
 ·cases hv
  have H:∀ j u,xs[j]?=some u->W'.cell? ⟨g,j,none⟩=some u:=fun j u h=>by
   have:=ho.cells (g:=g) rfl j u h;rw [a_u,Nat.zero_add] at this;exact this
  exact ⟨g,U,L,O,M,R,J,rfl,H _ _ (I 0 _ rfl),H _ _ (I 1 _ rfl),H _ _ (I 2 _ rfl),H _ _ (I 3 _ rfl),H _ _ (I 4 _ rfl),H _ _ (I 5 _ rfl),H _ _ (I 6 _ rfl),h1,h2⟩
theorem k_c (f:Int) (sts:List Sp) (ns:List Nd) (i:Nat) (h:(pyF f sts ns i).1≠0):∀ k,pyF f sts ns (i+k)=pyF f sts ns i
 | 0=>rfl
 | k+1=>by
  have e:=k_c f sts ns i h k;show (if (pyF f sts ns (i+k)).1=0 then _ else pyF f sts ns (i+k))=_;rw [e,if_neg h]
theorem i_0 (f:Int) (sts:List Sp) (ns:List Nd):∀ i,(pyF f sts ns i).2.2.2.length<=i
 | 0=>by simp [pyF]
 | i+1=>by
  have:=i_0 f sts ns i;unfold pyF
  split
  ·dsimp only
   split
   ·rw [List.length_append];simp;omega
   ·omega
  ·omega
theorem NodesG.st {f:Int} {ns:List Nd} {st:Sp} (h:NodesG ns) (D:RI st.X):NodesG (stN f ns st):=by
 unfold stN
 split
 ·exact h.leaf D
 ·exact h.do
/-- The parameters' row, and that no node lies there. -/
structure PrO (w:World) (B tb:Nat) (ps:List Int) (v:Value) (W:World):Prop where
 own:OwnK .i64 3 W w.heap.size v ps
 off:∀ x,v.ownBlock=some x->AvT x W tb
theorem PrO.nil (w:World) (B D:Nat) (W:World):PrO w B D [] (.slice none 0 0) W:=⟨OwnK.nil _ _ _ _,fun x h=>by cases h⟩
theorem PrO.lt {w:World} {B D:Nat} {ps:List Int} {v:Value} {W:World} (h:PrO w B D ps v W):∀ x,v.ownBlock=some x->w.heap.size<=x/\x < W.heap.size:=fun x H=>World.ownsRow.lt h.own x H
theorem PrO.tape {w:World} {B D:Nat} {ps:List Int} {v:Value} {W W':World} (h:PrO w B D ps v W) (J:Only SC W W') (I:Spar2 D W W'):PrO w B D ps v W':=⟨h.own.only J (by decide),fun x H=>I.2 x (h.lt x H).2 (h.off x H)⟩
theorem PrO.up {w:World} {B H:Nat} {ps:List Int} {v:Value} {W W':World} (h:PrO w B H ps v W) (D:Below W.heap.size W W'):PrO w B H ps v W':=⟨h.own.up D,fun x I=>(h.off x I).up D⟩
theorem k_V {a b:World} (h:a.grownBy b none):Below a.heap.size a b:=⟨h.os,h.tape,h.output,h.size,fun k D=>h.block k D (fun e=>by cases e)⟩
theorem PrO.grow {w:World} {B tb:Nat} {ps:List Int} {ns:List Nd} {v V:Value} {x:Int} {W W':World} (h:PrO w B tb ps v W) (U:TapC W B tb ns) (ho:W'.ownsRow w.heap.size 3 1 V (ps.length+1) (b_c .i64 ps++[.int .i64 x])) (I:W.grownBy W' v.ownBlock) (H:V.ownBlock=v.ownBlock∨V.ownBlock=some W.heap.size):PrO w B tb (ps++[x]) V W'/\TapC W' B tb ns/\(∀ D,Below B D W->Only SC D W->D.heap.size<=w.heap.size->B<=w.heap.size->Below B D W'/\Only SC D W'):=by
 have L:OwnK .i64 3 W' w.heap.size V (ps++[x]):=by
  unfold OwnK;rw [List.length_append];unfold b_c at *;rw [List.map_append];exact ho
 have M:∀ D,Below B D W->Only SC D W->D.heap.size<=w.heap.size->B<=w.heap.size->Below B D W'/\Only SC D W':=fun D ab R hz aa=>by
  refine ⟨Below.grown ab I ?_ fun k hk=>Nat.le_trans aa (h.lt k hk).1,Nat.le_trans R.1 I.size,fun k hk hp=>?_⟩
  ·obtain ⟨hb,_,_,hv,_⟩:=U;exact Nat.le_trans hb (Nat.le_of_lt (a_i hv))
  ·rw [I.block k (Nat.lt_of_lt_of_le hk R.1) (fun e=>by have:=(h.lt k e.symm).1;omega)];exact R.2 k hk hp
 cases hb:v.ownBlock with
 | none=>
  rw [hb] at I H;have hB:=k_V I;refine ⟨⟨L,fun y J=>?_⟩,U.up hB,M⟩;rcases H with O|O
  ·rw [O] at J;cases J
  ·rw [O] at J;cases J;exact (U.av (Nat.le_refl _)).up hB
 | some r=>
  rw [hb] at I H
  obtain ⟨cs,fz,hr⟩:∃ cs fz,W.heap[r]?=some (.cells cs 3 fz):=by
   rcases h.own.2 with ⟨rfl,_⟩|⟨g,ac,ad,rfl,_,hc,_⟩
   ·cases hb
   ·cases hb;exact ⟨_,_,hc⟩
  refine ⟨⟨L,fun y J=>?_⟩,U.beside I hr (h.off r hb),M⟩;rcases H with O|O
  ·rw [O] at J;cases J;exact (h.off r hb).beside U I hr
  ·rw [O] at J;cases J;exact (U.av (Nat.le_refl _)).beside U I hr
theorem o_B (B J:Nat) (ns:List Nd) (hG:NodesG ns) (sts:List Sp) (aa:∀ i,i < sts.length->SpOk (spA sts i)/\((spA sts i).op≠1->RkC (spA sts i).op)) (aq:sts.length<=200) (aF:ns.length<=512) (q:Option Addr) (m r Bs:Nat) (xs:List Value) (hm:sts.length=m) (w:World) (hT:TapC w B J ns) (aG:Hid (∀ W,Below B w W->Tz W)) (ho:w.ownsRow Bs 129 7 (.slice q m r) m xs) (hc:StsC B w sts xs):
  Calls Tryz.prog 41 #[.pointer (some ⟨J,0,none⟩),.slice q m r] w fun e w'=>∃ v,e = .returned (.tuple #[.int .i64 (if (pyF ns.length sts ns m).1=0 then (pyF ns.length sts ns m).2.2.1 else 0),v,.int .i64 (pyF ns.length sts ns m).1])/\OwnK .i64 3 w' w.heap.size v (if (pyF ns.length sts ns m).1=0 then (pyF ns.length sts ns m).2.2.2 else [])/\TapC w' B J (pyF ns.length sts ns m).2.1/\Below B w w'/\Only SC w w':=by
 haveI:Nonempty World:=⟨w⟩
 have aj:=d_B B J ns w hT
 have aw:B<=w.heap.size:=by
  obtain ⟨hb,_,_,hv,_⟩:=hT;exact Nat.le_trans hb (Nat.le_of_lt (a_i hv))
 obtain ⟨f,ef⟩:∃ f:Int,(ns.length:Int)=f:=⟨_,rfl⟩
 have hf:0<=f/\f<=1000:=by omega
 rw [ef] at aj ⊢;have V:=k_c f sts ns;have ac:=i_0 f sts ns;obtain ⟨F,eF⟩:∃ F,pyF f sts ns=F:=⟨_,rfl⟩
 have h0:F 0=(0,ns,0,[]):=by rw [<- eF];rfl
 have hs:∀ i,(F i).1=0->F (i+1)=(stE f (F i).2.1 (spA sts i),stN f (F i).2.1 (spA sts i),stR f (F i).2.1 (spA sts i),if (spA sts i).par=true then (F i).2.2.2++[stR f (F i).2.1 (spA sts i)] else (F i).2.2.2):=fun i h=>by
  rw [<- eF] at h ⊢
  conv=>lhs;unfold pyF
  rw [if_pos h]
 rw [eF] at V ac ⊢;have HF:Hid (F 0=(0,ns,0,[])/\(∀ i,(F i).1=0->F (i+1)=(stE f (F i).2.1 (spA sts i),stN f (F i).2.1 (spA sts i),stR f (F i).2.1 (spA sts i),if (spA sts i).par=true then (F i).2.2.2++[stR f (F i).2.1 (spA sts i)] else (F i).2.2.2))/\(∀ i,(F i).1≠0->∀ k,F (i+k)=F i)/\(∀ i,(F i).2.2.2.length<=i)):=⟨h0,hs,V,ac⟩
 have HK:Hid (B<=w.heap.size/\w.ownsRow Bs 129 7 (.slice q m r) m xs/\StsC B w sts xs/\sts.length=m/\(∀ i,i < m->SpOk (spA sts i)/\((spA sts i).op≠1->RkC (spA sts i).op))):=⟨aw,ho,hc,hm,by rw [<- hm];exact aa⟩
 have HT:Hid (TapC w B J ns/\NodesG ns):=⟨hT,hG⟩
 have aL:m<=200:=by omega
 obtain ⟨LR,am⟩:∃ z,(if (F m).1=0 then (F m).2.2.1 else 0)=z:=⟨_,rfl⟩
 obtain ⟨PR,an⟩:∃ z,(if (F m).1=0 then (F m).2.2.2 else [])=z:=⟨_,rfl⟩
 rw [am,an];have ay:Hid ((if (F m).1=0 then (F m).2.2.1 else 0)=LR/\(if (F m).1=0 then (F m).2.2.2 else [])=PR):=⟨am,an⟩
 clear am an h0 hs V ac eF ho hc hm aa hT hG aq aF aw ef;go_enter Tryz.func41,Tryz.ntmps41;go_wp2_with fail
 refine aj.mono ?_;rintro e I ⟨rfl,rfl⟩;clear aj;go_wp2_with fail
 go_loopg [8,9,18] m (fun gg u v i wr=>∃ (k:Nat),k<=m/\gg=m - k/\u = .int .i64 (F k).2.2.1/\i = .int .i64 (k:Int)/\Hid ((F k).1=0/\TapC wr B J (F k).2.1/\NodesG (F k).2.1/\PrO I B J (F k).2.2.2 v wr/\Below B I wr/\Only SC I wr))
 case atStart=>
  refine ⟨0,by omega,by omega,by rw [HF.out.1],rfl,?_⟩;show _/\_;rw [HF.out.1];exact ⟨rfl,HT.out.1,HT.out.2,PrO.nil _ _ _ _,Below.refl _ _,Only.refl _ _⟩
 case round=>
  obtain ⟨k,hk,hg,rfl,rfl,L⟩:=hrel;by_cases az:k < m
  ·have aJ:(k:Int) < (m:Int):=by omega
   obtain ⟨aa,ap⟩:=HK.out.2.2.2.2 k az;have M:=HF.out.2.1 k L.out.1;obtain ⟨g,s1,n1,c1,s2,n2,c2,rfl,y0,y1,y2,y3,y4,y5,y6,k1,k2⟩:=t_X (n:=0) (a_A HK.out.2.1 L.out.2.2.2.2.2 (by decide)) HK.out.2.2.1 HK.out.2.2.2.1 k az;obtain ⟨st,ar⟩:∃ st,spA sts k=st:=⟨_,rfl⟩
   rw [ar] at y0 y1 y2 y3 y6 k1 k2 M aa ap;have ah:R4 B I wr:=⟨L.out.2.2.2.2.1,L.out.2.2.2.2.2.more (by simp)⟩
   have cL:Hid (∀ W,Below wr.heap.size wr W->Calls Tryz.prog 61 #[.pointer (some ⟨J,0,none⟩),.agg #[.int .i64 st.op,.int .i64 st.a,.int .i64 st.b,.int .i64 st.k,.slice s1 n1 c1,.slice s2 n2 c2,.bool st.par],.int .i64 f] W fun e w'=>e = .returned (.tuple #[.int .i64 (stR f (F k).2.1 st),.int .i64 (stE f (F k).2.1 st)])/\TapC w' B J (stN f (F k).2.1 st)/\Below B W w'/\Only SC W w'/\Spar2 J W w'):=fun W hW=>by
    have hR:R4 B I W:=ah.trans (R4.of (Nat.le_trans HK.out.1 ah.size) hW);exact q_Q B J (F k).2.1 L.out.2.2.1 st aa ap f hf s1 n1 c1 s2 n2 c2 W (L.out.2.1.up hW) (aG.out W hR.bel) (k1 W hR) (k2 W hR)
   have ai:Hid (NodesG (stN f (F k).2.1 st)):=L.out.2.2.1.st aa.rX;obtain ⟨E,eE⟩:∃ E,stE f (F k).2.1 st=E:=⟨_,rfl⟩
   obtain ⟨R,eR⟩:∃ E,stR f (F k).2.1 st=E:=⟨_,rfl⟩
   obtain ⟨NS,eN⟩:∃ E,stN f (F k).2.1 st=E:=⟨_,rfl⟩
   rw [eE,eR,eN] at cL M;rw [eN] at ai;have O:Hid (F (k+1)=(E,NS,R,if st.par=true then (F k).2.2.2++[R] else (F k).2.2.2)):=M;obtain ⟨op,a,b,kk,D,X,U⟩:=st;simp only [] at y0 y1 y2 y3 y6 cL;have aD:=a_f y0;clear aa ap M k1 k2 ar ah eE eR eN hf;go_wp2_with fail
   generalize ae:World.alloc _ _=W2;have ag:Hid (Below wr.heap.size wr W2):=by rw [<- ae];exact a_b wr _
   have e6:W2.cell? ⟨wr.heap.size,6,none⟩=some (.bool U):=by rw [<- ae];simp [go_sem]
   have aB:Hid (∃ cs,W2.heap[wr.heap.size]?=some (.cells cs 129 (0,0))/\cs[6]?=some (.bool U)):=⟨_,by rw [<- ae];exact Array.getElem?_push_size,rfl⟩
   clear ae y0 y1 y2 y3 y4 y5 y6 aD;refine (cL.out W2 ag.out).mono ?_;rintro e w3 ⟨rfl,aC,aA,ad,av⟩
   have aH:w3.cell? ⟨wr.heap.size,6,none⟩=some (.bool U):=by
    obtain ⟨cs,h1,h2⟩:=aB.out;have:=ad.keep h1 (by decide);unfold World.cell?;simp [this,h2]
   have H:Hid (TapC w3 B J NS/\PrO I B J (F k).2.2.2 u9 w3/\Below B I w3/\Only SC I w3):=⟨aC,(L.out.2.2.2.1.up ag.out).tape ad av,L.out.2.2.2.2.1.trans ((ag.out.mono (Nat.le_trans HK.out.1 L.out.2.2.2.2.2.1)).trans aA),L.out.2.2.2.2.2.trans ((Only.of ag.out).trans ad)⟩
   clear aC aA ad av e6 aB cL;by_cases hE:E=0
   case neg=>
    have aI:(E != 0)=true:=by simpa using hE
    have HE:Hid (F m=(E,NS,R,if U=true then (F k).2.2.2++[R] else (F k).2.2.2)):=by
     have h4:=HF.out.2.2.1 (k+1) (by rw [O.out];exact hE) (m - (k+1));rw [show k+1+(m - (k+1))=m by omega] at h4;show _=_;rw [h4,O.out]
    have ao:Hid (∃ v,Ending.returned (.tuple #[.int .i64 0,.slice none 0 0,.int .i64 E]) = .returned (.tuple #[.int .i64 LR,v,.int .i64 (F m).1])/\OwnK .i64 3 w3 I.heap.size v PR/\TapC w3 B J (F m).2.1/\Below B I w3/\Only SC I w3):=by
     show ∃ _,_;have e1:(F m).1=E:=by rw [HE.out]
     have e2:=ay.out;rw [if_neg (by rw [e1];exact hE),if_neg (by rw [e1];exact hE)] at e2;rw [<- e2.1,<- e2.2,e1];refine ⟨_,rfl,OwnK.nil _ _ _ _,?_,H.out.2.2⟩;rw [HE.out];exact H.out.1
    clear HE H O L;go_wp2;exact bodyPost_ret (v:=.tuple #[.int .i64 0,.slice none 0 0,.int .i64 E]) (by simp [results,Tryz.results41,go_sem]) rfl ao.out
   subst hE;cases U with
   | false=>
    have HN:Hid ((F (k+1)).1=0/\TapC w3 B J (F (k+1)).2.1/\NodesG (F (k+1)).2.1/\PrO I B J (F (k+1)).2.2.2 u9 w3/\Below B I w3/\Only SC I w3):=by
     show _/\_;rw [O.out];exact ⟨rfl,H.out.1,ai.out,H.out.2.1,H.out.2.2⟩
    have HL:Hid ((F (k+1)).2.2.1=R):=by show _=_;rw [O.out]
    clear H L O;go_wp2;go_roundg (m - (k+1))
    case measure=>omega
    case rel=>exact ⟨k+1,by omega,rfl,by rw [HL.out],by first|rfl|simp,HN⟩
   | true=>
    obtain ⟨pv,nv,cv,rfl,ax⟩:=H.out.2.1.own.nums.lst;have ak:=ax.out.1;have aK:=HF.out.2.2.2 k;have aE:Hid ((F k).2.2.2.length=nv):=ak;clear ax;have ab:Below w3.heap.size w3 (w3.alloc (.cells #[.int .i64 R] 3)):=a_b w3 _;have af:Hid (PrO I B J (F k).2.2.2 (.slice pv nv cv) (w3.alloc (.cells #[.int .i64 R] 3))/\TapC (w3.alloc (.cells #[.int .i64 R] 3)) B J NS):=⟨H.out.2.1.up ab,H.out.1.up ab⟩
    have A1:Hid ((w3.alloc (.cells #[.int .i64 R] 3)).ownsRow I.heap.size 3 1 (.slice pv nv cv) nv (b_c .i64 (F k).2.2.2)):=by
     have:=af.out.1.own;unfold OwnK at this;rw [ak] at this;exact this
    have A2:Hid ((w3.alloc (.cells #[.int .i64 R] 3)).heap[w3.heap.size]?=some (.cells [Value.int .i64 R].toArray 3 (0,0))):=Array.getElem?_push_size;have A3:Hid (∀ y∈[Value.int .i64 R],y.oneCell'=true):=fun y hy=>by simp at hy;subst hy;rfl
    have A4:Hid (I.heap.size<=(w3.alloc (.cells #[.int .i64 R] 3)).heap.size):=Nat.le_trans H.out.2.2.2.1 ab.size;have A5:Hid (Below B I (w3.alloc (.cells #[.int .i64 R] 3))/\Only SC I (w3.alloc (.cells #[.int .i64 R] 3))):=⟨H.out.2.2.1.trans (ab.mono (Nat.le_trans HK.out.1 H.out.2.2.2.1)),H.out.2.2.2.trans (Only.of ab)⟩
    have au:nv+1<=1073741825:=by omega
    clear ab H ak;go_wp2_with (at_builtin;refine i_Z s_a (by decide) (by decide) rfl (.tmp 34) (.tmp 36) rfl I.heap.size _ _ _ rfl A1.out _ [.int .i64 R] rfl A2.out rfl A3.out au A4.out ?_;intro v0 w0 H0 O0 B0)
    have HN:Hid ((F (k+1)).1=0/\TapC w0 B J (F (k+1)).2.1/\NodesG (F (k+1)).2.1/\PrO I B J (F (k+1)).2.2.2 v0 w0/\Below B I w0/\Only SC I w0):=by
     show _/\_;rw [O.out];obtain ⟨g1,g2,g3⟩:=af.out.1.grow (x:=R) af.out.2 (by rw [aE.out];exact H0.out) O0.out B0.out;exact ⟨rfl,g2,ai.out,g1,g3 I A5.out.1 A5.out.2 (Nat.le_refl _) HK.out.1⟩
    have HL:Hid ((F (k+1)).2.2.1=R):=by show _=_;rw [O.out]
    clear A1 A2 A3 A4 A5 H0 O0 B0 af O L;go_wp2;go_roundg (m - (k+1))
    case measure=>omega
    case rel=>exact ⟨k+1,by omega,rfl,by rw [HL.out],by first|rfl|simp,HN⟩
  ·obtain rfl:k=m:=by omega
   have ao:Hid (∃ v,Ending.returned (.tuple #[.int .i64 (F k).2.2.1,u9,.int .i64 0]) = .returned (.tuple #[.int .i64 LR,v,.int .i64 (F k).1])/\OwnK .i64 3 wr I.heap.size v PR/\TapC wr B J (F k).2.1/\Below B I wr/\Only SC I wr):=by
    show ∃ _,_;have e2:=ay.out;rw [if_pos L.out.1,if_pos L.out.1] at e2;rw [<- e2.1,<- e2.2,L.out.1];exact ⟨_,rfl,L.out.2.2.2.1.own,L.out.2.1,L.out.2.2.2.2⟩
   go_wp2;exact bodyPost_ret (v:=.tuple #[.int .i64 (F k).2.2.1,u9,.int .i64 0]) (by simp [results,Tryz.results41,go_sem]) rfl ao.out
end Go.Proofs.YtjlofobnmjompaaGreatDoor.Wd
