/- The code's plans: layer. · The code's pl -/
import Derived.Test.YtjlofobnmjompaaGreatDoorP30
import Derived.Maps.AppendAt
set_option linter.unusedVariables false
set_option linter.unusedSimpArgs false
set_option maxHeartbeats 16000000
set_option maxRecDepth 16000
namespace Go.Proofs.YtjlofobnmjompaaGreatDoor.Wd
open Go.RowKit
/-- A Leaf of parameters. -/
abbrev spL (D X:List Int):Sp:=⟨1,0,0,0,D,X,true⟩
/-- The Leafs of the first j parameters, and what is left. -/
def prS (PP:List (List Int)) (rest:List Int):Nat->List Sp×List Int
 | 0=>([],rest)
 | j+1=>((prS PP rest j).1++[spL (shA PP j) ((prS PP rest j).2.take (a_t (shA PP j)).toNat)],(prS PP rest j).2.drop (a_t (shA PP j)).toNat)
theorem i_X {PP:List (List Int)} {rest:List Int}:∀ j,(∀ i,i < j->0<=a_t (shA PP i))->(∀ i,i<=j->d_W PP i<=(rest.length:Int))->((prS PP rest j).2.length:Int)=(rest.length:Int) - d_W PP j/\(prS PP rest j).1.length=j
 | 0,_,_=>by simp [prS,d_W]
 | j+1,h,h2=>by
  obtain ⟨J,D⟩:=i_X j (fun i H=>h i (by omega)) (fun i H=>h2 i (by omega));have I:=h j (by omega);have E:=h2 (j+1) (by omega);simp only [d_W] at E ⊢;simp only [prS,List.length_drop,List.length_append,List.length_cons,List.length_nil];omega
/-- The numbers of nodes, from N on. -/
def k_a (N j:Nat):List Int:=(List.range j).map fun i=>((N+i:Nat):Int)
theorem m_Z (N j:Nat):k_a N (j+1)=k_a N j++[((N+j:Nat):Int)]:=by simp [k_a,List.range_succ]
theorem Rn.low {B:Nat} {D W W':World} (h:Rn B D W) (J:B<=D.heap.size) (E:Below D.heap.size W W'):Rn B D W':=⟨h.bel.trans (E.mono J),Nat.le_trans h.onl.1 E.size,fun k H I=>(E.block k H).trans (h.onl.2 k H I)⟩
theorem PlanO.int {B:Nat} {D W W':World} {H:Nat} {sts:List Sp} {rest:List Int} (h:PlanO B D W H sts rest) (L:B<=D.heap.size) (E:Only [3] W W') (O:Below D.heap.size W W'):PlanO B D W' H sts rest:=by
 obtain ⟨hb,V,p,n,c,R,n2,M,J,U,h3,I⟩:=h;exact ⟨hb,V.low L O,p,n,c,R,n2,M,J,E.keep U (by decide),a_z h3 E (by decide),I⟩
theorem PlanO.rn {B:Nat} {D W:World} {E:Nat} {sts:List Sp} {rest:List Int} (h:PlanO B D W E sts rest):Rn B D W:=h.2.1
theorem Rn.block {B:Nat} {E W:World} (h:Rn B E W) {k:Nat} {H:Array Value} {e:TypeId} {D:Nat×Nat} (I:E.heap[k]?=some (.cells H e D)) (he:e∉S2):W.heap[k]?=some (.cells H e D):=h.onl.keep I he
theorem OwnS.dims {B:Nat} {D:World} {p:Option Addr} {n c:Nat} {PP:List (List Int)} (h:OwnS D 0 (.slice p n c) PP) (I:PP.length=n):∀ j,j < n->∃ q o a b d,p=some ⟨q,o,none⟩/\(∀ W',Rn B D W'->W'.cell? ⟨q,o+j,none⟩=some (.slice a b d))/\Kept B D (.slice a b d) (shA PP j):=by
 subst I;intro j U;obtain ⟨vs,H,J⟩:=h;obtain ⟨a,b,d,e,R⟩:=J j U;have E:=H;rcases H.2 with ⟨_,h0⟩|⟨g,cap,O,M,V,hc,_⟩
 ·omega
 ·cases M;refine ⟨g,0,a,b,d,rfl,fun W' L=>?_,R.kept (by decide)⟩;have:=World.ownsRow.cells (a_z E L.onl (by decide)) rfl j _ e;rw [a_u] at this;exact this
theorem r_9:GT Tryz.prog 30 3 1 8:=⟨Tryz.underlying30,by kernel_rfl⟩
/-- What a layer lays: its steps, and the number of what comes out. -/
def f_P (l:Ly) (d:List Int) (N:Nat) (rest:List Int) (bf last:Int):List Sp:=(prS (c_t l d) rest (c_t l d).length).1++(if a_s l.1=0 then n_v (decide (d.length=2)) (N+2) (N:Int) ((N+1:Nat):Int) last else if a_s l.1=1 then [spD 12 last (N:Int) 1] else if a_s l.1=2 then [spD 13 last 0 l.2.1] else if a_s l.1=3 then [spD 11 last 0 l.2.1] else [spD 2 bf last 0])
def k_U (l:Ly) (d:List Int) (N:Nat):Nat:=if a_s l.1=0 then r_c (decide (d.length=2)) (N+2) else if a_s l.1=1 then N+1 else N
def i_a (l:Ly) (d:List Int) (rest:List Int):List Int:=(prS (c_t l d) rest (c_t l d).length).2
theorem m_0 (B I N:Nat) (sts:List Sp) (rest:List Int) (hN:sts.length=N) (aY:N<=180) (s:ByteArray) (a b:Int) (hl:a_S (s,a,b)) (d:List Int) (hd:InOk d) (an:a_s s=1->d.length=2) (aM:psz (s,a,b) d<=(rest.length:Int)) (aI:rest.length<=1073741824) (p:Option Addr) (n c:Nat) (bf E:Int) (w:World) (hP:PlanO B w w I sts rest) (h1:Kept B w (.slice p n c) d):
  Calls Tryz.prog 60 #[.pointer (some ⟨I,0,none⟩),.agg #[.string s,.int .i64 a,.int .i64 b],.slice p n c,.int .i64 bf,.int .i64 E] w fun e w'=>e = .returned (.int .i64 (k_U (s,a,b) d N:Int))/\PlanO B w' w' I (sts++f_P (s,a,b) d N rest bf E) (i_a (s,a,b) d rest)/\Rn B w w':=by
 haveI:Nonempty World:=⟨w⟩
 obtain ⟨RN,aB⟩:∃ R,k_U (s,a,b) d N=R:=⟨_,rfl⟩
 obtain ⟨RS,ap⟩:∃ R,f_P (s,a,b) d N rest bf E=R:=⟨_,rfl⟩
 obtain ⟨RR,ay⟩:∃ R,i_a (s,a,b) d rest=R:=⟨_,rfl⟩
 rw [aB,ap,ay];obtain ⟨PP,eP⟩:∃ PP,c_t (s,a,b) d=PP:=⟨_,rfl⟩
 have aF:d.length=n:=by
  obtain ⟨_,_,_,e,h⟩:=h1.nums.lst;cases e;exact h.out.1
 obtain ⟨J,aj⟩:∃ n,PP.length=n:=⟨_,rfl⟩
 have ai:=j_9 hl hd;have av:=e_0 (l:=(s,a,b)) (d:=d);have L:=f_O hl hd;have O:=e_1 (s,a,b) d;rw [eP] at ai av L O;rw [aj] at ai av L O
 have ak:∀ i,i < J->0<=a_t (shA PP i):=fun i hi=>by
  rw [<- eP,<- aj] at *;have hp:=hd.prod;unfold c_t at hi ⊢;rcases a_K hl with ⟨-,k,g1,g2⟩|⟨-,k,g1,g2⟩|⟨-,k,g1,g2⟩|⟨-,k,g1,g2⟩|⟨-,k,g1,g2⟩ <;> simp only [] at k g1 g2 hi ⊢ <;> rw [k] at hi ⊢ <;> simp at hi
  ·have:=a_3 g1 hp;rcases (show i=0∨i=1 by omega) with rfl|rfl <;> simp [shA,c_D,c_C] <;> omega
  ·subst hi;have h0:0<=d.getD 0 0:=by rcases hd with ⟨x,rfl,h⟩|⟨x,y,rfl,hx,hy⟩ <;> simp <;> omega
   simp only [if_neg (show ¬ (1:Nat)=0 by omega),if_true];show 0<=a_t [a,d.getD 0 0,b];rw [c_V];exact Int.mul_nonneg (Int.mul_nonneg (by omega) h0) (by omega)
 have ab:∀ i,i<=J->d_W PP i<=(rest.length:Int):=by
  have aN:∀ k i,i+k=J->d_W PP i<=d_W PP J:=by
   intro k
   induction k with
   | zero=>intro i hi;rw [show i=J by omega];exact Int.le_refl _
   | succ k ih=>
    intro i hi;have h5:=ih (i+1) (by omega);have h6:=ak i (by omega);simp only [d_W] at h5;omega
  intro i hi;have:=aN (J - i) i (by omega);omega
 have af:∀ j,j<=J->((prS PP rest j).2.length:Int)=(rest.length:Int) - d_W PP j/\(prS PP rest j).1.length=j:=fun j hj=>i_X j (fun i hi=>ak i (by omega)) (fun i hi=>ab i (by omega))
 have HM:Hid ((∀ j,j<=J->(prS PP rest j).2.length<=rest.length/\(prS PP rest j).1.length=j)/\(∀ j,j < J->(a_t (shA PP j)).toNat<=(prS PP rest j).2.length/\a_t (shA PP j)=((a_t (shA PP j)).toNat:Int)/\k_P (shA PP j))):=by
  refine ⟨fun j hj=>?_,fun j hj=>?_⟩
  ·have:=af j hj;have h5:=ai j (by omega);exact ⟨by omega,this.2⟩
  ·have:=af j (by omega);have h5:=ak j hj;have h6:=ab (j+1) (by omega);simp only [d_W] at h6;exact ⟨by omega,by omega,L j hj⟩
 have aS:=a_K hl
 have cp:Hid (∀ W,Below w.heap.size w W->Calls Tryz.prog 58 #[.agg #[.string s,.int .i64 a,.int .i64 b],.slice p n c] W fun e w'=>∃ v',e = .returned v'/\ParR PP v' w'/\Below W.heap.size W w'):=fun W hW=>by
  rw [<- eP];exact d_k s a b d hl hd an p n c W (h1.nums.up hW)
 have D:Hid (k_U (s,a,b) d N=RN/\f_P (s,a,b) d N rest bf E=RS/\i_a (s,a,b) d rest=RR/\c_t (s,a,b) d=PP/\PP.length=J/\d.length=n/\sts.length=N/\J<=2/\rest.length<=1073741824):=⟨aB,ap,ay,eP,aj,aF,hN,O,aI⟩
 have HP:Hid (PlanO B w w I sts rest):=hP;obtain ⟨t0,t1,t2,t3,-⟩:=kts s;clear aB ap ay eP aj aF ai av L ak ab af hP h1 aM aI an hd hl hN;go_enter Tryz.func60,Tryz.ntmps60;go_wp2_with fail
 generalize aq:World.alloc _ _=W0;have aw:Hid (Below w.heap.size w W0):=by rw [<- aq];exact a_b w _
 have aC:Hid (W0.heap[w.heap.size]?=some (.cells #[.string s,.int .i64 a,.int .i64 b] 69 (0,0))):=by
  show _=_;rw [<- aq];exact Array.getElem?_push_size
 clear aq;refine (cp.out W0 aw.out).mono ?_;rintro e H ⟨v1,rfl,aV,ax⟩;obtain ⟨aR,a0,rfl,-,ag⟩:=aV;have am:Below w.heap.size w H:=a_c aw.out ax;rw [D.out.2.2.2.2.1] at ag ⊢;have aa:Hid (PlanO B H H I sts rest/\B<=H.heap.size/\Rn B w H):=⟨(HP.out.up am).on,Nat.le_trans HP.out.size am.size,Rn.of HP.out.size am⟩
 have HD:Hid (∀ j,j < J->∃ q o a b d,aR=some ⟨q,o,none⟩/\(∀ W',Rn B H W'->W'.cell? ⟨q,o+j,none⟩=some (.slice a b d))/\Kept B H (.slice a b d) (shA PP j)):=OwnS.dims ag D.out.2.2.2.2.1;have aQ:Hid (H.heap[w.heap.size]?=some (.cells #[.string s,.int .i64 a,.int .i64 b] 69 (0,0))):=(ax.block _ (a_i aC.out)).trans aC.out;have aJ:J<=2:=O;clear ag ax am cp aC aw;go_wp2_with fail
 go_loopg [11,18] J (fun gg u v wr=>∃ (j:Nat),j<=J/\gg=J - j/\v = .int .i64 (j:Int)/\Hid (OwnK .i64 3 wr H.heap.size u (k_a N j))/\Hid (PlanO B H wr I (sts++(prS PP rest j).1) (prS PP rest j).2))
 case atStart=>exact ⟨0,by omega,by omega,rfl,OwnK.nil _ _ _ _,by show PlanO _ _ _ _ _ _;simpa [prS] using aa.out.1⟩
 case round=>
  obtain ⟨j,hj,hg,rfl,HO,HJ⟩:=hrel;obtain ⟨pv,nv,cv,rfl,V⟩:=HO.out.nums.lst;have aP:k_a N j=k_a N j:=rfl;have ao:=V.out.1;simp only [k_a,List.length_map,List.length_range] at ao;subst ao;clear aP;by_cases aD:j < J
  ·have aZ:(j:Int) < (J:Int):=by omega
   obtain ⟨q,o,a3,b3,d3,rfl,ah,aL⟩:=HD.out j aD;have c0:=ah wr HJ.out.rn;obtain ⟨m1,m2,m3⟩:=HM.out.2 j aD;have ad:=HM.out.1 j (by omega);have az:(sts++(prS PP rest j).1).length=N+j:=by rw [List.length_append,ad.2,D.out.2.2.2.2.2.2.1]
   have cq:=m_X B I (sts++(prS PP rest j).1) (prS PP rest j).2 (by rw [az];omega) (shA PP j) m3 _ m2 m1 (by have:=D.out.2.2.2.2.2.2.2.2;omega) a3 b3 d3 H wr HJ.out aL;rw [az] at cq;clear m1 m2 m3 aL ah ad az V;go_wp2_with fail
   refine cq.mono ?_;rintro e w1 ⟨rfl,aE,aK⟩;have aG:Hid (OwnK .i64 3 w1 H.heap.size (.slice pv j cv) (k_a N j)):=HO.out.only aK.onl (by decide)
   have ar:Hid (PlanO B H w1 I (sts++(prS PP rest (j+1)).1) (prS PP rest (j+1)).2):=by
    have:=aE;rw [List.append_assoc] at this;exact this
   have aW:Hid (H.heap.size<=w1.heap.size):=ar.out.rn.size;have aA:Below w1.heap.size w1 (w1.alloc (.cells #[.int .i64 ((N+j:Nat):Int)] 3)):=a_b w1 _
   have A1:Hid ((w1.alloc (.cells #[.int .i64 ((N+j:Nat):Int)] 3)).ownsRow H.heap.size 3 1 (.slice pv j cv) j (b_e .i64 (k_a N j))):=by
    have:=aG.out.up aA;unfold OwnK at this;rw [show (k_a N j).length=j by simp [k_a]] at this;exact this
   have A2:Hid ((w1.alloc (.cells #[.int .i64 ((N+j:Nat):Int)] 3)).heap[w1.heap.size]?=some (.cells [Value.int .i64 ((N+j:Nat):Int)].toArray 3 (0,0))):=Array.getElem?_push_size;have A3:Hid (∀ y∈[Value.int .i64 ((N+j:Nat):Int)],y.oneCell'=true):=fun y hy=>by simp at hy;subst hy;rfl
   have A4:Hid (H.heap.size<=(w1.alloc (.cells #[.int .i64 ((N+j:Nat):Int)] 3)).heap.size):=Nat.le_trans aW.out aA.size;clear cq aE aK HO HJ c0 aA;go_wp2_with (at_builtin;refine b_z r_9 (by decide) (by decide) rfl (.tmp 22) (.tmp 26) rfl H.heap.size _ _ _ rfl A1.out _ [.int .i64 ((N+j:Nat):Int)] rfl A2.out rfl A3.out (by omega) A4.out ?_;intro v0 w0 H0 O0 B0)
   have HF:Hid (OwnK .i64 3 w0 H.heap.size v0 (k_a N (j+1))):=by
    show OwnK _ _ _ _ _ _;unfold OwnK;rw [m_Z,show (k_a N j++[((N+j:Nat):Int)]).length=j+1 by simp [k_a]];have:=H0.out;unfold b_e at *;rw [List.map_append];exact this
   have aT:Hid (PlanO B H w0 I (sts++(prS PP rest (j+1)).1) (prS PP rest (j+1)).2):=(ar.out.up (a_b w1 _)).int aa.out.2.1 O0.out (B0.out _ (Below.refl _ _));clear A1 A2 A3 A4 H0 O0 B0 aG ar;go_wp2;go_roundg (J - (j+1))
   case measure=>omega
   case rel=>exact ⟨j+1,by omega,rfl,by first|rfl|simp,HF,aT⟩
  ·obtain rfl:j=J:=by omega
   have hX:=HJ.out.rn.block aQ.out (by decide);obtain ⟨⟨y0,_⟩,⟨y1,_⟩,⟨y2,_⟩⟩:=t_c hX;have ae:(sts++(prS PP rest j).1).length=N+j:=by rw [List.length_append,(HM.out.1 j (Nat.le_refl _)).2,D.out.2.2.2.2.2.2.1]
   have ac:(c_t (s,a,b) d).length=j:=by rw [D.out.2.2.2.1];exact D.out.2.2.2.2.1
   have U:=V.out.2;clear hX aJ O;rcases aS with ⟨-,k,-⟩|⟨-,k,-⟩|⟨-,k,-⟩|⟨-,k,-⟩|⟨-,k,-⟩ <;> (try simp only [] at k) <;> rw [k] at t0 t1 t2 t3 <;> simp [c_t,k] at ac
   ·replace t0:=t0.trans (show decide ((0:Nat)=0)=true from rfl);subst ac;obtain ⟨q,o,rfl,c0⟩:=U 0 (by omega);obtain ⟨q',o',e',c1⟩:=U 1 (by omega);cases e';replace c0:wr.cell? ⟨q,o,none⟩=some (.int .i64 (N:Int)):=c0;replace c1:wr.cell? ⟨q,o+1,none⟩=some (.int .i64 ((N+1:Nat):Int)):=c1;have aU:=a_g c0;clear U V HO HD t1 t2 t3;go_wp2;refine rel [] 9 73 (by kernel_rfl) rfl rfl (by kernel_rfl) (by rfl) ?_ ?_
    ·intro e he;simp at he
    apply Exists.intro;refine ⟨fun x=>?_,?_,?_⟩
    ·simp only [List.take_succ_cons,List.take_zero]
     iterate 9
      refine a_l rfl rfl ?_;apply Exists.intro;refine ⟨fun F hF hf K hK=>?_,?_⟩
      ·have hFc:=hF.cell;have hFf:=hF.frozen
       go_big_quiet_op
       first|exact hK|(apply Exists.intro;refine ⟨fun _=>?_,?_⟩;(· fail);exact hK)
      (try simp only [Act.put,sA_,sB_,sC_])
     refine b_a ?_;exact rfl
    ·exact fun x=>rfl
    ·intro w9 xs aH hf;simp only [List.drop_succ_cons,List.drop_zero];have aX:Hid (PlanO B H w9 I (sts++(prS PP rest 2).1) (prS PP rest 2).2):=HJ.out.up aH;clear hf aH c0 c1;go_wp2_with fail
     refine (m_Y B I (N+2) _ _ ae (by omega) (N:Int) ((N+1:Nat):Int) E p n c H w9 aX.out).mono ?_;rintro e M ⟨rfl,au,aO⟩
     have HF:Hid (PlanO B M M I (sts++RS) RR/\Rn B w M):=by
      refine ⟨?_,aa.out.2.2.trans au.rn⟩;have h3:=au.on;rw [List.append_assoc] at h3;rw [<- D.out.2.1,<- D.out.2.2.1];unfold f_P i_a;rw [D.out.2.2.2.1,D.out.2.2.2.2.1,D.out.2.2.2.2.2.1];simp only [k,if_true];exact h3
     have eN:RN=r_c (decide (n=2)) (N+2):=by
      rw [<- D.out.1];unfold k_U;rw [D.out.2.2.2.2.2.1];simp only [k,if_true]
     rw [<- eN];clear au aO D;go_wp2;go_ret;exact ⟨by first|rfl|simp [eN],HF.out⟩
   ·replace t0:=t0.trans (show decide ((1:Nat)=0)=false from rfl);replace t1:=t1.trans (show decide ((1:Nat)=1)=true from rfl);subst ac;obtain ⟨q,o,rfl,c0⟩:=U 0 (by omega);replace c0:wr.cell? ⟨q,o,none⟩=some (.int .i64 (N:Int)):=c0;have aU:=a_g c0;clear U V HO HD t2 t3;go_wp2_with fail
    refine (c_h B I (N+1) _ _ ae (by omega) 12 E (N:Int) 1 H wr HJ.out).mono ?_;rintro e M ⟨rfl,H2⟩
    have HF:Hid (PlanO B M M I (sts++RS) RR/\Rn B w M):=by
     refine ⟨?_,aa.out.2.2.trans H2.out.1.rn⟩;have h3:=H2.out.1.on;rw [List.append_assoc] at h3;rw [<- D.out.2.1,<- D.out.2.2.1];unfold f_P i_a;rw [D.out.2.2.2.1,D.out.2.2.2.2.1];simp only [k,if_true,if_false,if_neg (show ¬ (1:Nat)=0 by omega),if_neg (show ¬ (2:Nat)=0 by omega),if_neg (show ¬ (2:Nat)=1 by omega),if_neg (show ¬ (3:Nat)=0 by omega),if_neg (show ¬ (3:Nat)=1 by omega),if_neg (show ¬ (3:Nat)=2 by omega),if_neg (show ¬ (4:Nat)=0 by omega),if_neg (show ¬ (4:Nat)=1 by omega),if_neg (show ¬ (4:Nat)=2 by omega),if_neg (show ¬ (4:Nat)=3 by omega)];exact h3
    have eN:RN=N+1:=by
     rw [<- D.out.1];unfold k_U;simp only [k,if_true,if_false,if_neg (show ¬ (1:Nat)=0 by omega),if_neg (show ¬ (2:Nat)=0 by omega),if_neg (show ¬ (2:Nat)=1 by omega),if_neg (show ¬ (3:Nat)=0 by omega),if_neg (show ¬ (3:Nat)=1 by omega),if_neg (show ¬ (3:Nat)=2 by omega),if_neg (show ¬ (4:Nat)=0 by omega),if_neg (show ¬ (4:Nat)=1 by omega),if_neg (show ¬ (4:Nat)=2 by omega),if_neg (show ¬ (4:Nat)=3 by omega)]
     (try rfl)
    subst eN;clear H2 D;go_wp2;go_ret;exact ⟨by first|rfl|simp,HF.out⟩
   ·replace t0:=t0.trans (show decide ((2:Nat)=0)=false from rfl);replace t1:=t1.trans (show decide ((2:Nat)=1)=false from rfl);replace t2:=t2.trans (show decide ((2:Nat)=2)=true from rfl);subst ac;clear U V HO HD;go_wp2_with fail
    refine (c_h B I (N+0) _ _ ae (by omega) 13 E 0 a H wr HJ.out).mono ?_;rintro e M ⟨rfl,H2⟩
    have HF:Hid (PlanO B M M I (sts++RS) RR/\Rn B w M):=by
     refine ⟨?_,aa.out.2.2.trans H2.out.1.rn⟩;have h3:=H2.out.1.on;rw [List.append_assoc] at h3;rw [<- D.out.2.1,<- D.out.2.2.1];unfold f_P i_a;rw [D.out.2.2.2.1,D.out.2.2.2.2.1];simp only [k,if_true,if_false,if_neg (show ¬ (1:Nat)=0 by omega),if_neg (show ¬ (2:Nat)=0 by omega),if_neg (show ¬ (2:Nat)=1 by omega),if_neg (show ¬ (3:Nat)=0 by omega),if_neg (show ¬ (3:Nat)=1 by omega),if_neg (show ¬ (3:Nat)=2 by omega),if_neg (show ¬ (4:Nat)=0 by omega),if_neg (show ¬ (4:Nat)=1 by omega),if_neg (show ¬ (4:Nat)=2 by omega),if_neg (show ¬ (4:Nat)=3 by omega)];exact h3
    have eN:RN=N+0:=by
     rw [<- D.out.1];unfold k_U;simp only [k,if_true,if_false,if_neg (show ¬ (1:Nat)=0 by omega),if_neg (show ¬ (2:Nat)=0 by omega),if_neg (show ¬ (2:Nat)=1 by omega),if_neg (show ¬ (3:Nat)=0 by omega),if_neg (show ¬ (3:Nat)=1 by omega),if_neg (show ¬ (3:Nat)=2 by omega),if_neg (show ¬ (4:Nat)=0 by omega),if_neg (show ¬ (4:Nat)=1 by omega),if_neg (show ¬ (4:Nat)=2 by omega),if_neg (show ¬ (4:Nat)=3 by omega)]
     (try rfl)
    subst eN;clear H2 D;go_wp2;go_ret;exact ⟨by first|rfl|simp,HF.out⟩
   ·replace t0:=t0.trans (show decide ((3:Nat)=0)=false from rfl);replace t1:=t1.trans (show decide ((3:Nat)=1)=false from rfl);replace t2:=t2.trans (show decide ((3:Nat)=2)=false from rfl);replace t3:=t3.trans (show decide ((3:Nat)=3)=true from rfl);subst ac;clear U V HO HD;go_wp2_with fail
    refine (c_h B I (N+0) _ _ ae (by omega) 11 E 0 a H wr HJ.out).mono ?_;rintro e M ⟨rfl,H2⟩
    have HF:Hid (PlanO B M M I (sts++RS) RR/\Rn B w M):=by
     refine ⟨?_,aa.out.2.2.trans H2.out.1.rn⟩;have h3:=H2.out.1.on;rw [List.append_assoc] at h3;rw [<- D.out.2.1,<- D.out.2.2.1];unfold f_P i_a;rw [D.out.2.2.2.1,D.out.2.2.2.2.1];simp only [k,if_true,if_false,if_neg (show ¬ (1:Nat)=0 by omega),if_neg (show ¬ (2:Nat)=0 by omega),if_neg (show ¬ (2:Nat)=1 by omega),if_neg (show ¬ (3:Nat)=0 by omega),if_neg (show ¬ (3:Nat)=1 by omega),if_neg (show ¬ (3:Nat)=2 by omega),if_neg (show ¬ (4:Nat)=0 by omega),if_neg (show ¬ (4:Nat)=1 by omega),if_neg (show ¬ (4:Nat)=2 by omega),if_neg (show ¬ (4:Nat)=3 by omega)];exact h3
    have eN:RN=N+0:=by
     rw [<- D.out.1];unfold k_U;simp only [k,if_true,if_false,if_neg (show ¬ (1:Nat)=0 by omega),if_neg (show ¬ (2:Nat)=0 by omega),if_neg (show ¬ (2:Nat)=1 by omega),if_neg (show ¬ (3:Nat)=0 by omega),if_neg (show ¬ (3:Nat)=1 by omega),if_neg (show ¬ (3:Nat)=2 by omega),if_neg (show ¬ (4:Nat)=0 by omega),if_neg (show ¬ (4:Nat)=1 by omega),if_neg (show ¬ (4:Nat)=2 by omega),if_neg (show ¬ (4:Nat)=3 by omega)]
     (try rfl)
    subst eN;clear H2 D;go_wp2;go_ret;exact ⟨by first|rfl|simp,HF.out⟩
   ·replace t0:=t0.trans (show decide ((4:Nat)=0)=false from rfl);replace t1:=t1.trans (show decide ((4:Nat)=1)=false from rfl);replace t2:=t2.trans (show decide ((4:Nat)=2)=false from rfl);replace t3:=t3.trans (show decide ((4:Nat)=3)=false from rfl);subst ac;clear U V HO HD;go_wp2_with fail
    refine (c_h B I (N+0) _ _ ae (by omega) 2 bf E 0 H wr HJ.out).mono ?_;rintro e M ⟨rfl,H2⟩
    have HF:Hid (PlanO B M M I (sts++RS) RR/\Rn B w M):=by
     refine ⟨?_,aa.out.2.2.trans H2.out.1.rn⟩;have h3:=H2.out.1.on;rw [List.append_assoc] at h3;rw [<- D.out.2.1,<- D.out.2.2.1];unfold f_P i_a;rw [D.out.2.2.2.1,D.out.2.2.2.2.1];simp only [k,if_true,if_false,if_neg (show ¬ (1:Nat)=0 by omega),if_neg (show ¬ (2:Nat)=0 by omega),if_neg (show ¬ (2:Nat)=1 by omega),if_neg (show ¬ (3:Nat)=0 by omega),if_neg (show ¬ (3:Nat)=1 by omega),if_neg (show ¬ (3:Nat)=2 by omega),if_neg (show ¬ (4:Nat)=0 by omega),if_neg (show ¬ (4:Nat)=1 by omega),if_neg (show ¬ (4:Nat)=2 by omega),if_neg (show ¬ (4:Nat)=3 by omega)];exact h3
    have eN:RN=N+0:=by
     rw [<- D.out.1];unfold k_U;simp only [k,if_true,if_false,if_neg (show ¬ (1:Nat)=0 by omega),if_neg (show ¬ (2:Nat)=0 by omega),if_neg (show ¬ (2:Nat)=1 by omega),if_neg (show ¬ (3:Nat)=0 by omega),if_neg (show ¬ (3:Nat)=1 by omega),if_neg (show ¬ (3:Nat)=2 by omega),if_neg (show ¬ (4:Nat)=0 by omega),if_neg (show ¬ (4:Nat)=1 by omega),if_neg (show ¬ (4:Nat)=2 by omega),if_neg (show ¬ (4:Nat)=3 by omega)]
     (try rfl)
    subst eN;clear H2 D;go_wp2;go_ret;exact ⟨by first|rfl|simp,HF.out⟩
/-- The plan of the first i layers: its steps, the parameters that are left, what went in, what comes out. -/
def plF (d:List Int) (ls:List Ly) (S:List (List Int)) (P X:List Int):Nat->List Sp×List Int×Int×Int
 | 0=>([⟨1,0,0,0,d,X,false⟩],P,0,0)
 | i+1=>((plF d ls S P X i).1++f_P (lyA ls i) (shA S i) (plF d ls S P X i).1.length (plF d ls S P X i).2.1 (plF d ls S P X i).2.2.1 (plF d ls S P X i).2.2.2,i_a (lyA ls i) (shA S i) (plF d ls S P X i).2.1,(plF d ls S P X i).2.2.2,(k_U (lyA ls i) (shA S i) (plF d ls S P X i).1.length:Int))
theorem m_1 (PP:List (List Int)) (rest:List Int):∀ j,(prS PP rest j).1.length=j
 | 0=>rfl
 | j+1=>by simp [prS,m_1 PP rest j]
theorem o_I (l:Ly) (d:List Int) (N:Nat) (rest:List Int) (H D:Int):(f_P l d N rest H D).length<=6:=by
 unfold f_P;rw [List.length_append,m_1];have:=e_1 l d;have I:a_s l.1≠0->(c_t l d).length<=1:=fun h=>by unfold c_t;rw [if_neg h];split <;> simp
 by_cases E:a_s l.1=0
 ·rw [if_pos E];unfold n_v;split <;> simp <;> omega
 ·have:=I E;rw [if_neg E]
  split
  ·simp;omega
  ·split
   ·simp;omega
   ·split <;> simp <;> omega
theorem g_7 (d:List Int) (ls:List Ly) (S:List (List Int)) (P X:List Int):∀ i,(plF d ls S P X i).1.length<=1+6*i
 | 0=>by simp [plF]
 | i+1=>by
  have:=g_7 d ls S P X i;have D:=o_I (lyA ls i) (shA S i) (plF d ls S P X i).1.length (plF d ls S P X i).2.1 (plF d ls S P X i).2.2.1 (plF d ls S P X i).2.2.2;simp only [plF,List.length_append];omega
theorem k_b {l:Ly} {d:List Int} (M:a_S l) (I:InOk d):∀ i,i < (c_t l d).length->0<=a_t (shA (c_t l d) i):=fun i H=>by
 have J:=I.prod;unfold c_t at H ⊢;rcases a_K M with ⟨-,k,D,E⟩|⟨-,k,D,E⟩|⟨-,k,D,E⟩|⟨-,k,D,E⟩|⟨-,k,D,E⟩ <;> rw [k] at H ⊢ <;> simp at H
 ·have:=a_3 D J;rcases (show i=0∨i=1 by omega) with rfl|rfl <;> simp [shA,c_D,c_C] <;> omega
 ·subst H;have L:0<=d.getD 0 0:=by rcases I with ⟨x,rfl,h⟩|⟨x,y,rfl,R,O⟩ <;> simp <;> omega
  simp only [if_neg (show ¬ (1:Nat)=0 by omega),if_true];show 0<=a_t [l.2.1,d.getD 0 0,l.2.2];rw [c_V];exact Int.mul_nonneg (Int.mul_nonneg (by omega) L) (by omega)
theorem p_o {l:Ly} {d:List Int} (D:a_S l) (E:InOk d):∀ k i,i+k=(c_t l d).length->d_W (c_t l d) i<=d_W (c_t l d) (c_t l d).length
 | 0,i,hi=>by rw [show i=(c_t l d).length by omega];exact Int.le_refl _
 | k+1,i,hi=>by
  have H:=p_o D E k (i+1) (by omega);have I:=k_b D E i (by omega);simp only [d_W] at H;omega
theorem o_J {l:Ly} {d:List Int} (D:a_S l) (E:InOk d) {rest:List Int} (h:psz l d<=(rest.length:Int)):((i_a l d rest).length:Int)=(rest.length:Int) - psz l d:=by
 unfold i_a;rw [<- e_0] at h ⊢;exact (i_X (PP:=c_t l d) (rest:=rest) _ (k_b D E) (fun i H=>Int.le_trans (p_o D E ((c_t l d).length - i) i (by omega)) h)).1
theorem i_Y {d:List Int} {ls:List Ly} {S:List (List Int)} (E:NetOk d ls S):∀ i,i<=ls.length->b_5 ls S i<=b_5 ls S ls.length:=by
 have D:∀ k i,i+k=ls.length->b_5 ls S i<=b_5 ls S ls.length:=by
  intro k
  induction k with
  | zero=>intro i H;rw [show i=ls.length by omega];exact Int.le_refl _
  | succ k ih=>
   intro i H;have I:=ih (i+1) (by omega);have J:=e_D (E.inn i (by omega)) (E.lay i (by omega));simp only [b_5] at I;omega
 exact fun i H=>D (ls.length - i) i (by omega)
theorem g_8 {d:List Int} {ls:List Ly} {S:List (List Int)} {P X:List Int} (E:NetOk d ls S) (J:(P.length:Int)=b_5 ls S ls.length):∀ i,i<=ls.length->((plF d ls S P X i).2.1.length:Int)=(P.length:Int) - b_5 ls S i/\(i < ls.length->psz (lyA ls i) (shA S i)<=((plF d ls S P X i).2.1.length:Int))
 | 0,_=>by
  refine ⟨by simp [plF,b_5],fun h=>?_⟩;have D:=i_Y E 1 (by omega);simp only [b_5] at D;simp only [plF];omega
 | i+1,hi=>by
  obtain ⟨M,I⟩:=g_8 (X:=X) E J i (by omega);have H:=I (by omega);have L:=o_J (E.lay i (by omega)) (E.inn i (by omega)) H
  have e:((plF d ls S P X (i+1)).2.1.length:Int)=(P.length:Int) - b_5 ls S (i+1):=by
   simp only [plF,b_5];omega
  refine ⟨e,fun h=>?_⟩;have D:=i_Y E (i+1+1) (by omega);rw [e];simp only [b_5] at D ⊢;omega
theorem k_V (B:Nat) (d:List Int) (ls:List Ly) (S:List (List Int)) (ok:NetOk d ls S) (aA:ls.length<=16) (P X:List Int) (ax:(P.length:Int)=b_5 ls S ls.length) (aD:P.length<=1073741824) (p p2 ps pp px:Option Addr) (n c H c2 ns cs np cp nx cx:Nat) (w:World) (hB:B<=w.heap.size) (aC:Kept B w (.slice p n c) d) (ah:∀ W',Rn B w W'->LyR 0 W' p2 H ls) (aF:OwnS w 0 (.slice ps ns cs) S) (af:S.length=ns) (hp:Kept B w (.slice pp np cp) P) (ap:np<=cp) (hx:Kept B w (.slice px nx cx) X):
  Calls Tryz.prog 39 #[.agg #[.slice p n c,.slice p2 H c2],.slice ps ns cs,.slice pp np cp,.slice px nx cx] w fun e w'=>∃ q m r xs,e = .returned (.slice q m r)/\(plF d ls S P X ls.length).1.length=m/\w'.ownsRow B 129 7 (.slice q m r) m xs/\StsC B w' (plF d ls S P X ls.length).1 xs/\Rn B w w':=by
 haveI:Nonempty World:=⟨w⟩
 obtain ⟨F,eF⟩:∃ F,plF d ls S P X=F:=⟨_,rfl⟩
 have M:=g_7 d ls S P X;have I:=g_8 (P:=P) (X:=X) ok ax;have h0:F 0=([⟨1,0,0,0,d,X,false⟩],P,0,0):=by rw [<- eF];rfl
 have hs:∀ i,F (i+1)=((F i).1++f_P (lyA ls i) (shA S i) (F i).1.length (F i).2.1 (F i).2.2.1 (F i).2.2.2,i_a (lyA ls i) (shA S i) (F i).2.1,(F i).2.2.2,(k_U (lyA ls i) (shA S i) (F i).1.length:Int)):=fun i=>by rw [<- eF];rfl
 rw [eF] at M I ⊢;have HF:Hid (F 0=([⟨1,0,0,0,d,X,false⟩],P,0,0)/\(∀ i,F (i+1)=((F i).1++f_P (lyA ls i) (shA S i) (F i).1.length (F i).2.1 (F i).2.2.1 (F i).2.2.2,i_a (lyA ls i) (shA S i) (F i).2.1,(F i).2.2.2,(k_U (lyA ls i) (shA S i) (F i).1.length:Int)))/\(∀ i,(F i).1.length<=1+6*i)/\(∀ i,i<=ls.length->((F i).2.1.length:Int)=(P.length:Int) - b_5 ls S i/\(i < ls.length->psz (lyA ls i) (shA S i)<=((F i).2.1.length:Int)))):=⟨h0,hs,M,I⟩
 have aG:P.length=np:=by
  obtain ⟨_,_,_,e,h⟩:=hp.nums.lst;cases e;exact h.out.1
 have ag:ls.length=H:=(ah w (Rn.refl _ _)).1;have J:Hid (NetOk d ls S/\ls.length<=16/\Kept B w (.slice p n c) d/\(∀ W',Rn B w W'->LyR 0 W' p2 H ls)/\Kept B w (.slice pp np cp) P/\np<=cp/\Kept B w (.slice px nx cx) X/\P.length<=1073741824/\P.length=np/\ls.length=H):=⟨ok,aA,aC,ah,hp,ap,hx,aD,aG,ag⟩
 have aO:Hid (∀ j,j < ns->∃ q o a b d,ps=some ⟨q,o,none⟩/\(∀ W',Rn B w W'->W'.cell? ⟨q,o+j,none⟩=some (.slice a b d))/\Kept B w (.slice a b d) (shA S j)):=OwnS.dims aF af;have ar:ns=H+1:=by rw [<- af,ok.len,ag]
 subst ar;have aR:H<=16:=by omega
 clear eF h0 hs M I aC ah aF af hp ap hx aD ax ok aA aG ag;go_enter Tryz.func39,Tryz.ntmps39;go_wp2_with fail
 generalize R:World.alloc _ _=W0;have aW:W0.heap.size=w.heap.size+2:=by rw [<- R];simp
 have aw:Below w.heap.size w W0:=by rw [<- R];go_grown
 have ao:Rn B w W0:=Rn.of hB aw
 have aK:Hid (W0.heap[w.heap.size]?=some (.cells #[.slice p n c,.slice p2 H c2] 33 (0,0))/\W0.heap[w.heap.size+1]?=some (.cells #[.slice none 0 0,.slice pp np cp] 126 (0,0))):=by
  show _/\_;rw [<- R];refine ⟨((a_b _ _).block _ (by simp)).trans Array.getElem?_push_size,?_⟩;rw [show w.heap.size+1=(w.alloc (.cells #[.slice p n c,.slice p2 H c2] 33)).heap.size by simp];exact Array.getElem?_push_size
 have V:Hid (PlanO B W0 W0 (w.heap.size+1) [] P/\Rn B w W0):=⟨⟨by omega,Rn.refl _ _,_,_,_,_,_,_,[],aK.out.2,⟨rfl,.inl ⟨rfl,rfl⟩⟩,rfl,StsC.nil _ _,J.out.2.2.2.2.1.up ao,J.out.2.2.2.2.2.1,J.out.2.2.2.2.2.2.2.2.1⟩,ao⟩
 clear R aw ao;refine (g_6 B (w.heap.size+1) [] P (by simp) ⟨1,0,0,0,d,X,false⟩ p n c px nx cx W0 W0 V.out.1 (J.out.2.2.1.up V.out.2) (J.out.2.2.2.2.2.2.1.up V.out.2)).mono ?_;rintro e w1 ⟨rfl,au,aj⟩
 have aE:Hid (PlanO B w1 w1 (w.heap.size+1) (F 0).1 (F 0).2.1/\Rn B W0 w1):=by
  rw [HF.out.1];exact ⟨au.on,aj⟩
 have aQ:Hid (w1.heap[w.heap.size]?=some (.cells #[.slice p n c,.slice p2 H c2] 33 (0,0))):=aj.block aK.out.1 (by decide);obtain ⟨_,⟨g1,_⟩⟩:=e_n aQ.out;clear au aj;go_wp2_with fail
 go_loopg [10,11,27] H (fun gg u u2 v wr=>∃ (k:Nat),k<=H/\gg=H - k/\u = .int .i64 (F k).2.2.1/\u2 = .int .i64 (F k).2.2.2/\v = .int .i64 (k:Int)/\Hid (PlanO B wr wr (w.heap.size+1) (F k).1 (F k).2.1/\Rn B w wr))
 case atStart=>exact ⟨0,by omega,by omega,by rw [HF.out.1],by rw [HF.out.1],rfl,aE.out.1,V.out.2.trans aE.out.2⟩
 case round=>
  obtain ⟨k,hk,hg,rfl,rfl,rfl,O⟩:=hrel;by_cases av:k < H
  ·have aV:(k:Int) < (H:Int):=by omega
   have aY:(k:Int) < ((H+1:Nat):Int):=by omega
   have ab:k < ls.length:=by rw [J.out.2.2.2.2.2.2.2.2.2];exact av
   obtain ⟨q,o,rfl,y0,y1,y2⟩:=(J.out.2.2.2.1 wr O.out.2).2 k av;obtain ⟨q3,o3,a3,b3,d3,rfl,aH,aJ⟩:=aO.out k (by omega);have s3:=aH wr O.out.2;have L:=HF.out.2.1 k;have aB:=HF.out.2.2.1 k;have U:=HF.out.2.2.2 k (by omega);obtain ⟨l,el⟩:∃ l,lyA ls k=l:=⟨_,rfl⟩
   have ae:=J.out.1.lay k ab;have aa:=J.out.1.fit k ab;have aL:=J.out.1.inn k ab;rw [el] at y0 y1 y2 ae aa L U;obtain ⟨s,a,b⟩:=l;simp only [] at y0 y1 y2 aa;obtain ⟨N,eN⟩:∃ N,(F k).1.length=N:=⟨_,rfl⟩
   obtain ⟨bf,ai⟩:∃ x,(F k).2.2.1=x:=⟨_,rfl⟩
   obtain ⟨la,ak⟩:∃ x,(F k).2.2.2=x:=⟨_,rfl⟩
   rw [eN,ai,ak] at L;rw [eN] at aB;rw [ai,ak]
   have cL:Hid (∀ W,Below wr.heap.size wr W->Calls Tryz.prog 60 #[.pointer (some ⟨w.heap.size+1,0,none⟩),.agg #[.string s,.int .i64 a,.int .i64 b],.slice a3 b3 d3,.int .i64 bf,.int .i64 la] W fun e w'=>e = .returned (.int .i64 (F (k+1)).2.2.2)/\PlanO B w' w' (w.heap.size+1) (F (k+1)).1 (F (k+1)).2.1/\Rn B W w'):=fun W hW=>by
    have hR:Rn B w W:=O.out.2.trans (Rn.of O.out.1.size hW);have:=m_0 B (w.heap.size+1) N (F k).1 (F k).2.1 eN (by omega) s a b ae (shA S k) aL aa (U.2 ab) (by have h7:=U.1;have h8:=g_3 (ls:=ls) (S:=S) (i:=k) (fun j hj=>J.out.1.inn j (by omega)) (fun j hj=>J.out.1.lay j (by omega));have h9:=J.out.2.2.2.2.2.2.2.1;omega) a3 b3 d3 bf la W (O.out.1.up hW).on (aJ.up hR);rw [L];exact this
   have aN:Hid ((F (k+1)).2.2.1=la):=by show _=_;rw [L]
   have aT:=a_g y0;have aX:=a_g s3;clear L aB U ae aa aL aH aJ el eN ai ak;go_wp2;generalize an:World.alloc _ _=W2;have am:Hid (Below wr.heap.size wr W2):=by rw [<- an];exact a_b wr _
   obtain ⟨e0,e1,e2⟩:W2.cell? ⟨wr.heap.size,0,none⟩=some (.string s)/\W2.cell? ⟨wr.heap.size,1,none⟩=some (.int .i64 a)/\W2.cell? ⟨wr.heap.size,2,none⟩=some (.int .i64 b):=by rw [<- an];simp [go_sem]
   replace s3:=a_h am.out s3;have aU:=a_g e0;have aM:=a_g s3;clear an y0 y1 y2;refine l_A [] 9 47 (by kernel_rfl) rfl rfl 0 _ rfl (by decide) rfl (by kernel_rfl) (by kernel_rfl) (fun _ _ _ _ h=>h) (by rfl) ?_ ?_
   ·intro e he;simp at he
   apply Exists.intro;refine ⟨?yl1,?wk1,?pk1,?rest1⟩
   case wk1=>
    intro x;simp only [List.take_succ_cons,List.take_zero]
    iterate 9
     refine a_l rfl rfl ?_;apply Exists.intro;refine ⟨fun F hF hf K hK=>?_,?_⟩
     ·have hFc:=hF.cell;have hFf:=hF.frozen
      go_big_quiet_op
      first|exact hK|(apply Exists.intro;refine ⟨fun _=>?_,?_⟩;(· fail);exact hK)
     (try simp only [Act.put,sA_,sB_,sC_])
    refine b_a ?_;exact rfl
   case pk1=>
    intro x;simp only [b_k,List.foldl_cons,List.foldl_nil,Act.put,sA_,sB_,sC_]
   case yl1=>
    intro x hx;have e9:True:=trivial;refine ⟨.int .i64 la,fun t ht=>?_,.inl ⟨by rfl,fun w=>?_⟩⟩
    ·cases ht;rfl
    ·simp [execOp,Act.eval,e9,go_sem]
   intro w9 xs ay hf;simp only [List.drop_succ_cons,List.drop_zero];have ad:Hid (Below wr.heap.size wr w9):=a_c am.out ay;clear hf ay e0 e1 e2 s3 aM;go_wp2_with fail
   refine (cL.out w9 ad.out).mono ?_;rintro e w2 ⟨rfl,az,aq⟩;have aP:Hid (PlanO B w2 w2 (w.heap.size+1) (F (k+1)).1 (F (k+1)).2.1/\Rn B w w2):=⟨az,(O.out.2.trans (Rn.of O.out.1.size ad.out)).trans aq⟩
   clear az aq cL O ad am;go_wp2;go_roundg (H - (k+1))
   case measure=>omega
   case rel=>exact ⟨k+1,by omega,rfl,by rw [aN.out],rfl,by first|rfl|simp,aP⟩
  ·obtain rfl:k=H:=by omega
   have aI:=J.out.2.2.2.2.2.2.2.2.2;obtain ⟨hb,hr,q,m,r,pR,nR,cR,xs,h1,h3,h4,h5,_⟩:=O.out.1;obtain ⟨⟨x0,_⟩,_⟩:=e_n h1
   have HE:Hid ((F ls.length).1.length=m/\wr.ownsRow B 129 7 (.slice q m r) m xs/\StsC B wr (F ls.length).1 xs/\Rn B w wr):=by
    rw [aI];exact ⟨h4,by rw [h4] at h3;exact h3,h5,O.out.2⟩
   clear hb hr h1 h3 h4 h5 aI;go_wp2;go_ret;exact ⟨_,_,_,_,rfl,HE.out⟩
end Go.Proofs.YtjlofobnmjompaaGreatDoor.Wd
namespace Go.Proofs.YtjlofobnmjompaaGreatDoor.Wd
open Go.RowKit Fx
def spA (sts:List Sp) (i:Nat):Sp:=sts.getD i ⟨1,0,0,0,[],[],false⟩
/-- The first i steps: an error, the nodes, the last node, the parameters' nodes. -/
def pyF (f:Int) (sts:List Sp) (ns:List Nd):Nat->Int×List Nd×Int×List Int
 | 0=>(0,ns,0,[])
 | i+1=>if (pyF f sts ns i).1=0 then (stE f (pyF f sts ns i).2.1 (spA sts i),stN f (pyF f sts ns i).2.1 (spA sts i),stR f (pyF f sts ns i).2.1 (spA sts i),if (spA sts i).par=true then (pyF f sts ns i).2.2.2++[stR f (pyF f sts ns i).2.1 (spA sts i)] else (pyF f sts ns i).2.2.2) else pyF f sts ns i
theorem i_Z {P:Program} {t e:TypeId} {s b:Nat} (T:GT P t e s b) (hb:b<=256) (U:0 < s) {ops:Array Oper} {rest:List Oper} {o:Oper} {a:Act} {Q:Exit->Act->World->Prop} {w:World} (O:o.guard=none) (sx x:Operand)
  (ho:o.op = .call { callee:=.builtin .append,args:=#[sx,x],argTypes:=#[t,t] }) (B:Nat) (v:Value) (n:Nat) (R:List Value) (hs:a.eval sx=v) (I:w.ownsRow B e s v n R) (g:Nat) (u:List Value) (hx:a.eval x = .slice (some ⟨g,0,none⟩) 1 1)
  (hg:w.heap[g]?=some (.cells u.toArray e (0,0))) (hu:u.length=s) (h1:∀ y∈u,y.oneCell'=true) (hn:n+1<=1073741825) (hB:B<=w.heap.size)
  (h:∀ E L,Hid (L.ownsRow B e s E (n+1) (R++u))->Hid (w.grownBy L v.ownBlock)->Hid (E.ownBlock=v.ownBlock∨E.ownBlock=some w.heap.size)->wpList P ops Q rest (a.put o.dst E) L):wpList P ops Q (o :: rest) a w:=by
 have J:=T.hi;cases M:P.info? e with
 | none=>rw [M] at J;cases J
 | some i=>
  rw [M] at J;simp only [Option.map_some,Option.some.injEq,Prod.mk.injEq] at J;obtain ⟨H,V,aa⟩:=J;cases D:i.zero with
  | none=>rw [D] at H;cases H
  | some z=>
   rw [D] at H;simp only [Option.map_some,Option.some.injEq] at H;have hm:(n+1)*b<=1073741825*256:=Nat.mul_le_mul hn hb
   exact wpList_append_own_at w O sx x t ho B e i z s b T.ht M D V aa H U v n R hs I ⟨g,0,none⟩ 1 1 u hx (by omega) (fun j y hj=>by
    rw [a_u,Nat.zero_add];unfold World.cell?;simpa [hg] using hj) h1 (by unfold maxLen;omega) (by omega) hB (fun E L h2 h3 _ h5=>h E L h2 h3 h5)
theorem t_S {B n c:Nat} {W W':World} {p:Option Addr} {sts:List Sp} {I:List Value} {Bs m:Nat} (ho:W'.ownsRow Bs 129 7 (.slice p m c) m I) (E:StsC B W sts I) (hm:sts.length=m) (i:Nat) (hi:i < m):
  ∃ q R U L M O J,p=some ⟨q,0,none⟩/\W'.cell? ⟨q,i*7,none⟩=some (.int .i64 (spA sts i).op)/\W'.cell? ⟨q,i*7+1,none⟩=some (.int .i64 (spA sts i).a)/\W'.cell? ⟨q,i*7+2,none⟩=some (.int .i64 (spA sts i).b)/\W'.cell? ⟨q,i*7+3,none⟩=some (.int .i64 (spA sts i).k)/\W'.cell? ⟨q,i*7+4,none⟩=some (.slice R U L)/\W'.cell? ⟨q,i*7+5,none⟩=some (.slice M O J)/\W'.cell? ⟨q,i*7+6,none⟩=some (.bool (spA sts i).par)/\Kept B W (.slice R U L) (spA sts i).D/\Kept B W (.slice M O J) (spA sts i).X:=by
 have V:sts[i]?=some (spA sts i):=by
  unfold spA;rw [List.getD_eq_getElem?_getD,List.getElem?_eq_getElem (by omega)];rfl
 obtain ⟨R,U,L,M,O,J,e,h1,h2⟩:=E.2 i _ V
 have H:∀ j u,((I.drop (i*7)).take 7)[j]?=some u->I[i*7+j]?=some u:=fun j u h=>by
  rw [List.getElem?_take] at h
  split at h
  ·rw [List.getElem?_drop] at h;exact h
  ·cases h
 rw [e] at H;rcases ho.2 with ⟨h0,h1⟩|⟨g,cap,aa,hv,hb,hg,rest⟩
 ·omega
 ·cases hv
  have E:∀ j u,I[j]?=some u->W'.cell? ⟨g,j,none⟩=some u:=fun j u h=>by
   have:=ho.cells (g:=g) rfl j u h;rw [a_u,Nat.zero_add] at this;exact this
  exact ⟨g,R,U,L,M,O,J,rfl,E _ _ (H 0 _ rfl),E _ _ (H 1 _ rfl),E _ _ (H 2 _ rfl),E _ _ (H 3 _ rfl),E _ _ (H 4 _ rfl),E _ _ (H 5 _ rfl),E _ _ (H 6 _ rfl),h1,h2⟩
theorem k_c (f:Int) (sts:List Sp) (ns:List Nd) (i:Nat) (h:(pyF f sts ns i).1≠0):∀ k,pyF f sts ns (i+k)=pyF f sts ns i
 | 0=>rfl
 | k+1=>by
  have e:=k_c f sts ns i h k;show (if (pyF f sts ns (i+k)).1=0 then _ else pyF f sts ns (i+k))=_;rw [e,if_neg h]
theorem i_0 (f:Int) (sts:List Sp) (ns:List Nd):∀ i,(pyF f sts ns i).2.2.2.length<=i
 | 0=>by simp [pyF]
 | i+1=>by
  have:=i_0 f sts ns i;unfold pyF
  split
  ·dsimp only
   split
   ·rw [List.length_append];simp;omega
   ·omega
  ·omega
theorem NodesG.st {f:Int} {ns:List Nd} {st:Sp} (h:NodesG ns) (D:RI st.X):NodesG (stN f ns st):=by
 unfold stN
 split
 ·exact h.leaf D
 ·exact h.do
/-- The parameters' row, and that no node lies there. -/
structure PrO (w:World) (B tb:Nat) (ps:List Int) (v:Value) (W:World):Prop where
 own:OwnK .i64 3 W w.heap.size v ps
 off:∀ x,v.ownBlock=some x->AvT x W tb
theorem PrO.nil (w:World) (B D:Nat) (W:World):PrO w B D [] (.slice none 0 0) W:=⟨OwnK.nil _ _ _ _,fun x h=>by cases h⟩
theorem PrO.lt {w:World} {B D:Nat} {ps:List Int} {v:Value} {W:World} (h:PrO w B D ps v W):∀ x,v.ownBlock=some x->w.heap.size<=x/\x < W.heap.size:=fun x E=>World.ownsRow.lt h.own x E
theorem PrO.tape {w:World} {B D:Nat} {ps:List Int} {v:Value} {W W':World} (h:PrO w B D ps v W) (H:Only SC W W') (I:Spar2 D W W'):PrO w B D ps v W':=⟨h.own.only H (by decide),fun x E=>I.2 x (h.lt x E).2 (h.off x E)⟩
theorem PrO.up {w:World} {B D:Nat} {ps:List Int} {v:Value} {W W':World} (h:PrO w B D ps v W) (E:Below W.heap.size W W'):PrO w B D ps v W':=⟨h.own.up E,fun x H=>(h.off x H).up E⟩
theorem k_W {a b:World} (h:a.grownBy b none):Below a.heap.size a b:=⟨h.os,h.tape,h.output,h.size,fun k D=>h.block k D (fun e=>by cases e)⟩
theorem PrO.grow {w:World} {B V:Nat} {ps:List Int} {ns:List Nd} {v U:Value} {x:Int} {W W':World} (h:PrO w B V ps v W) (M:TapC W B V ns) (ho:W'.ownsRow w.heap.size 3 1 U (ps.length+1) (b_e .i64 ps++[.int .i64 x])) (I:W.grownBy W' v.ownBlock) (E:U.ownBlock=v.ownBlock∨U.ownBlock=some W.heap.size):PrO w B V (ps++[x]) U W'/\TapC W' B V ns/\(∀ D,Below B D W->Only SC D W->D.heap.size<=w.heap.size->B<=w.heap.size->Below B D W'/\Only SC D W'):=by
 have J:OwnK .i64 3 W' w.heap.size U (ps++[x]):=by
  unfold OwnK;rw [List.length_append];unfold b_e at *;rw [List.map_append];exact ho
 have L:∀ D,Below B D W->Only SC D W->D.heap.size<=w.heap.size->B<=w.heap.size->Below B D W'/\Only SC D W':=fun D aa R hz ab=>by
  refine ⟨Below.grown aa I ?_ fun k hk=>Nat.le_trans ab (h.lt k hk).1,Nat.le_trans R.1 I.size,fun k hk hp=>?_⟩
  ·obtain ⟨hb,_,_,hv,_⟩:=M;exact Nat.le_trans hb (Nat.le_of_lt (a_i hv))
  ·rw [I.block k (Nat.lt_of_lt_of_le hk R.1) (fun e=>by have:=(h.lt k e.symm).1;omega)];exact R.2 k hk hp
 cases hb:v.ownBlock with
 | none=>
  rw [hb] at I E;have hB:=k_W I;refine ⟨⟨J,fun y H=>?_⟩,M.up hB,L⟩;rcases E with O|O
  ·rw [O] at H;cases H
  ·rw [O] at H;cases H;exact (M.av (Nat.le_refl _)).up hB
 | some r=>
  rw [hb] at I E
  obtain ⟨cs,fz,hr⟩:∃ cs fz,W.heap[r]?=some (.cells cs 3 fz):=by
   rcases h.own.2 with ⟨rfl,_⟩|⟨g,cap,ac,rfl,_,hc,_⟩
   ·cases hb
   ·cases hb;exact ⟨_,_,hc⟩
  refine ⟨⟨J,fun y H=>?_⟩,M.beside I hr (h.off r hb),L⟩;rcases E with O|O
  ·rw [O] at H;cases H;exact (h.off r hb).beside M I hr
  ·rw [O] at H;cases H;exact (M.av (Nat.le_refl _)).beside M I hr
theorem o_K (B J:Nat) (ns:List Nd) (hG:NodesG ns) (sts:List Sp) (U:∀ i,i < sts.length->SpOk (spA sts i)/\((spA sts i).op≠1->RkC (spA sts i).op)) (az:sts.length<=200) (aF:ns.length<=512) (q:Option Addr) (m r Bs:Nat) (xs:List Value) (hm:sts.length=m) (w:World) (hT:TapC w B J ns) (aG:Hid (∀ W,Below B w W->Tz W)) (ho:w.ownsRow Bs 129 7 (.slice q m r) m xs) (hc:StsC B w sts xs):
  Calls Tryz.prog 41 #[.pointer (some ⟨J,0,none⟩),.slice q m r] w fun e w'=>∃ v,e = .returned (.tuple #[.int .i64 (if (pyF ns.length sts ns m).1=0 then (pyF ns.length sts ns m).2.2.1 else 0),v,.int .i64 (pyF ns.length sts ns m).1])/\OwnK .i64 3 w' w.heap.size v (if (pyF ns.length sts ns m).1=0 then (pyF ns.length sts ns m).2.2.2 else [])/\TapC w' B J (pyF ns.length sts ns m).2.1/\Below B w w'/\Only SC w w':=by
 haveI:Nonempty World:=⟨w⟩
 have ao:=d_D B J ns w hT
 have ax:B<=w.heap.size:=by
  obtain ⟨hb,_,_,hv,_⟩:=hT;exact Nat.le_trans hb (Nat.le_of_lt (a_i hv))
 obtain ⟨f,ef⟩:∃ f:Int,(ns.length:Int)=f:=⟨_,rfl⟩
 have hf:0<=f/\f<=1000:=by omega
 rw [ef] at ao ⊢;have V:=k_c f sts ns;have ac:=i_0 f sts ns;obtain ⟨F,eF⟩:∃ F,pyF f sts ns=F:=⟨_,rfl⟩
 have h0:F 0=(0,ns,0,[]):=by rw [<- eF];rfl
 have hs:∀ i,(F i).1=0->F (i+1)=(stE f (F i).2.1 (spA sts i),stN f (F i).2.1 (spA sts i),stR f (F i).2.1 (spA sts i),if (spA sts i).par=true then (F i).2.2.2++[stR f (F i).2.1 (spA sts i)] else (F i).2.2.2):=fun i h=>by
  rw [<- eF] at h ⊢
  conv=>lhs;unfold pyF
  rw [if_pos h]
 rw [eF] at V ac ⊢;have HF:Hid (F 0=(0,ns,0,[])/\(∀ i,(F i).1=0->F (i+1)=(stE f (F i).2.1 (spA sts i),stN f (F i).2.1 (spA sts i),stR f (F i).2.1 (spA sts i),if (spA sts i).par=true then (F i).2.2.2++[stR f (F i).2.1 (spA sts i)] else (F i).2.2.2))/\(∀ i,(F i).1≠0->∀ k,F (i+k)=F i)/\(∀ i,(F i).2.2.2.length<=i)):=⟨h0,hs,V,ac⟩
 have HK:Hid (B<=w.heap.size/\w.ownsRow Bs 129 7 (.slice q m r) m xs/\StsC B w sts xs/\sts.length=m/\(∀ i,i < m->SpOk (spA sts i)/\((spA sts i).op≠1->RkC (spA sts i).op))):=⟨ax,ho,hc,hm,by rw [<- hm];exact U⟩
 have HT:Hid (TapC w B J ns/\NodesG ns):=⟨hT,hG⟩
 have aJ:m<=200:=by omega
 obtain ⟨LR,am⟩:∃ z,(if (F m).1=0 then (F m).2.2.1 else 0)=z:=⟨_,rfl⟩
 obtain ⟨PR,ah⟩:∃ z,(if (F m).1=0 then (F m).2.2.2 else [])=z:=⟨_,rfl⟩
 rw [am,ah];have aC:Hid ((if (F m).1=0 then (F m).2.2.1 else 0)=LR/\(if (F m).1=0 then (F m).2.2.2 else [])=PR):=⟨am,ah⟩
 clear am ah h0 hs V ac eF ho hc hm U hT hG az aF ax ef;go_enter Tryz.func41,Tryz.ntmps41;go_wp2_with fail
 refine ao.mono ?_;rintro e I ⟨rfl,rfl⟩;clear ao;go_wp2_with fail
 go_loopg [8,9,18] m (fun gg u v i wr=>∃ (k:Nat),k<=m/\gg=m - k/\u = .int .i64 (F k).2.2.1/\i = .int .i64 (k:Int)/\Hid ((F k).1=0/\TapC wr B J (F k).2.1/\NodesG (F k).2.1/\PrO I B J (F k).2.2.2 v wr/\Below B I wr/\Only SC I wr))
 case atStart=>
  refine ⟨0,by omega,by omega,by rw [HF.out.1],rfl,?_⟩;show _/\_;rw [HF.out.1];exact ⟨rfl,HT.out.1,HT.out.2,PrO.nil _ _ _ _,Below.refl _ _,Only.refl _ _⟩
 case round=>
  obtain ⟨k,hk,hg,rfl,rfl,L⟩:=hrel;by_cases aq:k < m
  ·have aI:(k:Int) < (m:Int):=by omega
   obtain ⟨U,ai⟩:=HK.out.2.2.2.2 k aq;have M:=HF.out.2.1 k L.out.1;obtain ⟨g,s1,n1,c1,s2,n2,c2,rfl,y0,y1,y2,y3,y4,y5,y6,k1,k2⟩:=t_S (n:=0) (a_z HK.out.2.1 L.out.2.2.2.2.2 (by decide)) HK.out.2.2.1 HK.out.2.2.2.1 k aq;obtain ⟨st,au⟩:∃ st,spA sts k=st:=⟨_,rfl⟩
   rw [au] at y0 y1 y2 y3 y6 k1 k2 M U ai;have an:R4 B I wr:=⟨L.out.2.2.2.2.1,L.out.2.2.2.2.2.more (by simp)⟩
   have cL:Hid (∀ W,Below wr.heap.size wr W->Calls Tryz.prog 61 #[.pointer (some ⟨J,0,none⟩),.agg #[.int .i64 st.op,.int .i64 st.a,.int .i64 st.b,.int .i64 st.k,.slice s1 n1 c1,.slice s2 n2 c2,.bool st.par],.int .i64 f] W fun e w'=>e = .returned (.tuple #[.int .i64 (stR f (F k).2.1 st),.int .i64 (stE f (F k).2.1 st)])/\TapC w' B J (stN f (F k).2.1 st)/\Below B W w'/\Only SC W w'/\Spar2 J W w'):=fun W hW=>by
    have hR:R4 B I W:=an.trans (R4.of (Nat.le_trans HK.out.1 an.size) hW);exact q_S B J (F k).2.1 L.out.2.2.1 st U ai f hf s1 n1 c1 s2 n2 c2 W (L.out.2.1.up hW) (aG.out W hR.bel) (k1 W hR) (k2 W hR)
   have ak:Hid (NodesG (stN f (F k).2.1 st)):=L.out.2.2.1.st U.rX;obtain ⟨E,eE⟩:∃ E,stE f (F k).2.1 st=E:=⟨_,rfl⟩
   obtain ⟨R,eR⟩:∃ E,stR f (F k).2.1 st=E:=⟨_,rfl⟩
   obtain ⟨NS,eN⟩:∃ E,stN f (F k).2.1 st=E:=⟨_,rfl⟩
   rw [eE,eR,eN] at cL M;rw [eN] at ak;have O:Hid (F (k+1)=(E,NS,R,if st.par=true then (F k).2.2.2++[R] else (F k).2.2.2)):=M;obtain ⟨op,a,b,kk,D,X,aa⟩:=st;simp only [] at y0 y1 y2 y3 y6 cL;have aD:=a_g y0;clear U ai M k1 k2 au an eE eR eN hf;go_wp2_with fail
   generalize ag:World.alloc _ _=W2;have af:Hid (Below wr.heap.size wr W2):=by rw [<- ag];exact a_b wr _
   have e6:W2.cell? ⟨wr.heap.size,6,none⟩=some (.bool aa):=by rw [<- ag];simp [go_sem]
   have ay:Hid (∃ cs,W2.heap[wr.heap.size]?=some (.cells cs 129 (0,0))/\cs[6]?=some (.bool aa)):=⟨_,by rw [<- ag];exact Array.getElem?_push_size,rfl⟩
   clear ag y0 y1 y2 y3 y4 y5 y6 aD;refine (cL.out W2 af.out).mono ?_;rintro e w3 ⟨rfl,ar,aA,ae,aw⟩
   have aH:w3.cell? ⟨wr.heap.size,6,none⟩=some (.bool aa):=by
    obtain ⟨cs,h1,h2⟩:=ay.out;have:=ae.keep h1 (by decide);unfold World.cell?;simp [this,h2]
   have H:Hid (TapC w3 B J NS/\PrO I B J (F k).2.2.2 u9 w3/\Below B I w3/\Only SC I w3):=⟨ar,(L.out.2.2.2.1.up af.out).tape ae aw,L.out.2.2.2.2.1.trans ((af.out.mono (Nat.le_trans HK.out.1 L.out.2.2.2.2.2.1)).trans aA),L.out.2.2.2.2.2.trans ((Only.of af.out).trans ae)⟩
   clear ar aA ae aw e6 ay cL;by_cases hE:E=0
   case neg=>
    have aK:(E != 0)=true:=by simpa using hE
    have HE:Hid (F m=(E,NS,R,if aa=true then (F k).2.2.2++[R] else (F k).2.2.2)):=by
     have h4:=HF.out.2.2.1 (k+1) (by rw [O.out];exact hE) (m - (k+1));rw [show k+1+(m - (k+1))=m by omega] at h4;show _=_;rw [h4,O.out]
    have ap:Hid (∃ v,Ending.returned (.tuple #[.int .i64 0,.slice none 0 0,.int .i64 E]) = .returned (.tuple #[.int .i64 LR,v,.int .i64 (F m).1])/\OwnK .i64 3 w3 I.heap.size v PR/\TapC w3 B J (F m).2.1/\Below B I w3/\Only SC I w3):=by
     show ∃ _,_;have e1:(F m).1=E:=by rw [HE.out]
     have e2:=aC.out;rw [if_neg (by rw [e1];exact hE),if_neg (by rw [e1];exact hE)] at e2;rw [<- e2.1,<- e2.2,e1];refine ⟨_,rfl,OwnK.nil _ _ _ _,?_,H.out.2.2⟩;rw [HE.out];exact H.out.1
    clear HE H O L;go_wp2;exact bodyPost_ret (v:=.tuple #[.int .i64 0,.slice none 0 0,.int .i64 E]) (by simp [results,Tryz.results41,go_sem]) rfl ap.out
   subst hE;cases aa with
   | false=>
    have HN:Hid ((F (k+1)).1=0/\TapC w3 B J (F (k+1)).2.1/\NodesG (F (k+1)).2.1/\PrO I B J (F (k+1)).2.2.2 u9 w3/\Below B I w3/\Only SC I w3):=by
     show _/\_;rw [O.out];exact ⟨rfl,H.out.1,ak.out,H.out.2.1,H.out.2.2⟩
    have HL:Hid ((F (k+1)).2.2.1=R):=by show _=_;rw [O.out]
    clear H L O;go_wp2;go_roundg (m - (k+1))
    case measure=>omega
    case rel=>exact ⟨k+1,by omega,rfl,by rw [HL.out],by first|rfl|simp,HN⟩
   | true=>
    obtain ⟨pv,nv,cv,rfl,aB⟩:=H.out.2.1.own.nums.lst;have aj:=aB.out.1;have aL:=HF.out.2.2.2 k;have aE:Hid ((F k).2.2.2.length=nv):=aj;clear aB;have ab:Below w3.heap.size w3 (w3.alloc (.cells #[.int .i64 R] 3)):=a_b w3 _;have ad:Hid (PrO I B J (F k).2.2.2 (.slice pv nv cv) (w3.alloc (.cells #[.int .i64 R] 3))/\TapC (w3.alloc (.cells #[.int .i64 R] 3)) B J NS):=⟨H.out.2.1.up ab,H.out.1.up ab⟩
    have A1:Hid ((w3.alloc (.cells #[.int .i64 R] 3)).ownsRow I.heap.size 3 1 (.slice pv nv cv) nv (b_e .i64 (F k).2.2.2)):=by
     have:=ad.out.1.own;unfold OwnK at this;rw [aj] at this;exact this
    have A2:Hid ((w3.alloc (.cells #[.int .i64 R] 3)).heap[w3.heap.size]?=some (.cells [Value.int .i64 R].toArray 3 (0,0))):=Array.getElem?_push_size;have A3:Hid (∀ y∈[Value.int .i64 R],y.oneCell'=true):=fun y hy=>by simp at hy;subst hy;rfl
    have A4:Hid (I.heap.size<=(w3.alloc (.cells #[.int .i64 R] 3)).heap.size):=Nat.le_trans H.out.2.2.2.1 ab.size;have A5:Hid (Below B I (w3.alloc (.cells #[.int .i64 R] 3))/\Only SC I (w3.alloc (.cells #[.int .i64 R] 3))):=⟨H.out.2.2.1.trans (ab.mono (Nat.le_trans HK.out.1 H.out.2.2.2.1)),H.out.2.2.2.trans (Only.of ab)⟩
    have av:nv+1<=1073741825:=by omega
    clear ab H aj;go_wp2_with (at_builtin;refine i_Z r_9 (by decide) (by decide) rfl (.tmp 34) (.tmp 36) rfl I.heap.size _ _ _ rfl A1.out _ [.int .i64 R] rfl A2.out rfl A3.out av A4.out ?_;intro v0 w0 H0 O0 B0)
    have HN:Hid ((F (k+1)).1=0/\TapC w0 B J (F (k+1)).2.1/\NodesG (F (k+1)).2.1/\PrO I B J (F (k+1)).2.2.2 v0 w0/\Below B I w0/\Only SC I w0):=by
     show _/\_;rw [O.out];obtain ⟨g1,g2,g3⟩:=ad.out.1.grow (x:=R) ad.out.2 (by rw [aE.out];exact H0.out) O0.out B0.out;exact ⟨rfl,g2,ak.out,g1,g3 I A5.out.1 A5.out.2 (Nat.le_refl _) HK.out.1⟩
    have HL:Hid ((F (k+1)).2.2.1=R):=by show _=_;rw [O.out]
    clear A1 A2 A3 A4 A5 H0 O0 B0 ad O L;go_wp2;go_roundg (m - (k+1))
    case measure=>omega
    case rel=>exact ⟨k+1,by omega,rfl,by rw [HL.out],by first|rfl|simp,HN⟩
  ·obtain rfl:k=m:=by omega
   have ap:Hid (∃ v,Ending.returned (.tuple #[.int .i64 (F k).2.2.1,u9,.int .i64 0]) = .returned (.tuple #[.int .i64 LR,v,.int .i64 (F k).1])/\OwnK .i64 3 wr I.heap.size v PR/\TapC wr B J (F k).2.1/\Below B I wr/\Only SC I wr):=by
    show ∃ _,_;have e2:=aC.out;rw [if_pos L.out.1,if_pos L.out.1] at e2;rw [<- e2.1,<- e2.2,L.out.1];exact ⟨_,rfl,L.out.2.2.2.1.own,L.out.2.1,L.out.2.2.2.2⟩
   go_wp2;exact bodyPost_ret (v:=.tuple #[.int .i64 (F k).2.2.1,u9,.int .i64 0]) (by simp [results,Tryz.results41,go_sem]) rfl ap.out
end Go.Proofs.YtjlofobnmjompaaGreatDoor.Wd
