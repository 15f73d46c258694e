/- The code's plans: layer. · The code's plans: planOf. · The code's play: the steps of a plan, one after the other. -/
import Derived.Test.YtjlofobnmjompaaGreatDoorJ33
import Derived.Maps.AppendAt
set_option linter.unusedVariables false
set_option linter.unusedSimpArgs false
set_option maxHeartbeats 16000000
set_option maxRecDepth 16000
namespace Go.Proofs.YtjlofobnmjompaaGreatDoor.Wd
open Go.RowKit
/-- A Leaf of parameters. -/
abbrev spL (D X:List Int):Sp:=⟨1,0,0,0,D,X,true⟩
/-- The Leafs of the first j parameters, and what is left. -/
def prS (PP:List (List Int)) (rest:List Int):Nat→List Sp×List Int
 | 0=>([],rest)
 | j+1=>((prS PP rest j).1++[spL (shA PP j) ((prS PP rest j).2.take (prodI (shA PP j)).toNat)],(prS PP rest j).2.drop (prodI (shA PP j)).toNat)
theorem prS_len {PP:List (List Int)} {rest:List Int}:∀ j,(∀ i,i < j→0≤prodI (shA PP i))→(∀ i,i≤j→sumP PP i≤(rest.length:Int))→((prS PP rest j).2.length:Int)=(rest.length:Int) - sumP PP j∧(prS PP rest j).1.length=j
 | 0,_,_=>by simp [prS,sumP]
 | j+1,h,h2=>by
  obtain ⟨ih,ih2⟩:=prS_len j (fun i hi=>h i (by omega)) (fun i hi=>h2 i (by omega))
  have h3:=h j (by omega)
  have h4:=h2 (j+1) (by omega)
  simp only [sumP] at h4 ⊢
  simp only [prS,List.length_drop,List.length_append,List.length_cons,List.length_nil]
  omega
/-- The numbers of nodes, from N on. -/
def nodL (N j:Nat):List Int:=(List.range j).map fun i=>((N+i:Nat):Int)
theorem nodL_succ (N j:Nat):nodL N (j+1)=nodL N j++[((N+j:Nat):Int)]:=by simp [nodL,List.range_succ]
theorem Rn.low {B:Nat} {Wa W W':World} (h:Rn B Wa W) (hB:B≤Wa.heap.size) (h2:Below Wa.heap.size W W'):Rn B Wa W':=⟨h.bel.trans (h2.mono hB),Nat.le_trans h.onl.1 h2.size,fun k hk hp=>(h2.block k hk).trans (h.onl.2 k hk hp)⟩
theorem PlanO.int {B:Nat} {Wa W W':World} {pb:Nat} {sts:List Sp} {rest:List Int} (h:PlanO B Wa W pb sts rest) (hB:B≤Wa.heap.size) (ho:Only [3] W W') (h2:Below Wa.heap.size W W'):PlanO B Wa W' pb sts rest:=by
 obtain ⟨hb,hr,p,n,c,p2,n2,c2,xs,h1,h3,h4⟩:=h
 exact ⟨hb,hr.low hB h2,p,n,c,p2,n2,c2,xs,ho.keep h1 (by decide),owns_only h3 ho (by decide),h4⟩
theorem PlanO.rn {B:Nat} {Wa W:World} {pb:Nat} {sts:List Sp} {rest:List Int} (h:PlanO B Wa W pb sts rest):Rn B Wa W:=h.2.1
theorem Rn.block {B:Nat} {Wa W:World} (h:Rn B Wa W) {k:Nat} {cs:Array Value} {e:TypeId} {fz:Nat×Nat} (hk:Wa.heap[k]?=some (.cells cs e fz)) (he:e∉S2):W.heap[k]?=some (.cells cs e fz):=h.onl.keep hk he
theorem OwnS.dims {B:Nat} {Wa:World} {p:Option Addr} {n c:Nat} {PP:List (List Int)} (h:OwnS Wa 0 (.slice p n c) PP) (hn:PP.length=n):∀ j,j < n→∃ q o a b d,p=some ⟨q,o,none⟩∧(∀ W',Rn B Wa W'→W'.cell? ⟨q,o+j,none⟩=some (.slice a b d))∧Kept B Wa (.slice a b d) (shA PP j):=by
 subst hn
 intro j hj
 obtain ⟨vs,h3,h4⟩:=h
 obtain ⟨a,b,d,e,h5⟩:=h4 j hj
 have h3':=h3
 rcases h3.2 with ⟨_,h0⟩|⟨g,cap,cur,e2,hB,hc,_⟩
 ·omega
 ·cases e2
  refine ⟨g,0,a,b,d,rfl,fun W' hR=>?_,h5.kept (by decide)⟩
  have:=World.ownsRow.cells (owns_only h3' hR.onl (by decide)) rfl j _ e
  rw [addr_plus] at this
  exact this
theorem intT1:GT Tryz.prog 30 3 1 8:=⟨Tryz.underlying30,by kernel_rfl⟩
/-- What a layer lays: its steps, and the number of what comes out. -/
def layS (l:Ly) (d:List Int) (N:Nat) (rest:List Int) (bf last:Int):List Sp:=(prS (parD l d) rest (parD l d).length).1++(if kindI l.1=0 then denS (decide (d.length=2)) (N+2) (N:Int) ((N+1:Nat):Int) last else if kindI l.1=1 then [spD 12 last (N:Int) 1] else if kindI l.1=2 then [spD 13 last 0 l.2.1] else if kindI l.1=3 then [spD 11 last 0 l.2.1] else [spD 2 bf last 0])
def layN (l:Ly) (d:List Int) (N:Nat):Nat:=if kindI l.1=0 then denN (decide (d.length=2)) (N+2) else if kindI l.1=1 then N+1 else N
def layR (l:Ly) (d:List Int) (rest:List Int):List Int:=(prS (parD l d) rest (parD l d).length).2
theorem layer_any (B pb N:Nat) (sts:List Sp) (rest:List Int) (hN:sts.length=N) (hfew:N≤180) (s:ByteArray) (a b:Int) (hl:LayOk (s,a,b)) (d:List Int) (hd:InOk d) (hfit:kindI s=1→d.length=2) (hsum:psz (s,a,b) d≤(rest.length:Int)) (hrl:rest.length≤1073741824) (p:Option Addr) (n c:Nat) (bf last:Int) (w:World) (hP:PlanO B w w pb sts rest) (h1:Kept B w (.slice p n c) d):
  Calls Tryz.prog 60 #[.pointer (some ⟨pb,0,none⟩),.agg #[.string s,.int .i64 a,.int .i64 b],.slice p n c,.int .i64 bf,.int .i64 last] w fun e w'=>e = .returned (.int .i64 (layN (s,a,b) d N:Int))∧PlanO B w' w' pb (sts++layS (s,a,b) d N rest bf last) (layR (s,a,b) d rest)∧Rn B w w':=by
 haveI:Nonempty World:=⟨w⟩
 obtain ⟨RN,eRN⟩:∃ R,layN (s,a,b) d N=R:=⟨_,rfl⟩
 obtain ⟨RS,eRS⟩:∃ R,layS (s,a,b) d N rest bf last=R:=⟨_,rfl⟩
 obtain ⟨RR,eRR⟩:∃ R,layR (s,a,b) d rest=R:=⟨_,rfl⟩
 rw [eRN,eRS,eRR]
 obtain ⟨PP,eP⟩:∃ PP,parD (s,a,b) d=PP:=⟨_,rfl⟩
 have hnd:d.length=n:=by
  obtain ⟨_,_,_,e,h⟩:=h1.nums.lst
  cases e
  exact h.out.1
 obtain ⟨np,enp⟩:∃ n,PP.length=n:=⟨_,rfl⟩
 have hsr:=sumP_rng hl hd
 have hsz:=sumP_psz (l:=(s,a,b)) (d:=d)
 have hsmal:=parD_smal hl hd
 have hlen:=parD_len (s,a,b) d
 rw [eP] at hsr hsz hsmal hlen
 rw [enp] at hsr hsz hsmal hlen
 have hpr:∀ i,i < np→0≤prodI (shA PP i):=fun i hi=>by
  rw [← eP,← enp] at *
  have hp:=hd.prod
  unfold parD at hi ⊢
  rcases layOk_cases hl with ⟨-,k,g1,g2⟩|⟨-,k,g1,g2⟩|⟨-,k,g1,g2⟩|⟨-,k,g1,g2⟩|⟨-,k,g1,g2⟩ <;> simp only [] at k g1 g2 hi ⊢ <;> rw [k] at hi ⊢ <;> simp at hi
  ·have:=mprod_rng g1 hp
   rcases (show i=0∨i=1 by omega) with rfl|rfl <;> simp [shA,prodI_two,prodI_one] <;> omega
  ·subst hi
   have h0:0≤d.getD 0 0:=by rcases hd with ⟨x,rfl,h⟩|⟨x,y,rfl,hx,hy⟩ <;> simp <;> omega
   simp only [if_neg (show ¬ (1:Nat)=0 by omega),if_true]
   show 0≤prodI [a,d.getD 0 0,b]
   rw [prodI_three]
   exact Int.mul_nonneg (Int.mul_nonneg (by omega) h0) (by omega)
 have hmono:∀ i,i≤np→sumP PP i≤(rest.length:Int):=by
  have key:∀ k i,i+k=np→sumP PP i≤sumP PP np:=by
   intro k
   induction k with
   | zero=>intro i hi;rw [show i=np by omega];exact Int.le_refl _
   | succ k ih=>
    intro i hi
    have h5:=ih (i+1) (by omega)
    have h6:=hpr i (by omega)
    simp only [sumP] at h5
    omega
  intro i hi
  have:=key (np - i) i (by omega)
  omega
 have hprl:∀ j,j≤np→((prS PP rest j).2.length:Int)=(rest.length:Int) - sumP PP j∧(prS PP rest j).1.length=j:=fun j hj=>prS_len j (fun i hi=>hpr i (by omega)) (fun i hi=>hmono i (by omega))
 have HM:Hid ((∀ j,j≤np→(prS PP rest j).2.length≤rest.length∧(prS PP rest j).1.length=j)∧(∀ j,j < np→(prodI (shA PP j)).toNat≤(prS PP rest j).2.length∧prodI (shA PP j)=((prodI (shA PP j)).toNat:Int)∧Smal (shA PP j))):=by
  refine ⟨fun j hj=>?_,fun j hj=>?_⟩
  ·have:=hprl j hj
   have h5:=hsr j (by omega)
   exact ⟨by omega,this.2⟩
  ·have:=hprl j (by omega)
   have h5:=hpr j hj
   have h6:=hmono (j+1) (by omega)
   simp only [sumP] at h6
   exact ⟨by omega,by omega,hsmal j hj⟩
 have hkc:=layOk_cases hl
 have cp:Hid (∀ W,Below w.heap.size w W→Calls Tryz.prog 58 #[.agg #[.string s,.int .i64 a,.int .i64 b],.slice p n c] W fun e w'=>∃ v',e = .returned v'∧ParR PP v' w'∧Below W.heap.size W w'):=fun W hW=>by
  rw [← eP]
  exact paramsOf_any s a b d hl hd hfit p n c W (h1.nums.up hW)
 have HR:Hid (layN (s,a,b) d N=RN∧layS (s,a,b) d N rest bf last=RS∧layR (s,a,b) d rest=RR∧parD (s,a,b) d=PP∧PP.length=np∧d.length=n∧sts.length=N∧np≤2∧rest.length≤1073741824):=⟨eRN,eRS,eRR,eP,enp,hnd,hN,hlen,hrl⟩
 have HP:Hid (PlanO B w w pb sts rest):=hP
 obtain ⟨t0,t1,t2,t3,-⟩:=kts s
 clear eRN eRS eRR eP enp hnd hsr hsz hsmal hpr hmono hprl hP h1 hsum hrl hfit hd hl hN
 go_enter Tryz.func60,Tryz.ntmps60
 go_wp2_with fail
 generalize hW0:World.alloc _ _=W0
 have HB0:Hid (Below w.heap.size w W0):=by rw [← hW0];exact up_alloc w _
 have HX0:Hid (W0.heap[w.heap.size]?=some (.cells #[.string s,.int .i64 a,.int .i64 b] 69 (0,0))):=by
  show _=_
  rw [← hW0]
  exact Array.getElem?_push_size
 clear hW0
 refine (cp.out W0 HB0.out).mono ?_
 rintro e Wa ⟨v1,rfl,hp1,hB1⟩
 obtain ⟨p16,c16,rfl,-,ho16⟩:=hp1
 have hBa:Below w.heap.size w Wa:=bstep HB0.out hB1
 rw [HR.out.2.2.2.2.1] at ho16 ⊢
 have HPa:Hid (PlanO B Wa Wa pb sts rest∧B≤Wa.heap.size∧Rn B w Wa):=⟨(HP.out.up hBa).on,Nat.le_trans HP.out.size hBa.size,Rn.of HP.out.size hBa⟩
 have HD:Hid (∀ j,j < np→∃ q o a b d,p16=some ⟨q,o,none⟩∧(∀ W',Rn B Wa W'→W'.cell? ⟨q,o+j,none⟩=some (.slice a b d))∧Kept B Wa (.slice a b d) (shA PP j)):=OwnS.dims ho16 HR.out.2.2.2.2.1
 have HXa:Hid (Wa.heap[w.heap.size]?=some (.cells #[.string s,.int .i64 a,.int .i64 b] 69 (0,0))):=(hB1.block _ (heap_lt HX0.out)).trans HX0.out
 have hnp2:np≤2:=hlen
 clear ho16 hB1 hBa cp HX0 HB0
 go_wp2_with fail
 go_loopg [11,18] np (fun gg u v wr=>∃ (j:Nat),j≤np∧gg=np - j∧v = .int .i64 (j:Int)∧Hid (OwnK .i64 3 wr Wa.heap.size u (nodL N j))∧Hid (PlanO B Wa wr pb (sts++(prS PP rest j).1) (prS PP rest j).2))
 case atStart=>exact ⟨0,by omega,by omega,rfl,OwnK.nil _ _ _ _,by show PlanO _ _ _ _ _ _;simpa [prS] using HPa.out.1⟩
 case round=>
  obtain ⟨j,hj,hg,rfl,HO,HJ⟩:=hrel
  obtain ⟨pv,nv,cv,rfl,HCv⟩:=HO.out.nums.lst
  have hnv:nodL N j=nodL N j:=rfl
  have hnvl:=HCv.out.1
  simp only [nodL,List.length_map,List.length_range] at hnvl
  subst hnvl
  clear hnv
  by_cases hjn:j < np
  ·have hj':(j:Int) < (np:Int):=by omega
   obtain ⟨q,o,a3,b3,d3,rfl,hcell,hk3⟩:=HD.out j hjn
   have c0:=hcell wr HJ.out.rn
   obtain ⟨m1,m2,m3⟩:=HM.out.2 j hjn
   have hrest:=HM.out.1 j (by omega)
   have hNl:(sts++(prS PP rest j).1).length=N+j:=by rw [List.length_append,hrest.2,HR.out.2.2.2.2.2.2.1]
   have cq:=param_any B pb (sts++(prS PP rest j).1) (prS PP rest j).2 (by rw [hNl];omega) (shA PP j) m3 _ m2 m1 (by have:=HR.out.2.2.2.2.2.2.2.2;omega) a3 b3 d3 Wa wr HJ.out hk3
   rw [hNl] at cq
   clear m1 m2 m3 hk3 hcell hrest hNl HCv
   go_wp2_with fail
   refine cq.mono ?_
   rintro e w1 ⟨rfl,hP1,hR1⟩
   have HO1:Hid (OwnK .i64 3 w1 Wa.heap.size (.slice pv j cv) (nodL N j)):=HO.out.only hR1.onl (by decide)
   have HJ1:Hid (PlanO B Wa w1 pb (sts++(prS PP rest (j+1)).1) (prS PP rest (j+1)).2):=by
    have:=hP1
    rw [List.append_assoc] at this
    exact this
   have HZ1:Hid (Wa.heap.size≤w1.heap.size):=HJ1.out.rn.size
   have hbl:Below w1.heap.size w1 (w1.alloc (.cells #[.int .i64 ((N+j:Nat):Int)] 3)):=up_alloc w1 _
   have A1:Hid ((w1.alloc (.cells #[.int .i64 ((N+j:Nat):Int)] 3)).ownsRow Wa.heap.size 3 1 (.slice pv j cv) j (vals .i64 (nodL N j))):=by
    have:=HO1.out.up hbl
    unfold OwnK at this
    rw [show (nodL N j).length=j by simp [nodL]] at this
    exact this
   have A2:Hid ((w1.alloc (.cells #[.int .i64 ((N+j:Nat):Int)] 3)).heap[w1.heap.size]?=some (.cells [Value.int .i64 ((N+j:Nat):Int)].toArray 3 (0,0))):=Array.getElem?_push_size
   have A3:Hid (∀ y∈[Value.int .i64 ((N+j:Nat):Int)],y.oneCell'=true):=fun y hy=>by simp at hy;subst hy;rfl
   have A4:Hid (Wa.heap.size≤(w1.alloc (.cells #[.int .i64 ((N+j:Nat):Int)] 3)).heap.size):=Nat.le_trans HZ1.out hbl.size
   clear cq hP1 hR1 HO HJ c0 hbl
   go_wp2_with (at_builtin;refine wpList_appG intT1 (by decide) (by decide) rfl (.tmp 22) (.tmp 26) rfl Wa.heap.size _ _ _ rfl A1.out _ [.int .i64 ((N+j:Nat):Int)] rfl A2.out rfl A3.out (by omega) A4.out ?_;intro v0 w0 H0 O0 B0)
   have HF:Hid (OwnK .i64 3 w0 Wa.heap.size v0 (nodL N (j+1))):=by
    show OwnK _ _ _ _ _ _
    unfold OwnK
    rw [nodL_succ,show (nodL N j++[((N+j:Nat):Int)]).length=j+1 by simp [nodL]]
    have:=H0.out
    unfold vals at *
    rw [List.map_append]
    exact this
   have HF2:Hid (PlanO B Wa w0 pb (sts++(prS PP rest (j+1)).1) (prS PP rest (j+1)).2):=(HJ1.out.up (up_alloc w1 _)).int HPa.out.2.1 O0.out (B0.out _ (Below.refl _ _))
   clear A1 A2 A3 A4 H0 O0 B0 HO1 HJ1
   go_wp2
   go_roundg (np - (j+1))
   case measure=>omega
   case rel=>exact ⟨j+1,by omega,rfl,by first|rfl|simp,HF,HF2⟩
  ·obtain rfl:j=np:=by omega
   have hX:=HJ.out.rn.block HXa.out (by decide)
   obtain ⟨⟨y0,_⟩,⟨y1,_⟩,⟨y2,_⟩⟩:=box_3 hX
   have hNN:(sts++(prS PP rest j).1).length=N+j:=by rw [List.length_append,(HM.out.1 j (Nat.le_refl _)).2,HR.out.2.2.2.2.2.2.1]
   have hjl:(parD (s,a,b) d).length=j:=by rw [HR.out.2.2.2.1];exact HR.out.2.2.2.2.1
   have hcv:=HCv.out.2
   clear hX hnp2 hlen
   rcases hkc with ⟨-,k,-⟩|⟨-,k,-⟩|⟨-,k,-⟩|⟨-,k,-⟩|⟨-,k,-⟩ <;> (try simp only [] at k) <;> rw [k] at t0 t1 t2 t3 <;> simp [parD,k] at hjl
   ·replace t0:=t0.trans (show decide ((0:Nat)=0)=true from rfl)
    subst hjl
    obtain ⟨q,o,rfl,c0⟩:=hcv 0 (by omega)
    obtain ⟨q',o',e',c1⟩:=hcv 1 (by omega)
    cases e'
    replace c0:wr.cell? ⟨q,o,none⟩=some (.int .i64 (N:Int)):=c0
    replace c1:wr.cell? ⟨q,o+1,none⟩=some (.int .i64 ((N+1:Nat):Int)):=c1
    have hz1:=cell_size c0
    clear hcv HCv HO HD t1 t2 t3
    go_wp2
    refine rel [] 9 73 (by kernel_rfl) rfl rfl (by kernel_rfl) (by rfl) ?_ ?_
    ·intro e he;simp at he
    apply Exists.intro
    refine ⟨fun x=>?_,?_,?_⟩
    ·simp only [List.take_succ_cons,List.take_zero]
     iterate 9
      refine relQuiet rfl rfl ?_
      apply Exists.intro
      refine ⟨fun F hF hf K hK=>?_,?_⟩
      ·have hFc:=hF.cell
       have hFf:=hF.frozen
       go_big_quiet_op
       first|exact hK|(apply Exists.intro;refine ⟨fun _=>?_,?_⟩;(· fail);exact hK)
      (try simp only [Act.put,List.setIfInBounds_toArray,List.set_cons_zero,List.set_cons_succ])
     refine relEnd ?_
     exact rfl
    ·exact fun x=>rfl
    ·intro w9 xs hB9 hf
     simp only [List.drop_succ_cons,List.drop_zero]
     have HJ9:Hid (PlanO B Wa w9 pb (sts++(prS PP rest 2).1) (prS PP rest 2).2):=HJ.out.up hB9
     clear hf hB9 c0 c1
     go_wp2_with fail
     refine (dense_any B pb (N+2) _ _ hNN (by omega) (N:Int) ((N+1:Nat):Int) last p n c Wa w9 HJ9.out).mono ?_
     rintro e w2 ⟨rfl,hP2,hR2⟩
     have HF:Hid (PlanO B w2 w2 pb (sts++RS) RR∧Rn B w w2):=by
      refine ⟨?_,HPa.out.2.2.trans hP2.rn⟩
      have h3:=hP2.on
      rw [List.append_assoc] at h3
      rw [← HR.out.2.1,← HR.out.2.2.1]
      unfold layS layR
      rw [HR.out.2.2.2.1,HR.out.2.2.2.2.1,HR.out.2.2.2.2.2.1]
      simp only [k,if_true]
      exact h3
     have eN:RN=denN (decide (n=2)) (N+2):=by
      rw [← HR.out.1]
      unfold layN
      rw [HR.out.2.2.2.2.2.1]
      simp only [k,if_true]
     rw [← eN]
     clear hP2 hR2 HR
     go_wp2
     go_ret
     exact ⟨by first|rfl|simp [eN],HF.out⟩
   ·replace t0:=t0.trans (show decide ((1:Nat)=0)=false from rfl)
    replace t1:=t1.trans (show decide ((1:Nat)=1)=true from rfl)
    subst hjl
    obtain ⟨q,o,rfl,c0⟩:=hcv 0 (by omega)
    replace c0:wr.cell? ⟨q,o,none⟩=some (.int .i64 (N:Int)):=c0
    have hz1:=cell_size c0
    clear hcv HCv HO HD t2 t3
    go_wp2_with fail
    refine (padd_do B pb (N+1) _ _ hNN (by omega) 12 last (N:Int) 1 Wa wr HJ.out).mono ?_
    rintro e w2 ⟨rfl,H2⟩
    have HF:Hid (PlanO B w2 w2 pb (sts++RS) RR∧Rn B w w2):=by
     refine ⟨?_,HPa.out.2.2.trans H2.out.1.rn⟩
     have h3:=H2.out.1.on
     rw [List.append_assoc] at h3
     rw [← HR.out.2.1,← HR.out.2.2.1]
     unfold layS layR
     rw [HR.out.2.2.2.1,HR.out.2.2.2.2.1]
     simp only [k,if_true,if_false,if_neg (show ¬ (1:Nat)=0 by omega),if_neg (show ¬ (2:Nat)=0 by omega),if_neg (show ¬ (2:Nat)=1 by omega),if_neg (show ¬ (3:Nat)=0 by omega),if_neg (show ¬ (3:Nat)=1 by omega),if_neg (show ¬ (3:Nat)=2 by omega),if_neg (show ¬ (4:Nat)=0 by omega),if_neg (show ¬ (4:Nat)=1 by omega),if_neg (show ¬ (4:Nat)=2 by omega),if_neg (show ¬ (4:Nat)=3 by omega)]
     exact h3
    have eN:RN=N+1:=by
     rw [← HR.out.1]
     unfold layN
     simp only [k,if_true,if_false,if_neg (show ¬ (1:Nat)=0 by omega),if_neg (show ¬ (2:Nat)=0 by omega),if_neg (show ¬ (2:Nat)=1 by omega),if_neg (show ¬ (3:Nat)=0 by omega),if_neg (show ¬ (3:Nat)=1 by omega),if_neg (show ¬ (3:Nat)=2 by omega),if_neg (show ¬ (4:Nat)=0 by omega),if_neg (show ¬ (4:Nat)=1 by omega),if_neg (show ¬ (4:Nat)=2 by omega),if_neg (show ¬ (4:Nat)=3 by omega)]
     (try rfl)
    subst eN
    clear H2 HR
    go_wp2
    go_ret
    exact ⟨by first|rfl|simp,HF.out⟩
   ·replace t0:=t0.trans (show decide ((2:Nat)=0)=false from rfl)
    replace t1:=t1.trans (show decide ((2:Nat)=1)=false from rfl)
    replace t2:=t2.trans (show decide ((2:Nat)=2)=true from rfl)
    subst hjl
    clear hcv HCv HO HD
    go_wp2_with fail
    refine (padd_do B pb (N+0) _ _ hNN (by omega) 13 last 0 a Wa wr HJ.out).mono ?_
    rintro e w2 ⟨rfl,H2⟩
    have HF:Hid (PlanO B w2 w2 pb (sts++RS) RR∧Rn B w w2):=by
     refine ⟨?_,HPa.out.2.2.trans H2.out.1.rn⟩
     have h3:=H2.out.1.on
     rw [List.append_assoc] at h3
     rw [← HR.out.2.1,← HR.out.2.2.1]
     unfold layS layR
     rw [HR.out.2.2.2.1,HR.out.2.2.2.2.1]
     simp only [k,if_true,if_false,if_neg (show ¬ (1:Nat)=0 by omega),if_neg (show ¬ (2:Nat)=0 by omega),if_neg (show ¬ (2:Nat)=1 by omega),if_neg (show ¬ (3:Nat)=0 by omega),if_neg (show ¬ (3:Nat)=1 by omega),if_neg (show ¬ (3:Nat)=2 by omega),if_neg (show ¬ (4:Nat)=0 by omega),if_neg (show ¬ (4:Nat)=1 by omega),if_neg (show ¬ (4:Nat)=2 by omega),if_neg (show ¬ (4:Nat)=3 by omega)]
     exact h3
    have eN:RN=N+0:=by
     rw [← HR.out.1]
     unfold layN
     simp only [k,if_true,if_false,if_neg (show ¬ (1:Nat)=0 by omega),if_neg (show ¬ (2:Nat)=0 by omega),if_neg (show ¬ (2:Nat)=1 by omega),if_neg (show ¬ (3:Nat)=0 by omega),if_neg (show ¬ (3:Nat)=1 by omega),if_neg (show ¬ (3:Nat)=2 by omega),if_neg (show ¬ (4:Nat)=0 by omega),if_neg (show ¬ (4:Nat)=1 by omega),if_neg (show ¬ (4:Nat)=2 by omega),if_neg (show ¬ (4:Nat)=3 by omega)]
     (try rfl)
    subst eN
    clear H2 HR
    go_wp2
    go_ret
    exact ⟨by first|rfl|simp,HF.out⟩
   ·replace t0:=t0.trans (show decide ((3:Nat)=0)=false from rfl)
    replace t1:=t1.trans (show decide ((3:Nat)=1)=false from rfl)
    replace t2:=t2.trans (show decide ((3:Nat)=2)=false from rfl)
    replace t3:=t3.trans (show decide ((3:Nat)=3)=true from rfl)
    subst hjl
    clear hcv HCv HO HD
    go_wp2_with fail
    refine (padd_do B pb (N+0) _ _ hNN (by omega) 11 last 0 a Wa wr HJ.out).mono ?_
    rintro e w2 ⟨rfl,H2⟩
    have HF:Hid (PlanO B w2 w2 pb (sts++RS) RR∧Rn B w w2):=by
     refine ⟨?_,HPa.out.2.2.trans H2.out.1.rn⟩
     have h3:=H2.out.1.on
     rw [List.append_assoc] at h3
     rw [← HR.out.2.1,← HR.out.2.2.1]
     unfold layS layR
     rw [HR.out.2.2.2.1,HR.out.2.2.2.2.1]
     simp only [k,if_true,if_false,if_neg (show ¬ (1:Nat)=0 by omega),if_neg (show ¬ (2:Nat)=0 by omega),if_neg (show ¬ (2:Nat)=1 by omega),if_neg (show ¬ (3:Nat)=0 by omega),if_neg (show ¬ (3:Nat)=1 by omega),if_neg (show ¬ (3:Nat)=2 by omega),if_neg (show ¬ (4:Nat)=0 by omega),if_neg (show ¬ (4:Nat)=1 by omega),if_neg (show ¬ (4:Nat)=2 by omega),if_neg (show ¬ (4:Nat)=3 by omega)]
     exact h3
    have eN:RN=N+0:=by
     rw [← HR.out.1]
     unfold layN
     simp only [k,if_true,if_false,if_neg (show ¬ (1:Nat)=0 by omega),if_neg (show ¬ (2:Nat)=0 by omega),if_neg (show ¬ (2:Nat)=1 by omega),if_neg (show ¬ (3:Nat)=0 by omega),if_neg (show ¬ (3:Nat)=1 by omega),if_neg (show ¬ (3:Nat)=2 by omega),if_neg (show ¬ (4:Nat)=0 by omega),if_neg (show ¬ (4:Nat)=1 by omega),if_neg (show ¬ (4:Nat)=2 by omega),if_neg (show ¬ (4:Nat)=3 by omega)]
     (try rfl)
    subst eN
    clear H2 HR
    go_wp2
    go_ret
    exact ⟨by first|rfl|simp,HF.out⟩
   ·replace t0:=t0.trans (show decide ((4:Nat)=0)=false from rfl)
    replace t1:=t1.trans (show decide ((4:Nat)=1)=false from rfl)
    replace t2:=t2.trans (show decide ((4:Nat)=2)=false from rfl)
    replace t3:=t3.trans (show decide ((4:Nat)=3)=false from rfl)
    subst hjl
    clear hcv HCv HO HD
    go_wp2_with fail
    refine (padd_do B pb (N+0) _ _ hNN (by omega) 2 bf last 0 Wa wr HJ.out).mono ?_
    rintro e w2 ⟨rfl,H2⟩
    have HF:Hid (PlanO B w2 w2 pb (sts++RS) RR∧Rn B w w2):=by
     refine ⟨?_,HPa.out.2.2.trans H2.out.1.rn⟩
     have h3:=H2.out.1.on
     rw [List.append_assoc] at h3
     rw [← HR.out.2.1,← HR.out.2.2.1]
     unfold layS layR
     rw [HR.out.2.2.2.1,HR.out.2.2.2.2.1]
     simp only [k,if_true,if_false,if_neg (show ¬ (1:Nat)=0 by omega),if_neg (show ¬ (2:Nat)=0 by omega),if_neg (show ¬ (2:Nat)=1 by omega),if_neg (show ¬ (3:Nat)=0 by omega),if_neg (show ¬ (3:Nat)=1 by omega),if_neg (show ¬ (3:Nat)=2 by omega),if_neg (show ¬ (4:Nat)=0 by omega),if_neg (show ¬ (4:Nat)=1 by omega),if_neg (show ¬ (4:Nat)=2 by omega),if_neg (show ¬ (4:Nat)=3 by omega)]
     exact h3
    have eN:RN=N+0:=by
     rw [← HR.out.1]
     unfold layN
     simp only [k,if_true,if_false,if_neg (show ¬ (1:Nat)=0 by omega),if_neg (show ¬ (2:Nat)=0 by omega),if_neg (show ¬ (2:Nat)=1 by omega),if_neg (show ¬ (3:Nat)=0 by omega),if_neg (show ¬ (3:Nat)=1 by omega),if_neg (show ¬ (3:Nat)=2 by omega),if_neg (show ¬ (4:Nat)=0 by omega),if_neg (show ¬ (4:Nat)=1 by omega),if_neg (show ¬ (4:Nat)=2 by omega),if_neg (show ¬ (4:Nat)=3 by omega)]
     (try rfl)
    subst eN
    clear H2 HR
    go_wp2
    go_ret
    exact ⟨by first|rfl|simp,HF.out⟩
/-- The plan of the first i layers: its steps, the parameters that are left, what went in, what comes out. -/
def plF (d:List Int) (ls:List Ly) (S:List (List Int)) (P X:List Int):Nat→List Sp×List Int×Int×Int
 | 0=>([⟨1,0,0,0,d,X,false⟩],P,0,0)
 | i+1=>((plF d ls S P X i).1++layS (lyA ls i) (shA S i) (plF d ls S P X i).1.length (plF d ls S P X i).2.1 (plF d ls S P X i).2.2.1 (plF d ls S P X i).2.2.2,layR (lyA ls i) (shA S i) (plF d ls S P X i).2.1,(plF d ls S P X i).2.2.2,(layN (lyA ls i) (shA S i) (plF d ls S P X i).1.length:Int))
theorem prS_few (PP:List (List Int)) (rest:List Int):∀ j,(prS PP rest j).1.length=j
 | 0=>rfl
 | j+1=>by simp [prS,prS_few PP rest j]
theorem layS_few (l:Ly) (d:List Int) (N:Nat) (rest:List Int) (bf last:Int):(layS l d N rest bf last).length≤6:=by
 unfold layS
 rw [List.length_append,prS_few]
 have:=parD_len l d
 have h2:kindI l.1≠0→(parD l d).length≤1:=fun h=>by unfold parD;rw [if_neg h];split <;> simp
 by_cases h0:kindI l.1=0
 ·rw [if_pos h0];unfold denS;split <;> simp <;> omega
 ·have:=h2 h0
  rw [if_neg h0]
  split
  ·simp;omega
  ·split
   ·simp;omega
   ·split <;> simp <;> omega
theorem plF_few (d:List Int) (ls:List Ly) (S:List (List Int)) (P X:List Int):∀ i,(plF d ls S P X i).1.length≤1+6*i
 | 0=>by simp [plF]
 | i+1=>by
  have:=plF_few d ls S P X i
  have h2:=layS_few (lyA ls i) (shA S i) (plF d ls S P X i).1.length (plF d ls S P X i).2.1 (plF d ls S P X i).2.2.1 (plF d ls S P X i).2.2.2
  simp only [plF,List.length_append]
  omega
theorem prod_par {l:Ly} {d:List Int} (hl:LayOk l) (hd:InOk d):∀ i,i < (parD l d).length→0≤prodI (shA (parD l d) i):=fun i hi=>by
 have hp:=hd.prod
 unfold parD at hi ⊢
 rcases layOk_cases hl with ⟨-,k,g1,g2⟩|⟨-,k,g1,g2⟩|⟨-,k,g1,g2⟩|⟨-,k,g1,g2⟩|⟨-,k,g1,g2⟩ <;> rw [k] at hi ⊢ <;> simp at hi
 ·have:=mprod_rng g1 hp
  rcases (show i=0∨i=1 by omega) with rfl|rfl <;> simp [shA,prodI_two,prodI_one] <;> omega
 ·subst hi
  have h0:0≤d.getD 0 0:=by rcases hd with ⟨x,rfl,h⟩|⟨x,y,rfl,hx,hy⟩ <;> simp <;> omega
  simp only [if_neg (show ¬ (1:Nat)=0 by omega),if_true]
  show 0≤prodI [l.2.1,d.getD 0 0,l.2.2]
  rw [prodI_three]
  exact Int.mul_nonneg (Int.mul_nonneg (by omega) h0) (by omega)
theorem sum_le {l:Ly} {d:List Int} (hl:LayOk l) (hd:InOk d):∀ k i,i+k=(parD l d).length→sumP (parD l d) i≤sumP (parD l d) (parD l d).length
 | 0,i,hi=>by rw [show i=(parD l d).length by omega];exact Int.le_refl _
 | k+1,i,hi=>by
  have h5:=sum_le hl hd k (i+1) (by omega)
  have h6:=prod_par hl hd i (by omega)
  simp only [sumP] at h5
  omega
theorem layR_len {l:Ly} {d:List Int} (hl:LayOk l) (hd:InOk d) {rest:List Int} (h:psz l d≤(rest.length:Int)):((layR l d rest).length:Int)=(rest.length:Int) - psz l d:=by
 unfold layR
 rw [← sumP_psz] at h ⊢
 exact (prS_len (PP:=parD l d) (rest:=rest) _ (prod_par hl hd) (fun i hi=>Int.le_trans (sum_le hl hd ((parD l d).length - i) i (by omega)) h)).1
theorem cntP_le {d:List Int} {ls:List Ly} {S:List (List Int)} (ok:NetOk d ls S):∀ i,i≤ls.length→cntP ls S i≤cntP ls S ls.length:=by
 have key:∀ k i,i+k=ls.length→cntP ls S i≤cntP ls S ls.length:=by
  intro k
  induction k with
  | zero=>intro i hi;rw [show i=ls.length by omega];exact Int.le_refl _
  | succ k ih=>
   intro i hi
   have h1:=ih (i+1) (by omega)
   have h2:=psz_rng (ok.inn i (by omega)) (ok.lay i (by omega))
   simp only [cntP] at h1
   omega
 exact fun i hi=>key (ls.length - i) i (by omega)
theorem plF_rest {d:List Int} {ls:List Ly} {S:List (List Int)} {P X:List Int} (ok:NetOk d ls S) (hP:(P.length:Int)=cntP ls S ls.length):∀ i,i≤ls.length→((plF d ls S P X i).2.1.length:Int)=(P.length:Int) - cntP ls S i∧(i < ls.length→psz (lyA ls i) (shA S i)≤((plF d ls S P X i).2.1.length:Int))
 | 0,_=>by
  refine ⟨by simp [plF,cntP],fun h=>?_⟩
  have key:=cntP_le ok 1 (by omega)
  simp only [cntP] at key
  simp only [plF]
  omega
 | i+1,hi=>by
  obtain ⟨h1,h2⟩:=plF_rest (X:=X) ok hP i (by omega)
  have h3:=h2 (by omega)
  have h4:=layR_len (ok.lay i (by omega)) (ok.inn i (by omega)) h3
  have e:((plF d ls S P X (i+1)).2.1.length:Int)=(P.length:Int) - cntP ls S (i+1):=by
   simp only [plF,cntP]
   omega
  refine ⟨e,fun h=>?_⟩
  have key:=cntP_le ok (i+1+1) (by omega)
  rw [e]
  simp only [cntP] at key ⊢
  omega
theorem planOf_any (B:Nat) (d:List Int) (ls:List Ly) (S:List (List Int)) (ok:NetOk d ls S) (h16:ls.length≤16) (P X:List Int) (hPl:(P.length:Int)=cntP ls S ls.length) (hPb:P.length≤1073741824) (p p2 ps pp px:Option Addr) (n c n2 c2 ns cs np cp nx cx:Nat) (w:World) (hB:B≤w.heap.size) (hIn:Kept B w (.slice p n c) d) (hLy:∀ W',Rn B w W'→LyR 0 W' p2 n2 ls) (hSh:OwnS w 0 (.slice ps ns cs) S) (hns:S.length=ns) (hp:Kept B w (.slice pp np cp) P) (hpc:np≤cp) (hx:Kept B w (.slice px nx cx) X):
  Calls Tryz.prog 39 #[.agg #[.slice p n c,.slice p2 n2 c2],.slice ps ns cs,.slice pp np cp,.slice px nx cx] w fun e w'=>∃ q m r xs,e = .returned (.slice q m r)∧(plF d ls S P X ls.length).1.length=m∧w'.ownsRow B 129 7 (.slice q m r) m xs∧StsC B w' (plF d ls S P X ls.length).1 xs∧Rn B w w':=by
 haveI:Nonempty World:=⟨w⟩
 obtain ⟨F,eF⟩:∃ F,plF d ls S P X=F:=⟨_,rfl⟩
 have hfew:=plF_few d ls S P X
 have hrest:=plF_rest (P:=P) (X:=X) ok hPl
 have h0:F 0=([⟨1,0,0,0,d,X,false⟩],P,0,0):=by rw [← eF];rfl
 have hs:∀ i,F (i+1)=((F i).1++layS (lyA ls i) (shA S i) (F i).1.length (F i).2.1 (F i).2.2.1 (F i).2.2.2,layR (lyA ls i) (shA S i) (F i).2.1,(F i).2.2.2,(layN (lyA ls i) (shA S i) (F i).1.length:Int)):=fun i=>by rw [← eF];rfl
 rw [eF] at hfew hrest ⊢
 have HF:Hid (F 0=([⟨1,0,0,0,d,X,false⟩],P,0,0)∧(∀ i,F (i+1)=((F i).1++layS (lyA ls i) (shA S i) (F i).1.length (F i).2.1 (F i).2.2.1 (F i).2.2.2,layR (lyA ls i) (shA S i) (F i).2.1,(F i).2.2.2,(layN (lyA ls i) (shA S i) (F i).1.length:Int)))∧(∀ i,(F i).1.length≤1+6*i)∧(∀ i,i≤ls.length→((F i).2.1.length:Int)=(P.length:Int) - cntP ls S i∧(i < ls.length→psz (lyA ls i) (shA S i)≤((F i).2.1.length:Int)))):=⟨h0,hs,hfew,hrest⟩
 have hnp:P.length=np:=by
  obtain ⟨_,_,_,e,h⟩:=hp.nums.lst
  cases e
  exact h.out.1
 have hn2:ls.length=n2:=(hLy w (Rn.refl _ _)).1
 have HK:Hid (NetOk d ls S∧ls.length≤16∧Kept B w (.slice p n c) d∧(∀ W',Rn B w W'→LyR 0 W' p2 n2 ls)∧Kept B w (.slice pp np cp) P∧np≤cp∧Kept B w (.slice px nx cx) X∧P.length≤1073741824∧P.length=np∧ls.length=n2):=⟨ok,h16,hIn,hLy,hp,hpc,hx,hPb,hnp,hn2⟩
 have HSH:Hid (∀ j,j < ns→∃ q o a b d,ps=some ⟨q,o,none⟩∧(∀ W',Rn B w W'→W'.cell? ⟨q,o+j,none⟩=some (.slice a b d))∧Kept B w (.slice a b d) (shA S j)):=OwnS.dims hSh hns
 have hnsl:ns=n2+1:=by rw [← hns,ok.len,hn2]
 subst hnsl
 have h16':n2≤16:=by omega
 clear eF h0 hs hfew hrest hIn hLy hSh hns hp hpc hx hPb hPl ok h16 hnp hn2
 go_enter Tryz.func39,Tryz.ntmps39
 go_wp2_with fail
 generalize hW0:World.alloc _ _=W0
 have hz0:W0.heap.size=w.heap.size+2:=by rw [← hW0];simp
 have hB0:Below w.heap.size w W0:=by rw [← hW0];go_grown
 have hR0:Rn B w W0:=Rn.of hB hB0
 have HX0:Hid (W0.heap[w.heap.size]?=some (.cells #[.slice p n c,.slice p2 n2 c2] 33 (0,0))∧W0.heap[w.heap.size+1]?=some (.cells #[.slice none 0 0,.slice pp np cp] 126 (0,0))):=by
  show _∧_
  rw [← hW0]
  refine ⟨((up_alloc _ _).block _ (by simp)).trans Array.getElem?_push_size,?_⟩
  rw [show w.heap.size+1=(w.alloc (.cells #[.slice p n c,.slice p2 n2 c2] 33)).heap.size by simp]
  exact Array.getElem?_push_size
 have HP0:Hid (PlanO B W0 W0 (w.heap.size+1) [] P∧Rn B w W0):=⟨⟨by omega,Rn.refl _ _,_,_,_,_,_,_,[],HX0.out.2,⟨rfl,.inl ⟨rfl,rfl⟩⟩,rfl,StsC.nil _ _,HK.out.2.2.2.2.1.up hR0,HK.out.2.2.2.2.2.1,HK.out.2.2.2.2.2.2.2.2.1⟩,hR0⟩
 clear hW0 hB0 hR0
 refine (padd_any B (w.heap.size+1) [] P (by simp) ⟨1,0,0,0,d,X,false⟩ p n c px nx cx W0 W0 HP0.out.1 (HK.out.2.2.1.up HP0.out.2) (HK.out.2.2.2.2.2.2.1.up HP0.out.2)).mono ?_
 rintro e w1 ⟨rfl,hP1,hR1⟩
 have HI1:Hid (PlanO B w1 w1 (w.heap.size+1) (F 0).1 (F 0).2.1∧Rn B W0 w1):=by
  rw [HF.out.1]
  exact ⟨hP1.on,hR1⟩
 have HX1:Hid (w1.heap[w.heap.size]?=some (.cells #[.slice p n c,.slice p2 n2 c2] 33 (0,0))):=hR1.block HX0.out.1 (by decide)
 obtain ⟨_,⟨g1,_⟩⟩:=box_2 HX1.out
 clear hP1 hR1
 go_wp2_with fail
 go_loopg [10,11,27] n2 (fun gg u u2 v wr=>∃ (k:Nat),k≤n2∧gg=n2 - k∧u = .int .i64 (F k).2.2.1∧u2 = .int .i64 (F k).2.2.2∧v = .int .i64 (k:Int)∧Hid (PlanO B wr wr (w.heap.size+1) (F k).1 (F k).2.1∧Rn B w wr))
 case atStart=>exact ⟨0,by omega,by omega,by rw [HF.out.1],by rw [HF.out.1],rfl,HI1.out.1,HP0.out.2.trans HI1.out.2⟩
 case round=>
  obtain ⟨k,hk,hg,rfl,rfl,rfl,HI⟩:=hrel
  by_cases hkn:k < n2
  ·have hk':(k:Int) < (n2:Int):=by omega
   have hk1:(k:Int) < ((n2+1:Nat):Int):=by omega
   have hkl:k < ls.length:=by rw [HK.out.2.2.2.2.2.2.2.2.2];exact hkn
   obtain ⟨q,o,rfl,y0,y1,y2⟩:=(HK.out.2.2.2.1 wr HI.out.2).2 k hkn
   obtain ⟨q3,o3,a3,b3,d3,rfl,hc3,hk3⟩:=HSH.out k (by omega)
   have s3:=hc3 wr HI.out.2
   have hs1:=HF.out.2.1 k
   have hs2:=HF.out.2.2.1 k
   have hs3:=HF.out.2.2.2 k (by omega)
   obtain ⟨l,el⟩:∃ l,lyA ls k=l:=⟨_,rfl⟩
   have hlo:=HK.out.1.lay k hkl
   have hft:=HK.out.1.fit k hkl
   have hin:=HK.out.1.inn k hkl
   rw [el] at y0 y1 y2 hlo hft hs1 hs3
   obtain ⟨s,a,b⟩:=l
   simp only [] at y0 y1 y2 hft
   obtain ⟨N,eN⟩:∃ N,(F k).1.length=N:=⟨_,rfl⟩
   obtain ⟨bf,ebf⟩:∃ x,(F k).2.2.1=x:=⟨_,rfl⟩
   obtain ⟨la,ela⟩:∃ x,(F k).2.2.2=x:=⟨_,rfl⟩
   rw [eN,ebf,ela] at hs1
   rw [eN] at hs2
   rw [ebf,ela]
   have cL:Hid (∀ W,Below wr.heap.size wr W→Calls Tryz.prog 60 #[.pointer (some ⟨w.heap.size+1,0,none⟩),.agg #[.string s,.int .i64 a,.int .i64 b],.slice a3 b3 d3,.int .i64 bf,.int .i64 la] W fun e w'=>e = .returned (.int .i64 (F (k+1)).2.2.2)∧PlanO B w' w' (w.heap.size+1) (F (k+1)).1 (F (k+1)).2.1∧Rn B W w'):=fun W hW=>by
    have hR:Rn B w W:=HI.out.2.trans (Rn.of HI.out.1.size hW)
    have:=layer_any B (w.heap.size+1) N (F k).1 (F k).2.1 eN (by omega) s a b hlo (shA S k) hin hft (hs3.2 hkl) (by have h7:=hs3.1;have h8:=cntP_rng (ls:=ls) (S:=S) (i:=k) (fun j hj=>HK.out.1.inn j (by omega)) (fun j hj=>HK.out.1.lay j (by omega));have h9:=HK.out.2.2.2.2.2.2.2.1;omega) a3 b3 d3 bf la W (HI.out.1.up hW).on (hk3.up hR)
    rw [hs1]
    exact this
   have HS1:Hid ((F (k+1)).2.2.1=la):=by show _=_;rw [hs1]
   have hlt:=cell_size y0
   have hz3:=cell_size s3
   clear hs1 hs2 hs3 hlo hft hin hc3 hk3 el eN ebf ela
   go_wp2
   generalize hW2:World.alloc _ _=W2
   have HB2:Hid (Below wr.heap.size wr W2):=by rw [← hW2];exact up_alloc wr _
   obtain ⟨e0,e1,e2⟩:W2.cell? ⟨wr.heap.size,0,none⟩=some (.string s)∧W2.cell? ⟨wr.heap.size,1,none⟩=some (.int .i64 a)∧W2.cell? ⟨wr.heap.size,2,none⟩=some (.int .i64 b):=by rw [← hW2];simp [go_sem]
   replace s3:=still_cell HB2.out s3
   have hz4:=cell_size e0
   have hz5:=cell_size s3
   clear hW2 y0 y1 y2
   refine relE [] 9 47 (by kernel_rfl) rfl rfl 0 _ rfl (by decide) rfl (by kernel_rfl) (by kernel_rfl) (fun _ _ _ _ h=>h) (by rfl) ?_ ?_
   ·intro e he;simp at he
   apply Exists.intro
   refine ⟨?yl1,?wk1,?pk1,?rest1⟩
   case wk1=>
    intro x
    simp only [List.take_succ_cons,List.take_zero]
    iterate 9
     refine relQuiet rfl rfl ?_
     apply Exists.intro
     refine ⟨fun F hF hf K hK=>?_,?_⟩
     ·have hFc:=hF.cell
      have hFf:=hF.frozen
      go_big_quiet_op
      first|exact hK|(apply Exists.intro;refine ⟨fun _=>?_,?_⟩;(· fail);exact hK)
     (try simp only [Act.put,List.setIfInBounds_toArray,List.set_cons_zero,List.set_cons_succ])
    refine relEnd ?_
    exact rfl
   case pk1=>
    intro x
    simp only [putsK,List.foldl_cons,List.foldl_nil,Act.put,List.setIfInBounds_toArray,List.set_cons_zero,List.set_cons_succ]
   case yl1=>
    intro x hx
    have e9:True:=trivial
    refine ⟨.int .i64 la,fun t ht=>?_,.inl ⟨by rfl,fun w=>?_⟩⟩
    ·cases ht
     rfl
    ·simp [execOp,Act.eval,e9,go_sem]
   intro w9 xs hB9 hf
   simp only [List.drop_succ_cons,List.drop_zero]
   have HB9:Hid (Below wr.heap.size wr w9):=bstep HB2.out hB9
   clear hf hB9 e0 e1 e2 s3 hz5
   go_wp2_with fail
   refine (cL.out w9 HB9.out).mono ?_
   rintro e w2 ⟨rfl,hP2,hR2⟩
   have HI2:Hid (PlanO B w2 w2 (w.heap.size+1) (F (k+1)).1 (F (k+1)).2.1∧Rn B w w2):=⟨hP2,(HI.out.2.trans (Rn.of HI.out.1.size HB9.out)).trans hR2⟩
   clear hP2 hR2 cL HI HB9 HB2
   go_wp2
   go_roundg (n2 - (k+1))
   case measure=>omega
   case rel=>exact ⟨k+1,by omega,rfl,by rw [HS1.out],rfl,by first|rfl|simp,HI2⟩
  ·obtain rfl:k=n2:=by omega
   have hl2:=HK.out.2.2.2.2.2.2.2.2.2
   obtain ⟨hb,hr,q,m,r,pR,nR,cR,xs,h1,h3,h4,h5,_⟩:=HI.out.1
   obtain ⟨⟨x0,_⟩,_⟩:=box_2 h1
   have HE:Hid ((F ls.length).1.length=m∧wr.ownsRow B 129 7 (.slice q m r) m xs∧StsC B wr (F ls.length).1 xs∧Rn B w wr):=by
    rw [hl2]
    exact ⟨h4,by rw [h4] at h3;exact h3,h5,HI.out.2⟩
   clear hb hr h1 h3 h4 h5 hl2
   go_wp2
   go_ret
   exact ⟨_,_,_,_,rfl,HE.out⟩
end Go.Proofs.YtjlofobnmjompaaGreatDoor.Wd
namespace Go.Proofs.YtjlofobnmjompaaGreatDoor.Wd
open Go.RowKit Fx
def spA (sts:List Sp) (i:Nat):Sp:=sts.getD i ⟨1,0,0,0,[],[],false⟩
/-- The first i steps: an error, the nodes, the last node, the parameters' nodes. -/
def pyF (f:Int) (sts:List Sp) (ns:List Nd):Nat→Int×List Nd×Int×List Int
 | 0=>(0,ns,0,[])
 | i+1=>if (pyF f sts ns i).1=0 then (stE f (pyF f sts ns i).2.1 (spA sts i),stN f (pyF f sts ns i).2.1 (spA sts i),stR f (pyF f sts ns i).2.1 (spA sts i),if (spA sts i).par=true then (pyF f sts ns i).2.2.2++[stR f (pyF f sts ns i).2.1 (spA sts i)] else (pyF f sts ns i).2.2.2) else pyF f sts ns i
theorem wpList_appA {P:Program} {t e:TypeId} {s b:Nat} (T:GT P t e s b) (hb:b≤256) (hs0:0 < s) {ops:Array Oper} {rest:List Oper} {o:Oper} {a:Act} {Q:Exit→Act→World→Prop} {w:World} (hgd:o.guard=none) (sx x:Operand)
  (ho:o.op = .call { callee:=.builtin .append,args:=#[sx,x],argTypes:=#[t,t] }) (B:Nat) (v:Value) (n:Nat) (xs:List Value) (hs:a.eval sx=v) (hown:w.ownsRow B e s v n xs) (g:Nat) (u:List Value) (hx:a.eval x = .slice (some ⟨g,0,none⟩) 1 1)
  (hg:w.heap[g]?=some (.cells u.toArray e (0,0))) (hu:u.length=s) (h1:∀ y∈u,y.oneCell'=true) (hn:n+1≤1073741825) (hB:B≤w.heap.size)
  (h:∀ v' w',Hid (w'.ownsRow B e s v' (n+1) (xs++u))→Hid (w.grownBy w' v.ownBlock)→Hid (v'.ownBlock=v.ownBlock∨v'.ownBlock=some w.heap.size)→wpList P ops Q rest (a.put o.dst v') w'):wpList P ops Q (o :: rest) a w:=by
 have hi:=T.hi
 cases hq:P.info? e with
 | none=>rw [hq] at hi;cases hi
 | some i=>
  rw [hq] at hi
  simp only [Option.map_some,Option.some.injEq,Prod.mk.injEq] at hi
  obtain ⟨hz,hsz,hby⟩:=hi
  cases hz0:i.zero with
  | none=>rw [hz0] at hz;cases hz
  | some z=>
   rw [hz0] at hz
   simp only [Option.map_some,Option.some.injEq] at hz
   have hm:(n+1)*b≤1073741825*256:=Nat.mul_le_mul hn hb
   exact wpList_append_own_at w hgd sx x t ho B e i z s b T.ht hq hz0 hsz hby hz hs0 v n xs hs hown ⟨g,0,none⟩ 1 1 u hx (by omega) (fun j y hj=>by
    rw [addr_plus,Nat.zero_add]
    unfold World.cell?
    simpa [hg] using hj) h1 (by unfold maxLen;omega) (by omega) hB (fun v' w' h2 h3 _ h5=>h v' w' h2 h3 h5)
theorem stpN {B n c:Nat} {W W':World} {p:Option Addr} {sts:List Sp} {xs:List Value} {Bs m:Nat} (ho:W'.ownsRow Bs 129 7 (.slice p m c) m xs) (hc:StsC B W sts xs) (hm:sts.length=m) (i:Nat) (hi:i < m):
  ∃ q s1 n1 c1 s2 n2 c2,p=some ⟨q,0,none⟩∧W'.cell? ⟨q,i*7,none⟩=some (.int .i64 (spA sts i).op)∧W'.cell? ⟨q,i*7+1,none⟩=some (.int .i64 (spA sts i).a)∧W'.cell? ⟨q,i*7+2,none⟩=some (.int .i64 (spA sts i).b)∧W'.cell? ⟨q,i*7+3,none⟩=some (.int .i64 (spA sts i).k)∧W'.cell? ⟨q,i*7+4,none⟩=some (.slice s1 n1 c1)∧W'.cell? ⟨q,i*7+5,none⟩=some (.slice s2 n2 c2)∧W'.cell? ⟨q,i*7+6,none⟩=some (.bool (spA sts i).par)∧Kept B W (.slice s1 n1 c1) (spA sts i).D∧Kept B W (.slice s2 n2 c2) (spA sts i).X:=by
 have hnd:sts[i]?=some (spA sts i):=by
  unfold spA
  rw [List.getD_eq_getElem?_getD,List.getElem?_eq_getElem (by omega)]
  rfl
 obtain ⟨s1,n1,c1,s2,n2,c2,e,h1,h2⟩:=hc.2 i _ hnd
 have hx:∀ j u,((xs.drop (i*7)).take 7)[j]?=some u→xs[i*7+j]?=some u:=fun j u h=>by
  rw [List.getElem?_take] at h
  split at h
  ·rw [List.getElem?_drop] at h
   exact h
  ·cases h
 rw [e] at hx
 rcases ho.2 with ⟨h0,h1⟩|⟨g,cap,cur,hv,hb,hg,rest⟩
 ·omega
 ·cases hv
  have hc:∀ j u,xs[j]?=some u→W'.cell? ⟨g,j,none⟩=some u:=fun j u h=>by
   have:=ho.cells (g:=g) rfl j u h
   rw [addr_plus,Nat.zero_add] at this
   exact this
  exact ⟨g,s1,n1,c1,s2,n2,c2,rfl,hc _ _ (hx 0 _ rfl),hc _ _ (hx 1 _ rfl),hc _ _ (hx 2 _ rfl),hc _ _ (hx 3 _ rfl),hc _ _ (hx 4 _ rfl),hc _ _ (hx 5 _ rfl),hc _ _ (hx 6 _ rfl),h1,h2⟩
theorem pyF_stop (f:Int) (sts:List Sp) (ns:List Nd) (i:Nat) (h:(pyF f sts ns i).1≠0):∀ k,pyF f sts ns (i+k)=pyF f sts ns i
 | 0=>rfl
 | k+1=>by
  have e:=pyF_stop f sts ns i h k
  show (if (pyF f sts ns (i+k)).1=0 then _ else pyF f sts ns (i+k))=_
  rw [e,if_neg h]
theorem pyF_par (f:Int) (sts:List Sp) (ns:List Nd):∀ i,(pyF f sts ns i).2.2.2.length≤i
 | 0=>by simp [pyF]
 | i+1=>by
  have:=pyF_par f sts ns i
  unfold pyF
  split
  ·dsimp only
   split
   ·rw [List.length_append];simp;omega
   ·omega
  ·omega
theorem NodesG.st {f:Int} {ns:List Nd} {st:Sp} (h:NodesG ns) (hx:RI st.X):NodesG (stN f ns st):=by
 unfold stN
 split
 ·exact h.leaf hx
 ·exact h.do
/-- The parameters' row, and that no node lies there. -/
structure PrO (w:World) (B tb:Nat) (ps:List Int) (v:Value) (W:World):Prop where
 own:OwnK .i64 3 W w.heap.size v ps
 off:∀ x,v.ownBlock=some x→AvT x W tb
theorem PrO.nil (w:World) (B tb:Nat) (W:World):PrO w B tb [] (.slice none 0 0) W:=⟨OwnK.nil _ _ _ _,fun x h=>by cases h⟩
theorem PrO.lt {w:World} {B tb:Nat} {ps:List Int} {v:Value} {W:World} (h:PrO w B tb ps v W):∀ x,v.ownBlock=some x→w.heap.size≤x∧x < W.heap.size:=fun x hx=>World.ownsRow.lt h.own x hx
theorem PrO.tape {w:World} {B tb:Nat} {ps:List Int} {v:Value} {W W':World} (h:PrO w B tb ps v W) (ho:Only SC W W') (hs:Spar2 tb W W'):PrO w B tb ps v W':=⟨h.own.only ho (by decide),fun x hx=>hs.2 x (h.lt x hx).2 (h.off x hx)⟩
theorem PrO.up {w:World} {B tb:Nat} {ps:List Int} {v:Value} {W W':World} (h:PrO w B tb ps v W) (hB:Below W.heap.size W W'):PrO w B tb ps v W':=⟨h.own.up hB,fun x hx=>(h.off x hx).up hB⟩
theorem grown_none {a b:World} (h:a.grownBy b none):Below a.heap.size a b:=⟨h.os,h.tape,h.output,h.size,fun k hk=>h.block k hk (fun e=>by cases e)⟩
theorem PrO.grow {w:World} {B tb:Nat} {ps:List Int} {ns:List Nd} {v v':Value} {x:Int} {W W':World} (h:PrO w B tb ps v W) (hT:TapC W B tb ns) (ho:W'.ownsRow w.heap.size 3 1 v' (ps.length+1) (vals .i64 ps++[.int .i64 x])) (hg:W.grownBy W' v.ownBlock) (hat:v'.ownBlock=v.ownBlock∨v'.ownBlock=some W.heap.size):PrO w B tb (ps++[x]) v' W'∧TapC W' B tb ns∧(∀ w0,Below B w0 W→Only SC w0 W→w0.heap.size≤w.heap.size→B≤w.heap.size→Below B w0 W'∧Only SC w0 W'):=by
 have hown:OwnK .i64 3 W' w.heap.size v' (ps++[x]):=by
  unfold OwnK
  rw [List.length_append]
  unfold vals at *
  rw [List.map_append]
  exact ho
 have hlow:∀ w0,Below B w0 W→Only SC w0 W→w0.heap.size≤w.heap.size→B≤w.heap.size→Below B w0 W'∧Only SC w0 W':=fun w0 hB0 hO0 hz hBz=>by
  refine ⟨Below.grown hB0 hg ?_ fun k hk=>Nat.le_trans hBz (h.lt k hk).1,Nat.le_trans hO0.1 hg.size,fun k hk hp=>?_⟩
  ·obtain ⟨hb,_,_,hv,_⟩:=hT
   exact Nat.le_trans hb (Nat.le_of_lt (heap_lt hv))
  ·rw [hg.block k (Nat.lt_of_lt_of_le hk hO0.1) (fun e=>by have:=(h.lt k e.symm).1;omega)]
   exact hO0.2 k hk hp
 cases hb:v.ownBlock with
 | none=>
  rw [hb] at hg hat
  have hB:=grown_none hg
  refine ⟨⟨hown,fun y hy=>?_⟩,hT.up hB,hlow⟩
  rcases hat with h1|h1
  ·rw [h1] at hy;cases hy
  ·rw [h1] at hy
   cases hy
   exact (hT.av (Nat.le_refl _)).up hB
 | some r=>
  rw [hb] at hg hat
  obtain ⟨cs,fz,hr⟩:∃ cs fz,W.heap[r]?=some (.cells cs 3 fz):=by
   rcases h.own.2 with ⟨rfl,_⟩|⟨g,cap,cur,rfl,_,hc,_⟩
   ·cases hb
   ·cases hb
    exact ⟨_,_,hc⟩
  refine ⟨⟨hown,fun y hy=>?_⟩,hT.beside hg hr (h.off r hb),hlow⟩
  rcases hat with h1|h1
  ·rw [h1] at hy
   cases hy
   exact (h.off r hb).beside hT hg hr
  ·rw [h1] at hy
   cases hy
   exact (hT.av (Nat.le_refl _)).beside hT hg hr
theorem play_any (B tb:Nat) (ns:List Nd) (hG:NodesG ns) (sts:List Sp) (hok:∀ i,i < sts.length→SpOk (spA sts i)∧((spA sts i).op≠1→RkC (spA sts i).op)) (hfew:sts.length≤200) (hns:ns.length≤512) (q:Option Addr) (m r Bs:Nat) (xs:List Value) (hm:sts.length=m) (w:World) (hT:TapC w B tb ns) (hTz:Hid (∀ W,Below B w W→Tz W)) (ho:w.ownsRow Bs 129 7 (.slice q m r) m xs) (hc:StsC B w sts xs):
  Calls Tryz.prog 41 #[.pointer (some ⟨tb,0,none⟩),.slice q m r] w fun e w'=>∃ v,e = .returned (.tuple #[.int .i64 (if (pyF ns.length sts ns m).1=0 then (pyF ns.length sts ns m).2.2.1 else 0),v,.int .i64 (pyF ns.length sts ns m).1])∧OwnK .i64 3 w' w.heap.size v (if (pyF ns.length sts ns m).1=0 then (pyF ns.length sts ns m).2.2.2 else [])∧TapC w' B tb (pyF ns.length sts ns m).2.1∧Below B w w'∧Only SC w w':=by
 haveI:Nonempty World:=⟨w⟩
 have cln:=clen_any B tb ns w hT
 have hBz:B≤w.heap.size:=by
  obtain ⟨hb,_,_,hv,_⟩:=hT
  exact Nat.le_trans hb (Nat.le_of_lt (heap_lt hv))
 obtain ⟨f,ef⟩:∃ f:Int,(ns.length:Int)=f:=⟨_,rfl⟩
 have hf:0≤f∧f≤1000:=by omega
 rw [ef] at cln ⊢
 have hstop:=pyF_stop f sts ns
 have hpar:=pyF_par f sts ns
 obtain ⟨F,eF⟩:∃ F,pyF f sts ns=F:=⟨_,rfl⟩
 have h0:F 0=(0,ns,0,[]):=by rw [← eF];rfl
 have hs:∀ i,(F i).1=0→F (i+1)=(stE f (F i).2.1 (spA sts i),stN f (F i).2.1 (spA sts i),stR f (F i).2.1 (spA sts i),if (spA sts i).par=true then (F i).2.2.2++[stR f (F i).2.1 (spA sts i)] else (F i).2.2.2):=fun i h=>by
  rw [← eF] at h ⊢
  conv=>lhs;unfold pyF
  rw [if_pos h]
 rw [eF] at hstop hpar ⊢
 have HF:Hid (F 0=(0,ns,0,[])∧(∀ i,(F i).1=0→F (i+1)=(stE f (F i).2.1 (spA sts i),stN f (F i).2.1 (spA sts i),stR f (F i).2.1 (spA sts i),if (spA sts i).par=true then (F i).2.2.2++[stR f (F i).2.1 (spA sts i)] else (F i).2.2.2))∧(∀ i,(F i).1≠0→∀ k,F (i+k)=F i)∧(∀ i,(F i).2.2.2.length≤i)):=⟨h0,hs,hstop,hpar⟩
 have HK:Hid (B≤w.heap.size∧w.ownsRow Bs 129 7 (.slice q m r) m xs∧StsC B w sts xs∧sts.length=m∧(∀ i,i < m→SpOk (spA sts i)∧((spA sts i).op≠1→RkC (spA sts i).op))):=⟨hBz,ho,hc,hm,by rw [← hm];exact hok⟩
 have HT:Hid (TapC w B tb ns∧NodesG ns):=⟨hT,hG⟩
 have hm2:m≤200:=by omega
 obtain ⟨LR,eLR⟩:∃ z,(if (F m).1=0 then (F m).2.2.1 else 0)=z:=⟨_,rfl⟩
 obtain ⟨PR,ePR⟩:∃ z,(if (F m).1=0 then (F m).2.2.2 else [])=z:=⟨_,rfl⟩
 rw [eLR,ePR]
 have HRR:Hid ((if (F m).1=0 then (F m).2.2.1 else 0)=LR∧(if (F m).1=0 then (F m).2.2.2 else [])=PR):=⟨eLR,ePR⟩
 clear eLR ePR h0 hs hstop hpar eF ho hc hm hok hT hG hfew hns hBz ef
 go_enter Tryz.func41,Tryz.ntmps41
 go_wp2_with fail
 refine cln.mono ?_
 rintro e w1 ⟨rfl,rfl⟩
 clear cln
 go_wp2_with fail
 go_loopg [8,9,18] m (fun gg u v i wr=>∃ (k:Nat),k≤m∧gg=m - k∧u = .int .i64 (F k).2.2.1∧i = .int .i64 (k:Int)∧Hid ((F k).1=0∧TapC wr B tb (F k).2.1∧NodesG (F k).2.1∧PrO w1 B tb (F k).2.2.2 v wr∧Below B w1 wr∧Only SC w1 wr))
 case atStart=>
  refine ⟨0,by omega,by omega,by rw [HF.out.1],rfl,?_⟩
  show _∧_
  rw [HF.out.1]
  exact ⟨rfl,HT.out.1,HT.out.2,PrO.nil _ _ _ _,Below.refl _ _,Only.refl _ _⟩
 case round=>
  obtain ⟨k,hk,hg,rfl,rfl,HI⟩:=hrel
  by_cases hkm:k < m
  ·have hk':(k:Int) < (m:Int):=by omega
   obtain ⟨hok,hrk⟩:=HK.out.2.2.2.2 k hkm
   have hstep:=HF.out.2.1 k HI.out.1
   obtain ⟨g,s1,n1,c1,s2,n2,c2,rfl,y0,y1,y2,y3,y4,y5,y6,k1,k2⟩:=stpN (n:=0) (owns_only HK.out.2.1 HI.out.2.2.2.2.2 (by decide)) HK.out.2.2.1 HK.out.2.2.2.1 k hkm
   obtain ⟨st,est⟩:∃ st,spA sts k=st:=⟨_,rfl⟩
   rw [est] at y0 y1 y2 y3 y6 k1 k2 hstep hok hrk
   have hRn:R4 B w1 wr:=⟨HI.out.2.2.2.2.1,HI.out.2.2.2.2.2.more (by simp)⟩
   have cL:Hid (∀ W,Below wr.heap.size wr W→Calls Tryz.prog 61 #[.pointer (some ⟨tb,0,none⟩),.agg #[.int .i64 st.op,.int .i64 st.a,.int .i64 st.b,.int .i64 st.k,.slice s1 n1 c1,.slice s2 n2 c2,.bool st.par],.int .i64 f] W fun e w'=>e = .returned (.tuple #[.int .i64 (stR f (F k).2.1 st),.int .i64 (stE f (F k).2.1 st)])∧TapC w' B tb (stN f (F k).2.1 st)∧Below B W w'∧Only SC W w'∧Spar2 tb W w'):=fun W hW=>by
    have hR:R4 B w1 W:=hRn.trans (R4.of (Nat.le_trans HK.out.1 hRn.size) hW)
    exact lay_any B tb (F k).2.1 HI.out.2.2.1 st hok hrk f hf s1 n1 c1 s2 n2 c2 W (HI.out.2.1.up hW) (hTz.out W hR.bel) (k1 W hR) (k2 W hR)
   have HG2:Hid (NodesG (stN f (F k).2.1 st)):=HI.out.2.2.1.st hok.rX
   obtain ⟨E,eE⟩:∃ E,stE f (F k).2.1 st=E:=⟨_,rfl⟩
   obtain ⟨R,eR⟩:∃ E,stR f (F k).2.1 st=E:=⟨_,rfl⟩
   obtain ⟨NS,eN⟩:∃ E,stN f (F k).2.1 st=E:=⟨_,rfl⟩
   rw [eE,eR,eN] at cL hstep
   rw [eN] at HG2
   have HST:Hid (F (k+1)=(E,NS,R,if st.par=true then (F k).2.2.2++[R] else (F k).2.2.2)):=hstep
   obtain ⟨op,a,b,kk,D,X,par⟩:=st
   simp only [] at y0 y1 y2 y3 y6 cL
   have hlt:=cell_size y0
   clear hok hrk hstep k1 k2 est hRn eE eR eN hf
   go_wp2_with fail
   generalize hW2:World.alloc _ _=W2
   have HB2:Hid (Below wr.heap.size wr W2):=by rw [← hW2];exact up_alloc wr _
   have e6:W2.cell? ⟨wr.heap.size,6,none⟩=some (.bool par):=by rw [← hW2];simp [go_sem]
   have HX2:Hid (∃ cs,W2.heap[wr.heap.size]?=some (.cells cs 129 (0,0))∧cs[6]?=some (.bool par)):=⟨_,by rw [← hW2];exact Array.getElem?_push_size,rfl⟩
   clear hW2 y0 y1 y2 y3 y4 y5 y6 hlt
   refine (cL.out W2 HB2.out).mono ?_
   rintro e w3 ⟨rfl,hT3,hB3,hO3,hS3⟩
   have e63:w3.cell? ⟨wr.heap.size,6,none⟩=some (.bool par):=by
    obtain ⟨cs,h1,h2⟩:=HX2.out
    have:=hO3.keep h1 (by decide)
    unfold World.cell?
    simp [this,h2]
   have HI3:Hid (TapC w3 B tb NS∧PrO w1 B tb (F k).2.2.2 u9 w3∧Below B w1 w3∧Only SC w1 w3):=⟨hT3,(HI.out.2.2.2.1.up HB2.out).tape hO3 hS3,HI.out.2.2.2.2.1.trans ((HB2.out.mono (Nat.le_trans HK.out.1 HI.out.2.2.2.2.2.1)).trans hB3),HI.out.2.2.2.2.2.trans ((Only.of HB2.out).trans hO3)⟩
   clear hT3 hB3 hO3 hS3 e6 HX2 cL
   by_cases hE:E=0
   case neg=>
    have hE':(E != 0)=true:=by simpa using hE
    have HE:Hid (F m=(E,NS,R,if par=true then (F k).2.2.2++[R] else (F k).2.2.2)):=by
     have h4:=HF.out.2.2.1 (k+1) (by rw [HST.out];exact hE) (m - (k+1))
     rw [show k+1+(m - (k+1))=m by omega] at h4
     show _=_
     rw [h4,HST.out]
    have HRS:Hid (∃ v,Ending.returned (.tuple #[.int .i64 0,.slice none 0 0,.int .i64 E]) = .returned (.tuple #[.int .i64 LR,v,.int .i64 (F m).1])∧OwnK .i64 3 w3 w1.heap.size v PR∧TapC w3 B tb (F m).2.1∧Below B w1 w3∧Only SC w1 w3):=by
     show ∃ _,_
     have e1:(F m).1=E:=by rw [HE.out]
     have e2:=HRR.out
     rw [if_neg (by rw [e1];exact hE),if_neg (by rw [e1];exact hE)] at e2
     rw [← e2.1,← e2.2,e1]
     refine ⟨_,rfl,OwnK.nil _ _ _ _,?_,HI3.out.2.2⟩
     rw [HE.out]
     exact HI3.out.1
    clear HE HI3 HST HI
    go_wp2
    exact bodyPost_ret (v:=.tuple #[.int .i64 0,.slice none 0 0,.int .i64 E]) (by simp [results,Tryz.results41,go_sem]) rfl HRS.out
   subst hE
   cases par with
   | false=>
    have HN:Hid ((F (k+1)).1=0∧TapC w3 B tb (F (k+1)).2.1∧NodesG (F (k+1)).2.1∧PrO w1 B tb (F (k+1)).2.2.2 u9 w3∧Below B w1 w3∧Only SC w1 w3):=by
     show _∧_
     rw [HST.out]
     exact ⟨rfl,HI3.out.1,HG2.out,HI3.out.2.1,HI3.out.2.2⟩
    have HL:Hid ((F (k+1)).2.2.1=R):=by show _=_;rw [HST.out]
    clear HI3 HI HST
    go_wp2
    go_roundg (m - (k+1))
    case measure=>omega
    case rel=>exact ⟨k+1,by omega,rfl,by rw [HL.out],by first|rfl|simp,HN⟩
   | true=>
    obtain ⟨pv,nv,cv,rfl,HCv⟩:=HI3.out.2.1.own.nums.lst
    have hnv:=HCv.out.1
    have hpl:=HF.out.2.2.2 k
    have HLN:Hid ((F k).2.2.2.length=nv):=hnv
    clear HCv
    have hbl:Below w3.heap.size w3 (w3.alloc (.cells #[.int .i64 R] 3)):=up_alloc w3 _
    have HP5:Hid (PrO w1 B tb (F k).2.2.2 (.slice pv nv cv) (w3.alloc (.cells #[.int .i64 R] 3))∧TapC (w3.alloc (.cells #[.int .i64 R] 3)) B tb NS):=⟨HI3.out.2.1.up hbl,HI3.out.1.up hbl⟩
    have A1:Hid ((w3.alloc (.cells #[.int .i64 R] 3)).ownsRow w1.heap.size 3 1 (.slice pv nv cv) nv (vals .i64 (F k).2.2.2)):=by
     have:=HP5.out.1.own
     unfold OwnK at this
     rw [hnv] at this
     exact this
    have A2:Hid ((w3.alloc (.cells #[.int .i64 R] 3)).heap[w3.heap.size]?=some (.cells [Value.int .i64 R].toArray 3 (0,0))):=Array.getElem?_push_size
    have A3:Hid (∀ y∈[Value.int .i64 R],y.oneCell'=true):=fun y hy=>by simp at hy;subst hy;rfl
    have A4:Hid (w1.heap.size≤(w3.alloc (.cells #[.int .i64 R] 3)).heap.size):=Nat.le_trans HI3.out.2.2.2.1 hbl.size
    have A5:Hid (Below B w1 (w3.alloc (.cells #[.int .i64 R] 3))∧Only SC w1 (w3.alloc (.cells #[.int .i64 R] 3))):=⟨HI3.out.2.2.1.trans (hbl.mono (Nat.le_trans HK.out.1 HI3.out.2.2.2.1)),HI3.out.2.2.2.trans (Only.of hbl)⟩
    have hnv2:nv+1≤1073741825:=by omega
    clear hbl HI3 hnv
    go_wp2_with (at_builtin;refine wpList_appA intT1 (by decide) (by decide) rfl (.tmp 34) (.tmp 36) rfl w1.heap.size _ _ _ rfl A1.out _ [.int .i64 R] rfl A2.out rfl A3.out hnv2 A4.out ?_;intro v0 w0 H0 O0 B0)
    have HN:Hid ((F (k+1)).1=0∧TapC w0 B tb (F (k+1)).2.1∧NodesG (F (k+1)).2.1∧PrO w1 B tb (F (k+1)).2.2.2 v0 w0∧Below B w1 w0∧Only SC w1 w0):=by
     show _∧_
     rw [HST.out]
     obtain ⟨g1,g2,g3⟩:=HP5.out.1.grow (x:=R) HP5.out.2 (by rw [HLN.out];exact H0.out) O0.out B0.out
     exact ⟨rfl,g2,HG2.out,g1,g3 w1 A5.out.1 A5.out.2 (Nat.le_refl _) HK.out.1⟩
    have HL:Hid ((F (k+1)).2.2.1=R):=by show _=_;rw [HST.out]
    clear A1 A2 A3 A4 A5 H0 O0 B0 HP5 HST HI
    go_wp2
    go_roundg (m - (k+1))
    case measure=>omega
    case rel=>exact ⟨k+1,by omega,rfl,by rw [HL.out],by first|rfl|simp,HN⟩
  ·obtain rfl:k=m:=by omega
   have HRS:Hid (∃ v,Ending.returned (.tuple #[.int .i64 (F k).2.2.1,u9,.int .i64 0]) = .returned (.tuple #[.int .i64 LR,v,.int .i64 (F k).1])∧OwnK .i64 3 wr w1.heap.size v PR∧TapC wr B tb (F k).2.1∧Below B w1 wr∧Only SC w1 wr):=by
    show ∃ _,_
    have e2:=HRR.out
    rw [if_pos HI.out.1,if_pos HI.out.1] at e2
    rw [← e2.1,← e2.2,HI.out.1]
    exact ⟨_,rfl,HI.out.2.2.2.1.own,HI.out.2.1,HI.out.2.2.2.2⟩
   go_wp2
   exact bodyPost_ret (v:=.tuple #[.int .i64 (F k).2.2.1,u9,.int .i64 0]) (by simp [results,Tryz.results41,go_sem]) rfl HRS.out
end Go.Proofs.YtjlofobnmjompaaGreatDoor.Wd
