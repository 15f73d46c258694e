/- The law's alike: are two nets? · The cod -/
import Derived.Test.YtihjnbbhpojnpaaGreatDoorQ17
import Derived.Laws.StructEq
set_option linter.unusedVariables false
set_option linter.unusedSimpArgs false
set_option maxHeartbeats 16000000
set_option maxRecDepth 16000
namespace Go.Proofs.YtihjnbbhpojnpaaGreatDoor.Wd
open Go.RowKit
theorem lay_eq (s t:ByteArray) (a b c d:Int) (W:World):Sem.run Tryz.prog (Op.equalIn 10000 61 (.agg #[.string s,.int .i64 a,.int .i64 b]) (.agg #[.string t,.int .i64 c,.int .i64 d])) W = .ok (decide ((s,a,b)=(t,c,d))) W:=by
 have u1:=Tryz.underlying3
 have u2:=Tryz.underlying9
 have a1:=Tryz.isAgg3
 have a2:=Tryz.isAgg9
 rw [show (10000:Nat)=9999+1 from rfl,run_equalIn_struct _ _ _ _ _ (by kernel_rfl) (by kernel_rfl)]
 have hs:(s.toList==t.toList)=decide (s=t):=by
  by_cases h:s=t
  ·subst h;simp
  ·rw [str_ne h,decide_eq_false h]
 go_simp
 by_cases h1:s=t <;> by_cases h2:a=c <;> by_cases h3:b=d <;> simp [h1,h2,h3]
theorem ly_ext {l1 l2:List Ly} (h:l1.length=l2.length) (h2:∀ i,i < l1.length→lyA l1 i=lyA l2 i):l1=l2:=by
 refine List.ext_getElem h fun i hi hj=>?_
 have:=h2 i hi
 unfold lyA at this
 rw [List.getD_eq_getElem?_getD,List.getElem?_eq_getElem hi,List.getD_eq_getElem?_getD,List.getElem?_eq_getElem hj] at this
 exact this
theorem alike_any (p1 p2 q1 q2:Option Addr) (n1 c1 n2 c2 m1 e1 m2 e2:Nat) (d1 d2:List Int) (l1 l2:List Ly) (hd:d1.length≤9223372036854775807) (hm:m1≤1073741824) (w:World) (h1:Nums .i64 w (.slice p1 n1 c1) d1) (h2:Nums .i64 w (.slice p2 n2 c2) d2) (k1:LyR 0 w q1 m1 l1) (k2:LyR 0 w q2 m2 l2):
  Calls Tryz.prog 7 #[.agg #[.slice p1 n1 c1,.slice q1 m1 e1],.agg #[.slice p2 n2 c2,.slice q2 m2 e2]] w fun e w'=>e = .returned (.bool (decide (d1=d2∧l1=l2)))∧Below w.heap.size w w':=by
 haveI:Nonempty World:=⟨w⟩
 have HK:Hid (LyR 0 w q1 m1 l1∧LyR 0 w q2 m2 l2):=⟨k1,k2⟩
 obtain ⟨r,er⟩:∃ r:Bool,decide (d1=d2∧l1=l2)=r:=⟨_,rfl⟩
 have HR:Hid (decide (d1=d2∧l1=l2)=r):=er
 rw [er]
 have HD:Hid (d1.length≤9223372036854775807∧Nums .i64 w (.slice p1 n1 c1) d1∧Nums .i64 w (.slice p2 n2 c2) d2):=⟨hd,h1,h2⟩
 clear er k1 k2 h1 h2 hd
 go_enter Tryz.func7,Tryz.ntmps7
 go_wp2_with fail
 generalize hW0:World.alloc _ _=W0
 have HB0:Hid (Below w.heap.size w W0):=by rw [← hW0];exact blit (up_alloc w _) _
 obtain ⟨x0,x1,y0,y1⟩:W0.cell? ⟨w.heap.size,0,none⟩=some (.slice p1 n1 c1)∧W0.cell? ⟨w.heap.size,1,none⟩=some (.slice q1 m1 e1)∧W0.cell? ⟨w.heap.size+1,0,none⟩=some (.slice p2 n2 c2)∧W0.cell? ⟨w.heap.size+1,1,none⟩=some (.slice q2 m2 e2):=by rw [← hW0];simp [go_sem]
 clear hW0
 have kx:=cell_size x0
 have ky:=cell_size y0
 have cS:=rsame_any (.slice p1 n1 c1) (.slice p2 n2 c2) d1 d2 HD.out.1 W0 (HD.out.2.1.up HB0.out) (HD.out.2.2.up HB0.out)
 obtain ⟨qs,eqs⟩:∃ q:Bool,decide (d1=d2)=q:=⟨_,rfl⟩
 rw [eqs] at cS
 have HQ:Hid (decide (d1=d2)=qs):=eqs
 clear eqs
 refine cS.mono ?_
 rintro e w1 ⟨rfl,dr,e1'⟩
 have hB1:Below W0.heap.size W0 w1:=by rw [e1'];exact below_drew (Below.refl _ _) dr
 have HB1:Hid (Below w.heap.size w w1):=bstep HB0.out hB1
 replace x0:=still_cell hB1 x0
 replace x1:=still_cell hB1 x1
 replace y0:=still_cell hB1 y0
 replace y1:=still_cell hB1 y1
 replace kx:=cell_size x0
 replace ky:=cell_size y0
 clear e1' hB1 cS
 cases qs with
 | false=>
  have er:r=false:=by rw [← HR.out,decide_eq_false fun h=>of_decide_eq_false HQ.out h.1]
  subst er
  go_wp2
  go_ret
  exact ⟨rfl,HB1.out⟩
 | true=>
  by_cases hmm:m1=m2
  case neg=>
   have er:r=false:=by rw [← HR.out,decide_eq_false fun h=>hmm (by rw [← HK.out.1.1,← HK.out.2.1,h.2])]
   subst er
   have hm':((m1:Int) != (m2:Int))=true:=by simpa using (show (m1:Int)≠(m2:Int) by omega)
   have hm2:¬ ((m1:Int)=(m2:Int)):=by omega
   go_wp2
   go_ret
   exact ⟨rfl,HB1.out⟩
  subst hmm
  go_wp2_with fail
  have HX:Hid (w1.cell? ⟨w.heap.size,1,none⟩=some (.slice q1 m1 e1)∧w1.cell? ⟨w.heap.size+1,1,none⟩=some (.slice q2 m1 e2)):=⟨x1,y1⟩
  clear x0 x1 y0 y1 kx ky
  go_loopg [5] m1 (fun gg v wr=>∃ (k:Nat),k≤m1∧gg=m1 - k∧v = .int .i64 (k:Int)∧Hid (∀ i,i < k→lyA l1 i=lyA l2 i)∧Hid (Below w1.heap.size w1 wr))
  case atStart=>exact ⟨0,by omega,by omega,rfl,fun i hi=>by omega,Below.refl _ _⟩
  case round=>
   obtain ⟨k,hk,hg,rfl,Hx,HB⟩:=hrel
   have x1:=still_cell HB.out HX.out.1
   have y1:=still_cell HB.out HX.out.2
   have kx:=cell_size x1
   have ky:=cell_size y1
   by_cases hkn:k < m1
   ·have hk':(k:Int) < (m1:Int):=by omega
    obtain ⟨qa,oa,rfl,a0,a1,a2⟩:=(HK.out.1.up (bstep HB1.out HB.out)).2 k hkn
    obtain ⟨qb,ob,rfl,b0,b1,b2⟩:=(HK.out.2.up (bstep HB1.out HB.out)).2 k hkn
    obtain ⟨u,eu⟩:∃ l,lyA l1 k=l:=⟨_,rfl⟩
    obtain ⟨v,ev⟩:∃ l,lyA l2 k=l:=⟨_,rfl⟩
    obtain ⟨s1,a,b⟩:=u
    obtain ⟨s2,c,d⟩:=v
    rw [eu] at a0 a1 a2
    rw [ev] at b0 b1 b2
    have ka:=cell_size a0
    have kb:=cell_size b0
    have hq:=fun W=>lay_eq s1 s2 a b c d W
    by_cases he:(s1,a,b)=(s2,c,d)
    ·simp only [decide_eq_true he] at hq
     have HN:Hid (∀ i,i < k+1→lyA l1 i=lyA l2 i):=fun i hi=>by
      rcases Nat.lt_succ_iff_lt_or_eq.1 hi with h2|rfl
      ·exact Hx.out i h2
      ·rw [eu,ev];exact he
     clear he eu ev
     go_wp2
     go_region
     go_wp2
     go_roundg (m1 - (k+1))
     case measure=>omega
     case rel=>exact ⟨k+1,by omega,rfl,by first|rfl|simp,HN,HB.out.trans ⟨rfl,rfl,rfl,Nat.le_refl _,fun _ _=>rfl⟩⟩
    ·simp only [decide_eq_false he] at hq
     have er:r=false:=by rw [← HR.out,decide_eq_false fun h=>he (by rw [← eu,← ev,h.2])]
     subst er
     clear he eu ev
     go_wp2
     go_region
     go_wp2
     go_ret
     exact ⟨rfl,bstep HB1.out (HB.out.trans ⟨rfl,rfl,rfl,Nat.le_refl _,fun _ _=>rfl⟩)⟩
   ·obtain rfl:k=m1:=by omega
    have er:r=true:=by
     rw [← HR.out,decide_eq_true ⟨of_decide_eq_true HQ.out,ly_ext (by rw [HK.out.1.1,HK.out.2.1]) fun i hi=>Hx.out i (by rw [← HK.out.1.1];exact hi)⟩]
    subst er
    go_wp2
    go_ret
    exact ⟨rfl,bstep HB1.out HB.out⟩
/-- What a run may change: nothing below B, and of the rest only blocks of a tape and of a plan. -/
abbrev S4:List TypeId:=[70,77,104,101]
abbrev S2:List TypeId:=[104,101]
structure Rn (B:Nat) (W W':World):Prop where
 bel:Below B W W'
 onl:Only S2 W W'
theorem Rn.refl (B:Nat) (W:World):Rn B W W:=⟨Below.refl _ _,Only.refl _ _⟩
theorem Rn.trans {B:Nat} {a b c:World} (h:Rn B a b) (h2:Rn B b c):Rn B a c:=⟨h.bel.trans h2.bel,h.onl.trans h2.onl⟩
theorem Rn.of {B:Nat} {a b:World} (hB:B≤a.heap.size) (h:Below a.heap.size a b):Rn B a b:=⟨h.mono hB,Only.of h⟩
theorem Rn.size {B:Nat} {a b:World} (h:Rn B a b):a.heap.size≤b.heap.size:=h.onl.1
structure R4 (B:Nat) (W W':World):Prop where
 bel:Below B W W'
 onl:Only S4 W W'
theorem R4.refl (B:Nat) (W:World):R4 B W W:=⟨Below.refl _ _,Only.refl _ _⟩
theorem R4.trans {B:Nat} {a b c:World} (h:R4 B a b) (h2:R4 B b c):R4 B a c:=⟨h.bel.trans h2.bel,h.onl.trans h2.onl⟩
theorem R4.of {B:Nat} {a b:World} (hB:B≤a.heap.size) (h:Below a.heap.size a b):R4 B a b:=⟨h.mono hB,Only.of h⟩
theorem R4.size {B:Nat} {a b:World} (h:R4 B a b):a.heap.size≤b.heap.size:=h.onl.1
theorem Rn.r4 {B:Nat} {a b:World} (h:Rn B a b):R4 B a b:=⟨h.bel,h.onl.more (by simp)⟩
/-- Numbers that a run leaves as they are. -/
def Kept (B:Nat) (W:World) (v:Value) (l:List Int):Prop:=∀ W',R4 B W W'→Nums .i64 W' v l
theorem Kept.up {B:Nat} {W W':World} {v:Value} {l:List Int} (h:Kept B W v l) (hR:Rn B W W'):Kept B W' v l:=fun W2 h2=>h W2 (hR.r4.trans h2)
theorem Kept.nums {B:Nat} {W:World} {v:Value} {l:List Int} (h:Kept B W v l):Nums .i64 W v l:=h W (R4.refl _ _)
theorem OwnK.kept {e:TypeId} {B B':Nat} {W:World} {v:Value} {l:List Int} (h:OwnK .i64 e W B' v l) (he:e∉S4):Kept B W v l:=fun W' hR=>(h.only hR.onl he).nums
theorem Kept.below {B:Nat} {w W:World} {v:Value} {l:List Int} (h:Nums .i64 w v l) (hB:w.heap.size≤B) (hW:Below B w W):Kept B W v l:=fun W' hR=>h.up ((hW.trans hR.bel).mono hB)
/-- A step of a plan. -/
structure Sp where
 op:Int
 a:Int
 b:Int
 k:Int
 D:List Int
 X:List Int
 par:Bool
def StC (B:Nat) (W:World) (st:Sp) (u:List Value):Prop:=∃ p n c p2 n2 c2,u = [.int .i64 st.op,.int .i64 st.a,.int .i64 st.b,.int .i64 st.k,.slice p n c,.slice p2 n2 c2,.bool st.par]∧Kept B W (.slice p n c) st.D∧Kept B W (.slice p2 n2 c2) st.X
def StsC (B:Nat) (W:World) (sts:List Sp) (xs:List Value):Prop:=xs.length=sts.length*7∧∀ i st,sts[i]?=some st→StC B W st ((xs.drop (i*7)).take 7)
theorem StC.up {B:Nat} {W W':World} {st:Sp} {u:List Value} (h:StC B W st u) (hR:Rn B W W'):StC B W' st u:=by
 obtain ⟨p,n,c,p2,n2,c2,e,h1,h2⟩:=h
 exact ⟨p,n,c,p2,n2,c2,e,h1.up hR,h2.up hR⟩
theorem StsC.up {B:Nat} {W W':World} {sts:List Sp} {xs:List Value} (h:StsC B W sts xs) (hR:Rn B W W'):StsC B W' sts xs:=⟨h.1,fun i st hi=>(h.2 i st hi).up hR⟩
theorem StC.len {B:Nat} {W:World} {st:Sp} {u:List Value} (h:StC B W st u):u.length=7:=by
 obtain ⟨p,n,c,p2,n2,c2,rfl,_⟩:=h
 rfl
theorem StC.one {B:Nat} {W:World} {st:Sp} {u:List Value} (h:StC B W st u):∀ x∈u,x.oneCell'=true:=by
 obtain ⟨p,n,c,p2,n2,c2,rfl,_⟩:=h
 intro x hx
 simp at hx
 rcases hx with rfl|rfl|rfl|rfl|rfl|rfl|rfl <;> rfl
theorem StsC.push {B:Nat} {W:World} {sts:List Sp} {xs:List Value} {st:Sp} {u:List Value} (h:StsC B W sts xs) (hu:StC B W st u):StsC B W (sts++[st]) (xs++u):=by
 refine ⟨by rw [List.length_append,List.length_append,h.1,hu.len];simp;omega,fun i s hi=>?_⟩
 rcases Nat.lt_or_ge i sts.length with h1|h1
 ·rw [List.getElem?_append_left h1] at hi
  have h2:=h.2 i s hi
  have h3:=h.1
  rw [List.drop_append_of_le_length (by omega),List.take_append_of_le_length (by rw [List.length_drop];omega)]
  exact h2
 ·have hi':i=sts.length:=by
   have:=(List.getElem?_eq_some_iff.1 hi).1
   simp at this
   omega
  subst hi'
  rw [List.getElem?_append_right (Nat.le_refl _)] at hi
  simp at hi
  subst hi
  rw [← h.1,List.drop_left,List.take_of_length_le (by rw [hu.len];exact Nat.le_refl _)]
  exact hu
theorem StsC.nil (B:Nat) (W:World):StsC B W [] []:=⟨rfl,fun i st h=>by simp at h⟩
/-- A plan under way; what its steps name lay there in the world Wa. -/
def PlanO (B:Nat) (Wa W:World) (pb:Nat) (sts:List Sp) (rest:List Int):Prop:=B≤pb∧Rn B Wa W∧∃ p n c p2 n2 c2 xs,W.heap[pb]?=some (.cells #[.slice p n c,.slice p2 n2 c2] 101 (0,0))∧W.ownsRow B 104 7 (.slice p n c) sts.length xs∧sts.length=n∧StsC B Wa sts xs∧Kept B Wa (.slice p2 n2 c2) rest∧n2≤c2∧rest.length=n2
theorem PlanO.up {B:Nat} {Wa W W':World} {pb:Nat} {sts:List Sp} {rest:List Int} (h:PlanO B Wa W pb sts rest) (hB:Below W.heap.size W W'):PlanO B Wa W' pb sts rest:=by
 obtain ⟨hb,hr,p,n,c,p2,n2,c2,xs,h1,h2,h3⟩:=h
 exact ⟨hb,hr.trans (Rn.of (Nat.le_trans hb (Nat.le_of_lt (heap_lt h1))) hB),p,n,c,p2,n2,c2,xs,(hB.block _ (heap_lt h1)).trans h1,owns_only (S:=[]) h2 (Only.of hB) (by simp),h3⟩
theorem PlanO.on {B:Nat} {Wa W:World} {pb:Nat} {sts:List Sp} {rest:List Int} (h:PlanO B Wa W pb sts rest):PlanO B W W pb sts rest:=by
 obtain ⟨hb,hr,p,n,c,p2,n2,c2,xs,h1,h2,h3,h4,h5,h6⟩:=h
 exact ⟨hb,Rn.refl _ _,p,n,c,p2,n2,c2,xs,h1,h2,h3,h4.up hr,h5.up hr,h6⟩
theorem PlanO.size {B:Nat} {Wa W:World} {pb:Nat} {sts:List Sp} {rest:List Int} (h:PlanO B Wa W pb sts rest):B≤W.heap.size:=by
 obtain ⟨hb,hr,p,n,c,p2,n2,c2,xs,h1,_⟩:=h
 exact Nat.le_trans hb (Nat.le_of_lt (heap_lt h1))
theorem stpT:GT Tryz.prog 72 104 7 88:=⟨Tryz.underlying72,by kernel_rfl⟩
theorem box_7 {W:World} {b:Nat} {v0 v1 v2 v3 v4 v5 v6:Value} {e:TypeId} (h:W.heap[b]?=some (.cells #[v0,v1,v2,v3,v4,v5,v6] e (0,0))):W.cell? ⟨b,0,none⟩=some v0∧W.cell? ⟨b,1,none⟩=some v1∧W.cell? ⟨b,2,none⟩=some v2∧W.cell? ⟨b,3,none⟩=some v3∧W.cell? ⟨b,4,none⟩=some v4∧W.cell? ⟨b,5,none⟩=some v5∧W.cell? ⟨b,6,none⟩=some v6:=by
 simp [World.cell?,h]
theorem own_ne {B n s b:Nat} {W:World} {v:Value} {xs:List Value} {e t:TypeId} {cs:Array Value} {fz:Nat×Nat} (h:W.ownsRow B e s v n xs) (hb:W.heap[b]?=some (.cells cs t fz)) (hne:e≠t):some b≠v.ownBlock:=by
 rcases h.2 with ⟨rfl,_⟩|⟨g,cap,cur,rfl,_,hc,_⟩
 ·intro h;cases h
 ·intro h
  cases h
  rw [hc] at hb
  cases hb
  exact hne rfl
theorem padd_any (B pb:Nat) (sts:List Sp) (rest:List Int) (hfew:sts.length≤200) (st:Sp) (p:Option Addr) (n c:Nat) (p2:Option Addr) (n2 c2:Nat) (wa w:World) (hP:PlanO B wa w pb sts rest) (h1:Kept B wa (.slice p n c) st.D) (h2:Kept B wa (.slice p2 n2 c2) st.X):
  Calls Tryz.prog 44 #[.pointer (some ⟨pb,0,none⟩),.agg #[.int .i64 st.op,.int .i64 st.a,.int .i64 st.b,.int .i64 st.k,.slice p n c,.slice p2 n2 c2,.bool st.par]] w fun e w'=>e = .returned (.int .i64 (sts.length:Int))∧PlanO B wa w' pb (sts++[st]) rest∧Rn B w w':=by
 obtain ⟨op,a,b,k,D,X,par⟩:=st
 simp only [] at h1 h2 ⊢
 obtain ⟨hBp,hra,pS,nS',cS,pR,nR,cR,xs,hb,ho,hn,hc,hk,hrc,hrl⟩:=hP
 have HRA:Hid (Rn B wa w):=hra
 have hzB:B≤w.heap.size:=Nat.le_trans hBp (Nat.le_of_lt (heap_lt hb))
 obtain ⟨N,eN⟩:∃ N,sts.length=N:=⟨_,rfl⟩
 rw [eN] at ho hn hfew ⊢
 subst hn
 have HP:Hid (B≤pb∧B≤w.heap.size∧w.heap[pb]?=some (.cells #[.slice pS N cS,.slice pR nR cR] 101 (0,0))∧w.ownsRow B 104 7 (.slice pS N cS) N xs∧StsC B wa sts xs∧sts.length=N):=⟨hBp,hzB,hb,ho,hc,eN⟩
 have HQ:Hid (Kept B wa (.slice pR nR cR) rest∧nR≤cR∧rest.length=nR):=⟨hk,hrc,hrl⟩
 have HS:Hid (Kept B wa (.slice p n c) D∧Kept B wa (.slice p2 n2 c2) X):=⟨h1,h2⟩
 clear hBp hb ho hc hk hrc hrl h1 h2 hzB eN hra
 go_enter Tryz.func44,Tryz.ntmps44
 go_wp2_with fail
 refine name_world (fun w6 hw6=>?_)
 have hB6:Below w.heap.size w w6:=by rw [hw6];exact up_alloc _ _
 have HN6:w6.heap[w.heap.size]?=some (.cells #[.int .i64 op,.int .i64 a,.int .i64 b,.int .i64 k,.slice p n c,.slice p2 n2 c2,.bool par] 104 (0,0)):=by rw [hw6];exact heap_alloc_new _ _
 have hR6:Rn B w w6:=Rn.of HP.out.2.1 hB6
 have HU6:Hid (StC B wa ⟨op,a,b,k,D,X,par⟩ [.int .i64 op,.int .i64 a,.int .i64 b,.int .i64 k,.slice p n c,.slice p2 n2 c2,.bool par]):=⟨_,_,_,_,_,_,rfl,HS.out.1,HS.out.2⟩
 have HP6:Hid (w6.heap[pb]?=some (.cells #[.slice pS N cS,.slice pR nR cR] 101 (0,0))∧w6.ownsRow B 104 7 (.slice pS N cS) N xs∧StsC B wa sts xs∧Kept B wa (.slice pR nR cR) rest∧Rn B w w6∧B≤w6.heap.size):=⟨(hB6.block _ (heap_lt HP.out.2.2.1)).trans HP.out.2.2.1,owns_only (S:=[]) HP.out.2.2.2.1 (Only.of hB6) (by simp),HP.out.2.2.2.2.1,HQ.out.1,hR6,Nat.le_trans HP.out.2.1 hB6.size⟩
 have HX6:Hid (w6.heap[w.heap.size]?=some (.cells #[.int .i64 op,.int .i64 a,.int .i64 b,.int .i64 k,.slice p n c,.slice p2 n2 c2,.bool par] 104 (0,0))∧some w.heap.size≠Value.ownBlock (.slice pS N cS)):=⟨HN6,fun h=>by have:=(World.ownsRow.lt HP.out.2.2.2.1 _ h.symm).2;omega⟩
 have HRW:Hid (∀ z,Value.ownBlock (.slice pS N cS)=some z→z < w6.heap.size):=fun z hz'=>Nat.lt_of_lt_of_le (World.ownsRow.lt HP.out.2.2.2.1 z hz').2 hB6.size
 have HU1:Hid (∀ z∈([.int .i64 op,.int .i64 a,.int .i64 b,.int .i64 k,.slice p n c,.slice p2 n2 c2,.bool par]:List Value),z.oneCell'=true):=HU6.out.one
 have HPN:Hid (some pb≠Value.ownBlock (.slice pS N cS)):=own_ne HP6.out.2.1 HP6.out.1 (by decide)
 clear hB6 HN6 hR6 hw6
 refine from_region (by kernel_rfl) ?_
 refine seg (fun q W=>match q with|false=>Below w6.heap.size w6 W|true=>w6.grownBy W (Value.ownBlock (.slice pS N cS))) (fun W W'=>W.grownBy W' (Value.ownBlock (.slice pS N cS))) 7 [⟨6,11,LitS 104 w6.heap.size [.int .i64 op,.int .i64 a,.int .i64 b,.int .i64 k,.slice p n c,.slice p2 n2 c2,.bool par]⟩,⟨7,12,OwnG 104 7 B (N+1) (xs++[.int .i64 op,.int .i64 a,.int .i64 b,.int .i64 k,.slice p n c,.slice p2 n2 c2,.bool par])⟩] 0 10 21 rfl rfl (by kernel_rfl) (by rfl) ?_ ?_ ?_ ?_ ?_ ?_
 ·intro q W W' h hb
  cases q
  ·exact bstep h hb
  ·exact grown_up h hb
 ·exact ⟨rfl,rfl,rfl,Nat.le_refl _,fun _ _=>rfl⟩
 ·exact .inl ⟨_,List.mem_cons_of_mem _ List.mem_cons_self,rfl⟩
 ·intro e he v W W' h hb
  simp only [List.mem_cons,List.not_mem_nil,or_false] at he
  rcases he with rfl|rfl
  ·exact LitS.up h hb
  ·exact OwnG.up h hb
 ·intro e he hne v W W' h hc ht
  simp only [List.mem_cons,List.not_mem_nil,or_false] at he
  rcases he with rfl|rfl
  ·exact LitS.grown h ht HRW.out
  ·exact absurd rfl hne
 apply Exists.intro
 refine ⟨fun x=>?_,?_,?_⟩
 ·simp only [List.drop_succ_cons,List.drop_zero,List.take_succ_cons,List.take_zero]
  iterate 4
   refine segQuiet rfl rfl ?_
   apply Exists.intro
   refine ⟨fun b' F hF hf K hK=>?_,?_⟩
   ·have hFc:=hF.cls
    go_big_quiet_op
    first|exact hK|(apply Exists.intro;refine ⟨fun _=>?_,?_⟩;(· fail);exact hK)
   (try simp only [Act.put,List.setIfInBounds_toArray,List.set_cons_zero,List.set_cons_succ])
  refine segQuiet rfl rfl ?_
  apply Exists.intro
  refine ⟨fun b' F hF hf K hK=>?_,?_⟩
  ·have hFc:=hF.cls
   have q0:∀ d,(F d).cell? ⟨pb,0,none⟩=some (.slice pS N cS):=fun d=>by
    have hK:w6.grownBy (F d) (Value.ownBlock (.slice pS N cS)):=by
     cases b'
     ·exact below_grown _ (hFc d)
     ·exact hFc d
    exact (box_2 ((hK.block _ (heap_lt HP6.out.1) HPN.out).trans HP6.out.1)).1.1
   clear hFc
   go_big_quiet_op
   first|exact hK|(apply Exists.intro;refine ⟨fun _=>?_,?_⟩;(· fail);exact hK)
  (try simp only [Act.put,List.setIfInBounds_toArray,List.set_cons_zero,List.set_cons_succ])
  refine segQuiet rfl rfl ?_
  apply Exists.intro
  refine ⟨fun b' F hF hf K hK=>?_,?_⟩
  ·have hFc:=hF.cls
   have q0:∀ d,(F d).heap[w.heap.size]?=some (.cells #[.int .i64 op,.int .i64 a,.int .i64 b,.int .i64 k,.slice p n c,.slice p2 n2 c2,.bool par] 104 (0,0)):=fun d=>by
    have hK:w6.grownBy (F d) (Value.ownBlock (.slice pS N cS)):=by
     cases b'
     ·exact below_grown _ (hFc d)
     ·exact hFc d
    exact (hK.block _ (heap_lt HX6.out.1) HX6.out.2).trans HX6.out.1
   have q1:=fun d=>(box_7 (q0 d)).1
   have q2:=fun d=>(box_7 (q0 d)).2.1
   have q3:=fun d=>(box_7 (q0 d)).2.2.1
   have q4:=fun d=>(box_7 (q0 d)).2.2.2.1
   have q5:=fun d=>(box_7 (q0 d)).2.2.2.2.1
   have q6:=fun d=>(box_7 (q0 d)).2.2.2.2.2.1
   have q7:=fun d=>(box_7 (q0 d)).2.2.2.2.2.2
   clear hFc q0
   go_big_quiet_op
   first|exact hK|(apply Exists.intro;refine ⟨fun _=>?_,?_⟩;(· fail);exact hK)
  (try simp only [Act.put,List.setIfInBounds_toArray,List.set_cons_zero,List.set_cons_succ])
  refine segTold rfl (by decide) rfl ?_ ?_
  ·intro b' F hF hf d
   have hFc:=hF.cls
   have hcls:w6.heap.size≤(F d).heap.size:=by
    cases b'
    ·exact (hFc d).size
    ·exact (hFc d).size
   simp [yieldsR,yieldsUpon,go_sem]
   exact ⟨⟨(F d).heap.size,rfl,heap_alloc_new (F d) _,hcls⟩,up_alloc _ _⟩
  (try simp only [Act.put,List.setIfInBounds_toArray,List.set_cons_zero,List.set_cons_succ])
  refine segBusy rfl rfl rfl ?_ ?_
  ·intro W hW hf
   have h7:=hf _ List.mem_cons_self (by rfl) W
   obtain ⟨g7,e7,hg7,_⟩:=h7
   simp only [] at e7
   obtain ⟨g8,c8,w8,hr8,ho8,hgr8⟩:=appGr stpT (by decide) (by decide) 72 W B (.slice pS N cS) N xs (owns_only (S:=[]) HP6.out.2.1 (Only.of hW) (by simp)) g7 _ hg7 rfl HU1.out (by omega) (Nat.le_trans HP6.out.2.2.2.2.2 (Below.size hW))
   simp [leavesR,leavesUpon,execOp,resolve,invoke,builtin,Act.eval,e7,hr8,Result.andThen]
   exact ⟨⟨g8,c8,rfl,ho8⟩,grown_trans (below_grown _ hW) hgr8,hgr8⟩
  iterate 2
   (try simp only [Act.put,List.setIfInBounds_toArray,List.set_cons_zero,List.set_cons_succ])
   refine segQuiet rfl rfl ?_
   apply Exists.intro
   refine ⟨fun b' F hF hf K hK=>?_,?_⟩
   ·have hFc:=hF.cls
    go_big_quiet_op
    first|exact hK|(apply Exists.intro;refine ⟨fun _=>?_,?_⟩;(· fail);exact hK)
  (try simp only [Act.put,List.setIfInBounds_toArray,List.set_cons_zero,List.set_cons_succ])
  refine segEnd ?_
  exact rfl
 ·exact fun x=>rfl
 ·intro w8 xs8 hC8 hf8
  refine from_list 10 (by kernel_rfl) ?_
  simp only [List.drop_succ_cons,List.drop_zero]
  have h8:=hf8 _ (List.mem_cons_of_mem _ List.mem_cons_self)
  obtain ⟨x6,e6⟩:∃ z,xs8 6=z:=⟨_,rfl⟩
  obtain ⟨x7,e7⟩:∃ z,xs8 7=z:=⟨_,rfl⟩
  simp only [e7] at h8
  simp only [e6,e7]
  obtain ⟨g8,c8,rfl,h8⟩:=h8
  have hC8':w6.grownBy w8 (Value.ownBlock (.slice pS N cS)):=hC8
  have hO8:Only S2 w6 w8:=(grown_only HP6.out.2.1 hC8').more (by simp)
  have hR8:Rn B w6 w8:=⟨Below.grown (Below.refl _ _) hC8' HP6.out.2.2.2.2.2 fun z hz=>(World.ownsRow.lt HP6.out.2.1 z hz).1,hO8⟩
  have hv8:=(hC8'.block _ (heap_lt HP6.out.1) HPN.out).trans HP6.out.1
  have hR9:Rn B w6 (w8.setCell ⟨pb,0,none⟩ (.slice (some ⟨g8,0,none⟩) (N+1) c8)):=hR8.trans ⟨(Below.refl _ _).setCell (p:=⟨pb,0,none⟩) HP.out.1 _,Only.set hv8 (by simp)⟩
  obtain ⟨⟨r0,r1⟩,_⟩:=box_2 hv8
  have hv9:(w8.setCell ⟨pb,0,none⟩ (.slice (some ⟨g8,0,none⟩) (N+1) c8)).heap[pb]?=some (.cells #[.slice (some ⟨g8,0,none⟩) (N+1) c8,.slice pR nR cR] 101 (0,0)):=by
   rw [heap_setat hv8]
   rfl
  have z0:=(box_2 hv9).1.1
  have HF:Hid (PlanO B wa (w8.setCell ⟨pb,0,none⟩ (.slice (some ⟨g8,0,none⟩) (N+1) c8)) pb (sts++[⟨op,a,b,k,D,X,par⟩]) rest∧Rn B w (w8.setCell ⟨pb,0,none⟩ (.slice (some ⟨g8,0,none⟩) (N+1) c8))):=by
   refine ⟨⟨HP.out.1,HRA.out.trans (HP6.out.2.2.2.2.1.trans hR9),_,_,_,_,_,_,_,hv9,?_,by rw [List.length_append,HP.out.2.2.2.2.2];rfl,HP6.out.2.2.1.push HU6.out,HP6.out.2.2.2.1,HQ.out.2⟩,HP6.out.2.2.2.2.1.trans hR9⟩
   rw [List.length_append,HP.out.2.2.2.2.2]
   exact owns_only (S:=[101]) h8 (Only.set hv8 (by simp)) (by decide)
  have hN1:((N+1:Nat):Int) - 1=(N:Int):=by omega
  have hN2:wrap64 (N:Int)=(N:Int):=by unfold wrap64;omega
  clear hC8 hC8' hO8 hR8 hR9 hv8 hv9 h8 hf8 e6 e7
  go_wp2
  exact bodyPost_ret (v:=.int .i64 (N:Int)) (by simp [results,Tryz.results44,go_sem,hN1,hN2]) rfl ⟨rfl,HF.out⟩
end Go.Proofs.YtihjnbbhpojnpaaGreatDoor.Wd
namespace Go.Proofs.YtihjnbbhpojnpaaGreatDoor.Wd
open Go.RowKit Fx
theorem fall6 {W:World} {b:Nat} {v0 v1 v2 v3 v4 v5 x4 x5:Value} {e:TypeId} (h:W.heap[b]?=some (.cells #[v0,v1,v2,v3,v4,v5] e (0,0))):((W.setCell ⟨b,4,none⟩ x4).setCell ⟨b,5,none⟩ x5).heap[b]?=some (.cells #[v0,v1,v2,v3,x4,x5] e (0,0)):=by
 rw [heap_setat (heap_setat h)]
 rfl
theorem cat_any (B tb:Nat) (ns:List Nd) (hG:NodesG ns) (i:Nat) (nd:Nd) (hi:ns[i]?=some nd) (w:World) (hT:TapC w B tb ns):
  Calls Tryz.prog 29 #[.pointer (some ⟨tb,0,none⟩),.int .i64 (i:Int)] w fun e w'=>∃ s t,e = .returned (.tuple #[.agg #[.int .i64 nd.op,.int .i64 nd.a,.int .i64 nd.b,.int .i64 nd.k,s,t],.bool true])∧OwnK .i64 3 w' w.heap.size s nd.D∧OwnK .i64 46 w' w.heap.size t nd.X∧Below w.heap.size w w':=by
 have hTT:Hid (TapC w B tb ns):=hT
 obtain ⟨pL,cL,xs0,hv,ho,hn0,hnc⟩:=Tap.head hT
 obtain ⟨N,eN⟩:∃ N,ns.length=N:=⟨_,rfl⟩
 rw [eN] at hv ho hnc
 have hcell:=(head_cell hv).1
 have hiN:i < N:=by rw [← eN];exact (List.getElem?_eq_some_iff.1 hi).1
 obtain ⟨q,nd',s_,t_,eq,hnd,c0,c1,c2,c3,c4,c5,hs,ht⟩:=node_cells ho hn0 eN i hiN
 rw [hi] at hnd
 cases hnd
 obtain ⟨pA,nA,cA,rfl⟩:=hs.form_
 obtain ⟨qA,mA,eA,rfl⟩:=ht.form_
 subst eq
 have hq:decide (0≤(i:Int)∧(i:Int) < (ns.length:Int))=true:=decide_eq_true (by omega)
 have HN:Hid (Nums .i64 w (.slice pA nA cA) nd.D∧Nums .i64 w (.slice qA mA eA) nd.X∧isP nd.D nd.X):=⟨hs.nums,ht.nums,(hG nd (nd_mem hi)).1⟩
 have HC:Hid (w.cell? ⟨tb,0,none⟩=some (.slice (some ⟨q,0,none⟩) N cL)∧w.cell? ⟨q,i*6,none⟩=some (.int .i64 nd.op)∧w.cell? ⟨q,i*6+1,none⟩=some (.int .i64 nd.a)∧w.cell? ⟨q,i*6+2,none⟩=some (.int .i64 nd.b)∧w.cell? ⟨q,i*6+3,none⟩=some (.int .i64 nd.k)∧w.cell? ⟨q,i*6+4,none⟩=some (.slice pA nA cA)∧w.cell? ⟨q,i*6+5,none⟩=some (.slice qA mA eA)):=⟨hcell,c0,c1,c2,c3,c4,c5⟩
 have d2:(i:Int) < (N:Int):=by omega
 obtain ⟨op,a,b,k,D,X⟩:=nd
 simp only [] at HC HN ⊢
 clear hT hv ho hn0 hnc hs ht c0 c1 c2 c3 c4 c5 hcell hG hi
 go_enter Tryz.func29,Tryz.ntmps29
 go_wp2_with fail
 generalize hW0:World.alloc _ _=W0
 have HR0:W0.heap[w.heap.size]?=some (.cells #[.int .i64 0,.int .i64 0,.int .i64 0,.int .i64 0,.slice none 0 0,.slice none 0 0] 77 (0,0)):=by rw [← hW0];exact heap_alloc_new _ _
 have HB0:Hid (Below w.heap.size w W0):=by show Below _ _ _;rw [← hW0];exact up_alloc _ _
 clear hW0
 refine (chas_any B tb ns (i:Int) true hq W0 (hTT.out.up HB0.out)).mono ?_
 rintro e w1 ⟨rfl,ew1⟩
 subst ew1
 clear hq
 have c:=cell_low HC.out.1 HB0.out
 have c0:=cell_low HC.out.2.1 HB0.out
 have c1:=cell_low HC.out.2.2.1 HB0.out
 have c2:=cell_low HC.out.2.2.2.1 HB0.out
 have c3:=cell_low HC.out.2.2.2.2.1 HB0.out
 have c4:=cell_low HC.out.2.2.2.2.2.1 HB0.out
 have c5:=cell_low HC.out.2.2.2.2.2.2 HB0.out
 have k0:=cell_lt c
 have k1:=cell_lt c0
 go_wp2_with fail
 generalize hW2:World.alloc _ _=W2
 have HX2:W2.heap[w1.heap.size]?=some (.cells #[.int .i64 op,.int .i64 a,.int .i64 b,.int .i64 k,.slice pA nA cA,.slice qA mA eA] 77 (0,0)):=by rw [← hW2];exact heap_alloc_new _ _
 have HB2:Hid (Below w1.heap.size w1 W2∧Below w.heap.size w W2):=by
  have h:=up_alloc w1 (.cells #[.int .i64 op,.int .i64 a,.int .i64 b,.int .i64 k,.slice pA nA cA,.slice qA mA eA] 77)
  rw [hW2] at h
  exact ⟨h,bstep HB0.out h⟩
 have HR2:W2.heap[w.heap.size]?=some (.cells #[.int .i64 0,.int .i64 0,.int .i64 0,.int .i64 0,.slice none 0 0,.slice none 0 0] 77 (0,0)):=by rw [HB2.out.1.block _ (heap_lt HR0)];exact HR0
 clear hW2 c c0 c1 c2 c3 c4 c5 k0 k1
 refine (ccopied_any pA qA nA cA mA eA D X HN.out.2.2 W2 (HN.out.1.up HB2.out.2) (HN.out.2.1.up HB2.out.2)).mono ?_
 rintro e w3 ⟨v3,rfl,⟨s3,t3,rfl,hs,ht⟩,hB3⟩
 obtain ⟨pa,na,ca,rfl⟩:=hs.form_
 obtain ⟨pb,nb,cb,rfl⟩:=ht.form_
 have HX3:w3.heap[w1.heap.size]?=some (.cells #[.int .i64 op,.int .i64 a,.int .i64 b,.int .i64 k,.slice pA nA cA,.slice qA mA eA] 77 (0,0)):=by rw [hB3.block _ (heap_lt HX2)];exact HX2
 have HR3:w3.heap[w.heap.size]?=some (.cells #[.int .i64 0,.int .i64 0,.int .i64 0,.int .i64 0,.slice none 0 0,.slice none 0 0] 77 (0,0)):=by rw [hB3.block _ (heap_lt HR2)];exact HR2
 have HO:Hid (OwnK .i64 3 w3 w.heap.size (.slice pa na ca) D∧OwnK .i64 46 w3 w.heap.size (.slice pb nb cb) X):=⟨hs.low HB2.out.2.size,ht.low HB2.out.2.size⟩
 have HB3:Hid (Below w.heap.size w w3):=bstep HB2.out.2 hB3
 have hlt:w.heap.size < w1.heap.size:=heap_lt HR0
 clear hs ht hB3 HX2 HR2 HR0 HN HC d2 hTT
 have n1:w1.heap.size≠w.heap.size:=by omega
 have n2:w.heap.size≠w1.heap.size:=by omega
 obtain ⟨⟨x0,x1,x2,x3,x4,x5⟩,xf⟩:=box6 HX3
 obtain ⟨⟨r0,r1,r2,r3,r4,r5⟩,rf⟩:=box6 HR3
 have k1:=heap_lt HX3
 have k2:=heap_lt HR3
 have HX4:Hid ((((w3.setCell ⟨w1.heap.size,4,none⟩ (.slice pa na ca)).setCell ⟨w1.heap.size,5,none⟩ (.slice pb nb cb)).heap[w1.heap.size]?=some (.cells #[.int .i64 op,.int .i64 a,.int .i64 b,.int .i64 k,.slice pa na ca,.slice pb nb cb] 77 (0,0))∧((w3.setCell ⟨w1.heap.size,4,none⟩ (.slice pa na ca)).setCell ⟨w1.heap.size,5,none⟩ (.slice pb nb cb)).heap[w.heap.size]?=some (.cells #[.int .i64 0,.int .i64 0,.int .i64 0,.int .i64 0,.slice none 0 0,.slice none 0 0] 77 (0,0)))∧Below w.heap.size w ((w3.setCell ⟨w1.heap.size,4,none⟩ (.slice pa na ca)).setCell ⟨w1.heap.size,5,none⟩ (.slice pb nb cb))∧Only [77] w3 ((w3.setCell ⟨w1.heap.size,4,none⟩ (.slice pa na ca)).setCell ⟨w1.heap.size,5,none⟩ (.slice pb nb cb))):=by
  refine ⟨⟨fall6 HX3,?_⟩,?_,?_⟩
  ·rw [heap_set _ _ _ _ _ (by omega),heap_set _ _ _ _ _ (by omega)]
   exact HR3
  ·exact (HB3.out.setCell (p:=⟨w1.heap.size,4,none⟩) (Nat.le_of_lt hlt) _).setCell (p:=⟨w1.heap.size,5,none⟩) (Nat.le_of_lt hlt) _
  ·exact (Only.set HX3 (by simp)).trans (Only.set (heap_setat HX3) (by simp))
 go_wp2
 generalize hW9:World.setCell _ _ _=W9
 have h0:=HX4.out.1.2
 have h1:=heap_setat (o:=0) (x:=(.int .i64 op)) h0
 have h2:=heap_setat (o:=1) (x:=(.int .i64 a)) h1
 have h3:=heap_setat (o:=2) (x:=(.int .i64 b)) h2
 have h4:=heap_setat (o:=3) (x:=(.int .i64 k)) h3
 have h5:=heap_setat (o:=4) (x:=(.slice pa na ca)) h4
 have H9:W9.heap[w.heap.size]?=some (.cells #[.int .i64 op,.int .i64 a,.int .i64 b,.int .i64 k,.slice pa na ca,.slice pb nb cb] 77 (0,0)):=by
  rw [← hW9]
  exact (heap_setat h5).trans rfl
 have B9:Below w.heap.size w W9:=by
  rw [← hW9]
  exact ((((((HX4.out.2.1.setCell (p:=⟨w.heap.size,0,none⟩) (Nat.le_refl _) _).setCell (p:=⟨w.heap.size,1,none⟩) (Nat.le_refl _) _).setCell (p:=⟨w.heap.size,2,none⟩) (Nat.le_refl _) _).setCell (p:=⟨w.heap.size,3,none⟩) (Nat.le_refl _) _).setCell (p:=⟨w.heap.size,4,none⟩) (Nat.le_refl _) _).setCell (p:=⟨w.heap.size,5,none⟩) (Nat.le_refl _) _)
 have O9:Only [77] w3 W9:=by
  rw [← hW9]
  exact ((((((HX4.out.2.2.trans (Only.set h0 (by simp))).trans (Only.set h1 (by simp))).trans (Only.set h2 (by simp))).trans (Only.set h3 (by simp))).trans (Only.set h4 (by simp))).trans (Only.set h5 (by simp)))
 obtain ⟨⟨z0,z1,z2,z3,z4,z5⟩,_⟩:=box6 H9
 exact bodyPost_ret (v:=.tuple #[.agg #[.int .i64 op,.int .i64 a,.int .i64 b,.int .i64 k,.slice pa na ca,.slice pb nb cb],.bool true]) (by simp [results,Tryz.results29,go_sem,z0,z1,z2,z3,z4,z5]) rfl ⟨_,_,rfl,HO.out.1.only O9 (by decide),HO.out.2.only O9 (by decide),B9⟩
theorem cvalue_any (B tb:Nat) (ns:List Nd) (hG:NodesG ns) (i:Nat) (nd:Nd) (hi:ns[i]?=some nd) (w:World) (hT:TapC w B tb ns):
  Calls Tryz.prog 14 #[.pointer (some ⟨tb,0,none⟩),.int .i64 (i:Int)] w fun e w'=>∃ v,e = .returned (.tuple #[v,.bool true])∧TRes w' w.heap.size v nd.D nd.X∧Below w.heap.size w w':=by
 have HAT:Hid (∀ W,Below w.heap.size w W→Calls Tryz.prog 29 #[.pointer (some ⟨tb,0,none⟩),.int .i64 (i:Int)] W fun e w'=>∃ s t,e = .returned (.tuple #[.agg #[.int .i64 nd.op,.int .i64 nd.a,.int .i64 nd.b,.int .i64 nd.k,s,t],.bool true])∧OwnK .i64 3 w' W.heap.size s nd.D∧OwnK .i64 46 w' W.heap.size t nd.X∧Below W.heap.size W w'):=fun W hW=>cat_any B tb ns hG i nd hi W (hT.up hW)
 obtain ⟨op,a,b,k,D,X⟩:=nd
 simp only [] at HAT ⊢
 clear hT hi hG
 go_enter Tryz.func14,Tryz.ntmps14
 go_wp2_with fail
 generalize hW0:World.alloc _ _=W0
 have HB0:Hid (Below w.heap.size w W0):=by show Below _ _ _;rw [← hW0];exact up_alloc _ _
 have XR:Hid (Cel W0 w.heap.size (.slice none 0 0) (.slice none 0 0)):=celW hW0 (by simp [go_sem])
 clear hW0
 refine (HAT.out W0 HB0.out).mono ?_
 rintro e w1 ⟨s,t,rfl,hs,ht,hB1⟩
 obtain ⟨pa,na,ca,rfl⟩:=hs.form_
 obtain ⟨pb,nb,cb,rfl⟩:=ht.form_
 have HF:Hid (TRes (set2 w1 w.heap.size (.slice pa na ca) (.slice pb nb cb)) w.heap.size (.agg #[.slice pa na ca,.slice pb nb cb]) D X∧Below w.heap.size w (set2 w1 w.heap.size (.slice pa na ca) (.slice pb nb cb))):=⟨(TRes.set hs ht (cell_lt XR.out.1)).low HB0.out.size,below_cell (bstep HB0.out hB1) _ (Nat.le_refl _) _ _⟩
 clear hs ht HAT
 have xr:=XR.out.up hB1
 have cf:=xr.set (.slice pa na ca) (.slice pb nb cb)
 obtain ⟨r0,r1,r2,r3⟩:=xr
 have kq:=cell_lt r0
 have z0:=cell_low cf.1 (up_alloc _ (.cells #[.int .i64 op,.int .i64 a,.int .i64 b,.int .i64 k,.slice pa na ca,.slice pb nb cb] 77))
 have z1:=cell_low cf.2.1 (up_alloc _ (.cells #[.int .i64 op,.int .i64 a,.int .i64 b,.int .i64 k,.slice pa na ca,.slice pb nb cb] 77))
 clear cf
 go_wp2
 exact bodyPost_ret (v:=.tuple #[.agg #[.slice pa na ca,.slice pb nb cb],.bool true]) (by simp [results,Tryz.results14,go_sem,z0,z1]) rfl ⟨_,rfl,HF.out.1.up (up_alloc _ _),bstep HF.out.2 (up_alloc _ _)⟩
/-- An order of one's own. -/
def RowO (B:Nat) (o:List Int) (v:Value) (W:World):Prop:=∃ p n c,v = .slice p n c∧OwnK .i64 3 W B (.slice p n c) o
theorem RowO.up {B:Nat} {o:List Int} {v:Value} {W W':World} (h:RowO B o v W) (hB:Below W.heap.size W W'):RowO B o v W':=by
 obtain ⟨p,n,c,e,h1⟩:=h
 exact ⟨p,n,c,e,h1.up hB⟩
theorem sum_own (p p2:Option Addr) (n c n2 c2:Nat) (d x:List Int) (side:Int) (hr:InR side) (hd:RI d) (hx:RI x) (hn10:n≤10) (w:World) (h1:Nums .i64 w (.slice p n c) d) (h2:Nums .i64 w (.slice p2 n2 c2) x):
  Calls Tryz.prog 93 #[.agg #[.slice p n c,.slice p2 n2 c2],.int .i64 side] w fun e w'=>∃ v',e = .returned (.tuple #[v',.int .i64 (smE d x side)])∧TRes w' w.heap.size v' (smD d x side) (smV d x side)∧Below w.heap.size w w':=by
 obtain ⟨_,_,_,e4,HD⟩:=h1.lst
 cases e4
 obtain ⟨_,_,_,e4,HX⟩:=h2.lst
 cases e4
 have hdl:d.length=n:=HD.out.1
 obtain ⟨O,eO⟩:∃ O,lastO n side=O:=⟨_,rfl⟩
 have rO:RI O:=fun y hy=>by
  rw [← eO] at hy
  unfold lastO butO at hy
  rcases List.mem_append.1 hy with h|h
  ·obtain ⟨k,hk,rfl⟩:=List.mem_map.1 (List.mem_filter.1 h).1
   have:=List.mem_range.1 hk
   omega
  ·simp at h
   rw [h]
   exact hr
 obtain ⟨E,eE⟩:∃ E,turnE d x O=E:=⟨_,rfl⟩
 obtain ⟨DD,eDD⟩:∃ E,turnD d x O=E:=⟨_,rfl⟩
 obtain ⟨VV,eVV⟩:∃ E,turnV d x O=E:=⟨_,rfl⟩
 have cL:Hid (∀ B W,B≤W.heap.size→Calls Tryz.prog 114 #[.int .i64 (n:Int),.int .i64 side] W fun e w'=>∃ u,e = .returned u∧RowO B O u w'∧Below W.heap.size W w'):=fun B W hB=>by
  rw [← eO]
  refine (sideLast_any n (by omega) side hr W).mono ?_
  rintro e w' ⟨u,rfl,h,hb⟩
  obtain ⟨q,m,k,rfl,_⟩:=h.nums.lst
  exact ⟨_,rfl,⟨_,_,_,rfl,h.low hB⟩,hb⟩
 have cT:Hid (∀ B W B' v,B≤W.heap.size→Below w.heap.size w W→RowO B' O v W→Calls Tryz.prog 113 #[.agg #[.slice p n c,.slice p2 n2 c2],v] W fun e w'=>∃ u,e = .returned u∧TupP B DD VV E u w'∧Below W.heap.size W w'):=fun B W B' v hB hW hv=>by
  obtain ⟨q,m,k,rfl,h⟩:=hv
  rw [← eE,← eDD,← eVV]
  refine (tturn_any p p2 q n c n2 c2 m k d x O hd rO W (h1.up hW) (h2.up hW) h.nums).mono ?_
  rintro e w' ⟨u,rfl,h,hb⟩
  exact ⟨_,rfl,⟨u,rfl,(h.low hB).own⟩,hb⟩
 have HE:Hid (lastO n side=O∧turnE d x O=E∧turnD d x O=DD∧turnV d x O=VV∧d.length=n∧RI x∧InR side):=⟨eO,eE,eDD,eVV,hdl,hx,hr⟩
 have HN:Hid (Nums .i64 w (.slice p n c) d∧Nums .i64 w (.slice p2 n2 c2) x):=⟨h1,h2⟩
 have hn10':(n:Int)≤10:=by omega
 have hr':-9223372036854775808≤side∧side≤9223372036854775807:=hr
 obtain ⟨sE,esE⟩:∃ e,smE d x side=e:=⟨_,rfl⟩
 obtain ⟨sD,esD⟩:∃ e,smD d x side=e:=⟨_,rfl⟩
 obtain ⟨sV,esV⟩:∃ e,smV d x side=e:=⟨_,rfl⟩
 rw [esE,esD,esV]
 have HM:Hid (smE d x side=sE∧smD d x side=sD∧smV d x side=sV):=⟨esE,esD,esV⟩
 haveI:Nonempty World:=⟨w⟩
 clear esE esD esV eO eE eDD eVV rO hd hx h1 h2 hdl hr
 go_enter Tryz.func93,Tryz.ntmps93
 go_wp2_with fail
 refine name_world (fun W0 hW0=>?_)
 have B0:Below w.heap.size w W0:=by rw [hW0];go_grown
 have XA:Hid (Cel W0 w.heap.size (.slice p n c) (.slice p2 n2 c2)):=by show Cel _ _ _ _;unfold Cel;rw [hW0];simp [go_sem]
 have XR:Hid (Cel W0 (w.heap.size+1) (.slice none 0 0) (.slice none 0 0)):=by show Cel _ _ _ _;unfold Cel;rw [hW0];simp [go_sem]
 have HB0:Hid (Below w.heap.size w W0):=B0
 clear hW0 B0
 obtain ⟨a0,a1,_,_⟩:=XA.out
 have a9:=cell_lt a0
 refine relE [⟨5,17,RowO W0.heap.size O⟩,⟨6,18,TupP W0.heap.size DD VV E⟩,⟨7,11,TupP W0.heap.size DD VV E⟩,⟨8,19,OwnT W0.heap.size DD VV⟩,⟨10,6,NewC W0.heap.size⟩] 11 66 (by kernel_rfl) rfl rfl 9 _ rfl (by decide) rfl (by kernel_rfl) (by kernel_rfl) (fun _ _ _ _ h=>h) (by rfl) ?_ ?_
 ·intro e he v W W' h hb
  simp only [List.mem_cons,List.not_mem_nil,or_false] at he
  rcases he with rfl|rfl|rfl|rfl|rfl
  ·exact RowO.up h hb
  ·exact TupP.up h hb
  ·exact TupP.up h hb
  ·exact OwnT.up h hb
  ·exact NewC.up h hb
 apply Exists.intro
 refine ⟨?yl1,?wk1,?pk1,?rest1⟩
 case wk1=>
  intro x
  simp only [List.take_succ_cons,List.take_zero]
  iterate 5
   refine relQuiet rfl rfl ?_
   apply Exists.intro
   refine ⟨fun F hF hf K hK=>?_,?_⟩
   ·have hFc:=hF.cell
    have hFf:=hF.frozen
    go_big_quiet_op
    exact hK
   (try simp only [putL])
  refine relTold rfl rfl ?_ ?_
  ·intro F hF hf d
   have hFc:=hF.cell
   have hFf:=hF.frozen
   simp [yieldsR,yieldsUpon,go_sem]
   refine (cL.out W0.heap.size (F d) (hF.below d).size).mono ?_
   rintro e' w8 ⟨v8,rfl,h8,hb8⟩
   exact ⟨_,rfl,h8,hb8⟩
  (try simp only [putL])
  refine relTold rfl rfl ?_ ?_
  ·intro F hF hf d
   have hFc:=hF.cell
   have hFf:=hF.frozen
   have h9:=hf _ List.mem_cons_self (by rfl) d
   simp [yieldsR,yieldsUpon,go_sem]
   refine (cT.out W0.heap.size (F d) _ _ (hF.below d).size (bstep HB0.out (hF.below d)) h9).mono ?_
   rintro e' w8 ⟨v8,rfl,h8,hb8⟩
   exact ⟨_,rfl,h8,hb8⟩
  (try simp only [putL])
  refine relTold rfl rfl ?_ ?_
  ·intro F hF hf d
   have hFc:=hF.cell
   have hFf:=hF.frozen
   have h9:=hf _ (List.mem_cons_of_mem _ List.mem_cons_self) (by rfl) d
   simp [yieldsR,yieldsUpon,go_sem]
   exact ⟨h9,Below.refl _ _⟩
  (try simp only [putL])
  refine relTold rfl rfl ?_ ?_
  ·intro F hF hf d
   have hFc:=hF.cell
   have hFf:=hF.frozen
   have h9:=hf _ (List.mem_cons_of_mem _ (List.mem_cons_of_mem _ List.mem_cons_self)) (by rfl) d
   obtain ⟨u9,e9,o9⟩:=h9
   simp only [] at e9
   simp [yieldsR,yieldsUpon,go_sem,e9]
   exact ⟨o9,Below.refl _ _⟩
  (try simp only [putL])
  refine relQuiet rfl rfl ?_
  apply Exists.intro
  refine ⟨fun F hF hf K hK=>?_,?_⟩
  ·have hFc:=hF.cell
   have hFf:=hF.frozen
   have h9:=hf _ (List.mem_cons_of_mem _ (List.mem_cons_of_mem _ List.mem_cons_self)) (by rfl)
   obtain ⟨u9,e9,_⟩:=h9 w
   simp only [] at e9
   go_big_quiet_op
   exact hK
  (try simp only [putL])
  refine relTold rfl rfl ?_ ?_
  ·intro F hF hf d
   have hFc:=hF.cell
   have hFf:=hF.frozen
   simp [yieldsR,yieldsUpon,go_sem]
   exact ⟨⟨(F d).heap.size,rfl,by show ((F d).heap.push _)[(F d).heap.size]?=_;simp,(hF.below d).size⟩,up_alloc _ _⟩
  (try simp only [putL])
  refine relEnd ?_
  exact rfl
 case pk1=>
  intro x
  simp only [putsK,List.foldl_cons,List.foldl_nil,Act.put,List.setIfInBounds_toArray,List.set_cons_zero,List.set_cons_succ]
 case yl1=>
  intro x hx
  obtain ⟨W9,u9,e9,_⟩:=hx _ (List.mem_cons_of_mem _ (List.mem_cons_of_mem _ List.mem_cons_self)) (by rfl)
  simp only [] at e9
  refine ⟨.int .i64 E,fun t ht=>?_,.inl ⟨by rfl,fun w=>?_⟩⟩
  ·cases ht
   rfl
  ·simp [execOp,Act.eval,e9,go_sem]
 intro z1 xs hBz1 hf
 simp only [List.drop_succ_cons,List.drop_zero]
 have hT1:=hf _ (List.mem_cons_of_mem _ (List.mem_cons_of_mem _ (List.mem_cons_of_mem _ List.mem_cons_self)))
 have hN:=hf _ (List.mem_cons_of_mem _ (List.mem_cons_of_mem _ (List.mem_cons_of_mem _ (List.mem_cons_of_mem _ List.mem_cons_self))))
 obtain ⟨pa1,na1,ca_1,pb1,nb1,cb_1,ev,o1,o2⟩:=hT1
 obtain ⟨g6,eb,hb1,hb2⟩:=hN
 simp only [] at ev eb
 obtain ⟨x5,e5⟩:∃ q,xs 5=q:=⟨_,rfl⟩
 obtain ⟨x6,e6⟩:∃ q,xs 6=q:=⟨_,rfl⟩
 obtain ⟨x7,e7⟩:∃ q,xs 7=q:=⟨_,rfl⟩
 simp only [ev,eb,e5,e6,e7]
 have cbl:=new_cel hb1
 have f1:=o1.off_type hb1 (by decide)
 have f2:=o2.off_type hb1 (by decide)
 have hS:Below W0.heap.size W0 (set2 z1 g6 (.slice pa1 na1 ca_1) (.slice pb1 nb1 cb_1)):=below_set2 hBz1 g6 hb2 _ _
 have HO:Hid (OwnK .i64 3 (set2 z1 g6 (.slice pa1 na1 ca_1) (.slice pb1 nb1 cb_1)) W0.heap.size (.slice pa1 na1 ca_1) DD∧OwnK .i64 46 (set2 z1 g6 (.slice pa1 na1 ca_1) (.slice pb1 nb1 cb_1)) W0.heap.size (.slice pb1 nb1 cb_1) VV∧W0.heap.size≤g6):=⟨o1.stay (Stay.set2 _ _ _) f1,o2.stay (Stay.set2 _ _ _) f2,hb2⟩
 have HC6:Hid (Cel (set2 z1 g6 (.slice pa1 na1 ca_1) (.slice pb1 nb1 cb_1)) g6 (.slice pa1 na1 ca_1) (.slice pb1 nb1 cb_1)):=(new_cel hb1).set _ _
 have HBz:Hid (Below w.heap.size w (set2 z1 g6 (.slice pa1 na1 ca_1) (.slice pb1 nb1 cb_1))∧Below W0.heap.size W0 (set2 z1 g6 (.slice pa1 na1 ca_1) (.slice pb1 nb1 cb_1))):=⟨bstep HB0.out hS,hS⟩
 obtain ⟨c0,c1,c2_,c3_⟩:=cbl
 have cz:=cell_lt c0
 clear hf e5 e6 e7 ev eb f1 f2 o1 o2 cL cT a0 a1 a9 hS hb2 hBz1 hb1
 by_cases hs:smP d x side
 ·obtain ⟨hp,hs0,hs1⟩:=hs
  obtain ⟨a,ga,rfl⟩:=good_itl hp.1
  obtain ⟨s,rfl⟩:=Int.eq_ofNat_of_zero_le hs0
  rw [itl_len] at hs1
  have hsa:s < a.length:=by omega
  have hxa:x.length=prodN a:=by have:=hp.2;rw [ntl_itl] at this;exact this
  have hal:a.length=n:=by have:=HE.out.2.2.2.2.1;rw [itl_len] at this;exact this
  obtain ⟨k1,k2,k3,k4⟩:=sm_turn ga hxa s hsa
  rw [hal,HE.out.1] at k1 k2 k3 k4
  have hE:E=0:=by rw [← HE.out.2.1];exact k1
  rw [HE.out.2.2.1] at k2
  rw [HE.out.2.2.2.1] at k3 k4
  subst hE k2
  have hsm:smP (itl a) x (s:Int):=⟨hp,hs0,by rw [itl_len];exact hs1⟩
  have hv1:sE=0:=by rw [← HM.out.1];exact if_pos hsm
  have hv2:sD=itl (lessN a s):=by rw [← HM.out.2.1];unfold smD;rw [if_pos hsm,ntl_itl];rfl
  have hv3:sV=sumV a s x:=by rw [← HM.out.2.2];unfold smV;rw [if_pos hsm,ntl_itl];rfl
  subst hv1 hv2
  obtain ⟨C,eC⟩:∃ C,a.getD s 0=C:=⟨_,rfl⟩
  obtain ⟨N,eN⟩:∃ N,prodN (lessN a s)=N:=⟨_,rfl⟩
  have hNC:N*C=prodN a:=by rw [← eN,← eC];exact prodN_less a s hsa
  have hC1:1≤C:=by rw [← eC];exact side_one ga s hsa
  have hN1:1≤N:=by rw [← eN];exact (good_less ga s hsa).pos
  have hN2:N≤4096:=by rw [← eN];exact (good_less ga s hsa).2.2
  have hC2:C≤4096:=by have:=Nat.mul_le_mul_right C hN1;rw [hNC,Nat.one_mul] at this;have:=ga.2.2;omega
  have hn2:n2=N*C:=by rw [hNC,← hxa];exact HX.out.1.symm
  have hQ:(n2:Int) / (C:Int)=(N:Int):=by
   rw [hn2]
   push_cast
   exact Int.mul_ediv_cancel _ (by omega)
  rw [eC,eN] at k4
  rw [eC] at HO
  have HS:Hid (sV=sumV a s x∧sV.length=N∧VV.length=N*C∧(∀ i k,i < N→k < C→VV.getD (i*C+k) 0=x.getD ((i / prodN (a.drop (s+1))*C+k)*prodN (a.drop (s+1))+i % prodN (a.drop (s+1))) 0)∧a.getD s 0=C∧prodN (lessN a s)=N∧RI VV∧a.length=n∧s < a.length∧N*C≤4096):=by
   refine ⟨hv3,by rw [hv3,sumV_len,eN],by rw [k3,hNC],k4,eC,eN,fun y hy=>?_,hal,hsa,by rw [hNC];exact ga.2.2⟩
   rw [← HE.out.2.2.2.1] at hy
   unfold turnV at hy
   split at hy
   ·obtain ⟨i,_,rfl⟩:=List.mem_map.1 hy
    exact getD_inR HE.out.2.2.2.2.2.1 _
   ·cases hy
  obtain ⟨q,o,rfl,hc0⟩:=HD.out.2 s (by omega)
  rw [itl_getD,eC] at hc0
  have hsn:(s:Int) < (n:Int):=by omega
  have hC':1≤(C:Int)∧(C:Int)≤4096:=by omega
  have hN':1≤(N:Int)∧(N:Int)≤4096:=by omega
  have hn2':(n2:Int)≤4096:=by have:=HS.out.2.2.2.2.2.2.2.2.2;omega
  have hn1':1≤(n:Int):=by omega
  obtain ⟨n',en'⟩:∃ n',n=n'+1:=⟨n - 1,by omega⟩
  have en:(n:Int) - 1=(n':Int):=by omega
  have Hn:Hid (n=n'+1):=en'
  clear hp hs0 hs1 hxa hal k1 k3 k4 hsm hv3 eC eN hNC hC1 hC2 hN1 hN2 hn2 hsa ga en'
  obtain ⟨Wz,hWz⟩:∃ Wz,(set2 z1 g6 (.slice pa1 na1 ca_1) (.slice pb1 nb1 cb_1))=Wz:=⟨_,rfl⟩
  rw [hWz] at HO HBz HC6
  obtain ⟨q0,q1,_,_⟩:=HC6.out
  obtain ⟨a0,a1,_,_⟩:=XA.out.up HBz.out.2
  have q9:=cell_lt q0
  have a9:=cell_lt a0
  have ua:=cell_low hc0 HBz.out.1
  have ua9:=cell_lt ua
  go_wp2_with (at_make;refine wpList_makeK fixT (by decide) _ rfl (.tmp 34) (.tmp 34) rfl .i64 .i64 N N N rfl rfl rfl rfl (by omega) Wz.heap.size Wz (Nat.le_refl _) (Below.refl _ _) ?_;intro w4 HO4 B4 B4';clear B4')
  clear q0 q1 a0 a1 q9 a9 ua ua9 hWz c0 c1 c2_ c3_ cz
  obtain ⟨g,hg⟩:∃ g,Wz.heap.size=g:=⟨_,rfl⟩
  rw [hg] at HO4 ⊢
  have HB4:Hid (Below w.heap.size w w4∧Below W0.heap.size W0 w4∧Below Wz.heap.size Wz w4):=⟨bstep HBz.out.1 B4,bstep HBz.out.2 B4,B4⟩
  have Hg:Hid (Wz.heap.size=g∧g6 < g∧W0.heap.size≤g∧w.heap.size+1 < W0.heap.size):=⟨hg,by rw [← hg];exact cell_lt HC6.out.1,by rw [← hg];exact HBz.out.2.size,cell_lt XR.out.1⟩
  have HO5:Hid (OwnK .i64 46 w4 g (.slice (some ⟨g,0,none⟩) N N) (rowF sV 0)):=by
   show OwnK _ _ _ _ _ _
   rw [rowF_zero,HS.out.2.1]
   exact HO4.out
  clear HO4 B4 hg
  go_loopg [38] N (fun gg i wr=>∃ (k:Nat),k≤N∧gg=N - k∧i = .int .i64 (k:Int)∧Hid (OwnK .i64 46 wr g (.slice (some ⟨g,0,none⟩) N N) (rowF sV k))∧Hid (Below w.heap.size w wr∧Stay g w4 wr))
  case atStart=>exact ⟨0,by omega,by omega,by first|rfl|simp,HO5,HB4.out.1,Stay.refl _ _⟩
  case round=>
   obtain ⟨k,hk,hgg,rfl,HRk,hBS⟩:=hrel
   obtain ⟨R1,hR1⟩:∃ R1:World,R1=wr:=⟨_,rfl⟩
   subst hR1
   have xA:Cel R1 w.heap.size (.slice (some ⟨q,o,none⟩) n c) (.slice p2 n2 c2):=(XA.out.up HB4.out.2.1).stay hBS.out.2 (by have:=Hg.out;omega)
   have xR:Cel R1 (w.heap.size+1) (.slice none 0 0) (.slice none 0 0):=(XR.out.up HB4.out.2.1).stay hBS.out.2 (by have:=Hg.out;omega)
   have x6:Cel R1 g6 (.slice pa1 na1 ca_1) (.slice pb1 nb1 cb_1):=(HC6.out.up HB4.out.2.2).stay hBS.out.2 (by have:=Hg.out;omega)
   have o7:OwnK .i64 46 R1 W0.heap.size (.slice pb1 nb1 cb_1) VV:=(HO.out.2.1.up HB4.out.2.2).stay hBS.out.2 (HO.out.2.1.off_new (by have:=Hg.out;omega))
   have o6:OwnK .i64 3 R1 W0.heap.size (.slice pa1 na1 ca_1) (itl (lessN a s++[C])):=(HO.out.1.up HB4.out.2.2).stay hBS.out.2 (HO.out.1.off_new (by have:=Hg.out;omega))
   by_cases hkn:k < N
   ·have hk':(k:Int) < (N:Int):=by omega
    obtain ⟨Z,eZ⟩:=row_is pb1 k C cb_1
    obtain ⟨C1,eC1⟩:∃ C1,cb_1 - k*C=C1:=⟨_,rfl⟩
    rw [eC1] at eZ
    have nV:∀ W,Below R1.heap.size R1 W→Nums .i64 W (.slice Z C C1) ((List.range C).map fun j=>VV.getD (k*C+j) 0):=fun W hW=>by
     have:=row_nums N C k HS.out.2.2.1 hkn o7.cap (o7.up hW).nums
     rw [eZ] at this
     exact this
    have rV:RI ((List.range C).map fun j=>VV.getD (k*C+j) 0):=fun y hy=>by
     obtain ⟨i,_,rfl⟩:=List.mem_map.1 hy
     exact getD_inR HS.out.2.2.2.2.2.2.1 _
    have wT:=total_in rV (by rw [List.length_map,List.length_range];omega)
    have eT:hold (totalI ((List.range C).map fun j=>VV.getD (k*C+j) 0))=sV.getD k 0:=by
     rw [HS.out.1,sumV_at a s x k (by rw [HS.out.2.2.2.2.2.1];exact hkn),HS.out.2.2.2.2.1]
     unfold sumN totalI
     rw [List.length_map,List.length_range]
     congr 1
     refine sumI_congr C fun j hj=>?_
     rw [getD_map_range _ _ _ _ hj,HS.out.2.2.2.1 k j hkn hj]
    have cTo:Hid (∀ W,Below R1.heap.size R1 W→Calls Tryz.prog 116 #[.slice Z C C1] W fun e w'=>e = .returned (wd (totalI ((List.range C).map fun j=>VV.getD (k*C+j) 0)))∧Below W.heap.size W w'):=fun W hW=>total_any Z C C1 _ rV (by omega) W (nV W hW)
    have cFx:∀ W,Calls Tryz.prog 115 #[wd (totalI ((List.range C).map fun j=>VV.getD (k*C+j) 0))] W fun e w'=>e = .returned (.int .i64 (hold (totalI ((List.range C).map fun j=>VV.getD (k*C+j) 0))))∧Below W.heap.size W w':=fun W=>fix_any _ wT W
    rw [eT] at cFx
    obtain ⟨th,tl,et,t1,t2,t3,t4,Ht⟩:=words wT
    rw [et] at cTo cFx
    obtain ⟨Y,eY⟩:∃ Y,sV.getD k 0=Y:=⟨_,rfl⟩
    rw [eY] at cFx
    have HY:Hid (sV.getD k 0=Y):=eY
    have hA0:k*C+C≤N*C:=by have:=Nat.mul_le_mul_right C (show k+1≤N by omega);rw [Nat.add_mul,Nat.one_mul] at this;exact this
    obtain ⟨A,eA⟩:∃ A,k*C=A:=⟨_,rfl⟩
    obtain ⟨B,eB⟩:∃ B,(k+1)*C=B:=⟨_,rfl⟩
    have eA':(k:Int)*(C:Int)=(A:Int):=by rw [← eA];push_cast;rfl
    have eB':((k:Int)+1)*(C:Int)=(B:Int):=by rw [← eB];push_cast;rfl
    have hAB:A+C=B:=by rw [← eA,← eB,Nat.add_mul,Nat.one_mul]
    have hcap:=o7.cap
    have hlen:VV.length=nb1:=by obtain ⟨_,_,_,e4,H⟩:=o7.nums.lst;cases e4;exact H.out.1
    have hBb:B≤4096∧B≤nb1:=by
     have h1:=HS.out.2.2.2.2.2.2.2.2.2
     have h2:=HS.out.2.2.1
     rw [eA] at hA0
     omega
    rw [eA,eB] at eZ
    have kc:=fun W=>cutF_lh pb1 nb1 cb_1 A B (by omega) (by omega) W
    rw [eZ] at kc
    have hBb':(B:Int)≤4096∧0≤(A:Int)∧(A:Int)≤4096:=by omega
    obtain ⟨s0,s1,_,_⟩:=x6
    have s9:=cell_lt s0
    have HO7:=HRk
    clear eT et wT rV nV eZ eC1 eY hA0 eA eB hcap hlen hBb o7 o6 xA xR
    go_wp2_with fail
    refine (cTo.out R1 (Below.refl _ _)).mono ?_
    rintro e w6 ⟨rfl,hB6⟩
    have HB6:Hid (Below R1.heap.size R1 w6):=hB6
    clear hB6 cTo
    go_wp2_with fail
    refine (cFx w6).mono ?_
    rintro e w7 ⟨rfl,hB7⟩
    have HB7:Below R1.heap.size R1 w7:=bstep HB6.out hB7
    have HR2:=HRk.out.up HB7
    obtain ⟨hown,hfz⟩:=HR2.cell (by rw [rowF_len];exact HS.out.2.1) k hkn
    have lt2:=cell_lt hown
    have H5:Hid (OwnK .i64 46 (w7.setCell ⟨g,k,none⟩ (.int .i64 Y)) g (.slice (some ⟨g,0,none⟩) N N) (rowF sV (k+1))):=by
     have:=HR2.store (by rw [rowF_len];exact HS.out.2.1) k Y
     rw [← HY.out,rowF_set sV k (by rw [HS.out.2.1];exact hkn)] at this
     rw [← HY.out]
     exact this
    have hgw:w.heap.size≤g:=by have:=Hg.out;omega
    have H6:Hid (Below w.heap.size w (w7.setCell ⟨g,k,none⟩ (.int .i64 Y))∧Stay g w4 (w7.setCell ⟨g,k,none⟩ (.int .i64 Y))):=⟨(bstep hBS.out.1 HB7).setCell (p:=⟨g,k,none⟩) hgw _,(hBS.out.2.up HB7).set _ _⟩
    clear hB7 HB7 HR2 cFx s0 s1 s9
    go_wp2
    go_roundg (N - (k+1))
    case measure=>omega
    case rel=>exact ⟨k+1,by omega,rfl,by first|rfl|simp,H5,H6⟩
   ·obtain rfl:k=N:=by omega
    have hfin:=HRk.out
    rw [← HS.out.2.1,rowF_full,HS.out.2.1] at hfin
    have hlen:(itl (lessN a s++[C])).length=na1:=by obtain ⟨_,_,_,e4,H⟩:=o6.nums.lst;cases e4;exact H.out.1
    have hln:(lessN a s).length=n':=by
     have h1:=HS.out.2.2.2.2.2.2.2.1
     have h2:=HS.out.2.2.2.2.2.2.2.2.1
     have h3:=Hn.out
     simp only [lessN,List.length_append,List.length_take,List.length_drop]
     omega
    rw [itl_len,List.length_append,List.length_singleton,hln] at hlen
    obtain ⟨Z,eZ⟩:=sliced_is pa1 0 n' ca_1
    have kc:=fun W=>cutI_h pa1 na1 ca_1 n' (by have:=o6.cap;omega) W
    rw [eZ] at kc
    rw [Nat.sub_zero,Nat.sub_zero] at kc
    have oD:OwnK .i64 3 R1 W0.heap.size (.slice Z n' ca_1) (itl (lessN a s)):=by
     have:=o6.cut n' (show n'≤na1 by omega)
     rw [eZ,Nat.sub_zero,Nat.sub_zero] at this
     have e:(itl (lessN a s++[C])).take n'=itl (lessN a s):=by
      unfold itl
      rw [List.map_append,List.take_left' (by rw [List.length_map];exact hln)]
     rw [e] at this
     exact this
    have HF:Hid (TRes (set2 R1 (w.heap.size+1) (.slice Z n' ca_1) (.slice (some ⟨g,0,none⟩) k k)) w.heap.size (.agg #[.slice Z n' ca_1,.slice (some ⟨g,0,none⟩) k k]) (itl (lessN a s)) sV∧Below w.heap.size w (set2 R1 (w.heap.size+1) (.slice Z n' ca_1) (.slice (some ⟨g,0,none⟩) k k))):=
     ⟨⟨_,_,rfl,(oD.stay (Stay.set2 _ _ _) (oD.off (by have:=Hg.out;omega))).low (by have:=Hg.out;omega),(hfin.stay (Stay.set2 _ _ _) (hfin.off (by have:=Hg.out;omega))).low (by have:=Hg.out;omega)⟩,below_cell hBS.out.1 _ (by omega) _ _⟩
    have cf:=xR.set (.slice Z n' ca_1) (.slice (some ⟨g,0,none⟩) k k)
    obtain ⟨a0,a1,_,_⟩:=xA
    obtain ⟨s0,s1,_,_⟩:=x6
    obtain ⟨r0,r1,r2,r3⟩:=xR
    obtain ⟨y0,y1,_,_⟩:=cf
    have a9:=cell_lt a0
    have s9:=cell_lt s0
    clear hfin o6 o7 oD eZ hlen hln
    go_wp2
    exact bodyPost_ret (v:=.tuple #[.agg #[.slice Z n' ca_1,.slice (some ⟨g,0,none⟩) k k],.int .i64 0]) (by simp [results,Tryz.results93,go_sem,y0,y1]) rfl ⟨_,rfl,HF.out⟩
 ·obtain ⟨k1,k2,k3,k4,k5,k6⟩:=sm_none hs
  rw [HE.out.2.2.2.2.1,HE.out.1] at k4 k5 k6
  have hE:E=1:=by rw [← HE.out.2.1];exact k4
  have hv1:sE=1:=by rw [← HM.out.1];exact k1
  have hv2:sD = []:=by rw [← HM.out.2.1];exact k2
  have hv3:sV = []:=by rw [← HM.out.2.2];exact k3
  subst hE hv1 hv2 hv3
  clear k1 k2 k3 k4 k5 k6 hs
  have xr:=XR.out.up HBz.out.2
  have BF:=below_cell HBz.out.1 (w.heap.size+1) (by omega) (.slice none 0 0) (.slice none 0 0)
  have cf:=xr.set (.slice none 0 0) (.slice none 0 0)
  obtain ⟨r0,r1,r2,r3⟩:=xr
  obtain ⟨y0,y1,_,_⟩:=cf
  go_wp2
  exact bodyPost_ret (v:=.tuple #[.agg #[.slice none 0 0,.slice none 0 0],.int .i64 1]) (by simp [results,Tryz.results93,go_sem,y0,y1]) rfl ⟨_,rfl,TRes.none _ _,BF⟩
end Go.Proofs.YtihjnbbhpojnpaaGreatDoor.Wd
