/- The code's slices of shapes; outOf, canS -/
import Derived.Test.YtcpbhhlepdgdkaaGreatDoorT18
import Derived.Deep.RegionHeld3
set_option linter.unusedVariables false
set_option linter.unusedSimpArgs false
set_option maxHeartbeats 16000000
set_option maxRecDepth 16000
namespace Go.Proofs.YtcpbhhlepdgdkaaGreatDoor.Wd
open Go.RowKit
/-- A slice of slices of numbers. -/
def RdS (W:World) (p:Option Addr) (n:Nat) (S:List (List Int)):Prop:=S.length=n/\∀ i,i < n->∃ q o a b c,p=some ⟨q,o,none⟩/\W.cell? ⟨q,o+i,none⟩=some (.slice a b c)/\Nums .i64 W (.slice a b c) (shA S i)
theorem RdS.up {W W':World} {p:Option Addr} {n:Nat} {S:List (List Int)} (h:RdS W p n S) (D:Below W.heap.size W W'):RdS W' p n S:=⟨h.1,fun i H=>by
 obtain ⟨q,o,a,b,c,e,I,E⟩:=h.2 i H;exact ⟨q,o,a,b,c,e,a_h D I,E.up D⟩⟩
/-- A slice of slices of the call's own. -/
def OwnS (W:World) (B:Nat) (v:Value) (S:List (List Int)):Prop:=∃ vs,W.ownsRow B 22 1 v S.length vs/\∀ i,i < S.length->∃ a b c,vs[i]?=some (.slice a b c)/\OwnK .i64 3 W B (.slice a b c) (shA S i)
theorem OwnS.only {Q:List TypeId} {W W':World} {B:Nat} {v:Value} {S:List (List Int)} (h:OwnS W B v S) (D:Only Q W W') (M:22∉Q) (I:3∉Q):OwnS W' B v S:=by
 obtain ⟨vs,L,E⟩:=h
 exact ⟨vs,a_C L D M,fun i J=>by
  obtain ⟨a,b,c,e,H⟩:=E i J;exact ⟨a,b,c,e,H.only D I⟩⟩
theorem OwnS.up {W W':World} {B:Nat} {v:Value} {S:List (List Int)} (h:OwnS W B v S) (D:Below W.heap.size W W'):OwnS W' B v S:=h.only (Q:=[]) (Only.of D) (by simp) (by simp)
theorem OwnS.low {W:World} {B J:Nat} {v:Value} {S:List (List Int)} (h:OwnS W B v S) (I:J<=B):OwnS W J v S:=by
 obtain ⟨vs,H,M⟩:=h
 refine ⟨vs,⟨H.1,?_⟩,fun i R=>by
  obtain ⟨a,b,c,e,O⟩:=M i R;exact ⟨a,b,c,e,O.low I⟩⟩
 rcases H.2 with h|⟨g,D,E,L,V,U⟩
 ·exact .inl h
 ·exact .inr ⟨g,D,E,L,Nat.le_trans I V,U⟩
theorem OwnS.nil (W:World) (B:Nat):OwnS W B (.slice none 0 0) []:=⟨[],⟨rfl,.inl ⟨rfl,rfl⟩⟩,fun i D=>by simp at D⟩
theorem OwnS.rd {W:World} {B:Nat} {v:Value} {S:List (List Int)} (h:OwnS W B v S):∃ p c,v = .slice p S.length c/\RdS W p S.length S:=by
 obtain ⟨vs,I,J⟩:=h;have E:=I;rcases I.2 with ⟨rfl,O⟩|⟨g,D,M,rfl,V,R,U⟩
 ·exact ⟨none,0,by rw [O],rfl,fun i H=>by omega⟩
 ·refine ⟨_,D,rfl,rfl,fun i H=>?_⟩;obtain ⟨a,b,c,e,L⟩:=J i H;refine ⟨g,0,a,b,c,rfl,?_,L.nums⟩;have:=World.ownsRow.cells E rfl i _ e;rw [a_t] at this;exact this
def ParR (S:List (List Int)) (v:Value) (W:World):Prop:=∃ p c,v = .slice p S.length c/\RdS W p S.length S/\OwnS W 0 v S
theorem ParR.up {S:List (List Int)} {v:Value} {W W':World} (h:ParR S v W) (D:Below W.heap.size W W'):ParR S v W':=by
 obtain ⟨p,c,e,h,E⟩:=h;exact ⟨p,c,e,h.up D,E.up D⟩
theorem ParR.of {S:List (List Int)} {v:Value} {W:World} (h:OwnS W 0 v S):ParR S v W:=by
 obtain ⟨p,c,e,D⟩:=h.rd;exact ⟨p,c,e,D,h⟩
theorem ParR.nil (W:World):ParR [] (.slice none 0 0) W:=ParR.of (OwnS.nil W 0)
/-- A literal of numbers, of the call's own. -/
def LitO (l:List Int) (v:Value) (W:World):Prop:=∃ g,v = .slice (some ⟨g,0,none⟩) l.length l.length/\OwnK .i64 3 W 0 v l
theorem LitO.up {l:List Int} {v:Value} {W W':World} (h:LitO l v W) (D:Below W.heap.size W W'):LitO l v W':=by
 obtain ⟨g,e,h⟩:=h;exact ⟨g,e,h.up D⟩
theorem LitO.new (W:World) (l:List Int) (n:Nat) (h:l.length=n) (D:n<=1073741824):LitO l (.slice (some ⟨W.heap.size,0,none⟩) n n) (W.alloc (.cells (a_4 .i64 l).toArray 3)):=⟨_,by rw [h],(c_b W l n h D).low (Nat.zero_le _)⟩
theorem ParR.one {W:World} {a:List Int} {g:Nat} (h:OwnK .i64 3 W 0 (.slice (some ⟨g,0,none⟩) a.length a.length) a):ParR [a] (.slice (some ⟨W.heap.size,0,none⟩) 1 1) (W.alloc (.cells #[.slice (some ⟨g,0,none⟩) a.length a.length] 22)):=by
 refine ParR.of ⟨[.slice (some ⟨g,0,none⟩) a.length a.length],⟨rfl,.inr ⟨W.heap.size,1,#[.slice (some ⟨g,0,none⟩) a.length a.length],rfl,Nat.zero_le _,Array.getElem?_push_size,Nat.le_refl _,by unfold maxLen;omega,rfl,rfl⟩⟩,fun i D=>?_⟩;obtain rfl:i=0:=by simp at D;omega
 exact ⟨_,_,_,rfl,h.up (a_b W _)⟩
theorem ParR.two {W:World} {a b:List Int} {g D:Nat} (h:OwnK .i64 3 W 0 (.slice (some ⟨g,0,none⟩) a.length a.length) a) (E:OwnK .i64 3 W 0 (.slice (some ⟨D,0,none⟩) b.length b.length) b):ParR [a,b] (.slice (some ⟨W.heap.size,0,none⟩) 2 2) (W.alloc (.cells #[.slice (some ⟨g,0,none⟩) a.length a.length,.slice (some ⟨D,0,none⟩) b.length b.length] 22)):=by
 refine ParR.of ⟨[.slice (some ⟨g,0,none⟩) a.length a.length,.slice (some ⟨D,0,none⟩) b.length b.length],⟨rfl,.inr ⟨W.heap.size,2,#[.slice (some ⟨g,0,none⟩) a.length a.length,.slice (some ⟨D,0,none⟩) b.length b.length],rfl,Nat.zero_le _,Array.getElem?_push_size,Nat.le_refl _,by unfold maxLen;omega,rfl,rfl⟩⟩,fun i H=>?_⟩;rcases (show i=0∨i=1 by simp at H;omega) with rfl|rfl
 ·exact ⟨_,_,_,rfl,h.up (a_b W _)⟩
 ·exact ⟨_,_,_,rfl,E.up (a_b W _)⟩
theorem kts (s:ByteArray):(s.toList == [100,101,110,115,101])=decide (a_s s=0)/\(s.toList == [99,111,110,118])=decide (a_s s=1)/\(s.toList == [112,111,111,108])=decide (a_s s=2)/\(s.toList == [98,101,110,100])=decide (a_s s=3)/\(s.toList == [115,107,105,112])=decide (a_s s=4):=by
 have k:∀ j,j < 5->(s.toList==(b_K j).toList)=decide (a_s s=j):=fun j I=>by
  by_cases h:s=b_K j
  ·rw [(Lib.bytes_beq_iff _ _).2 h,decide_eq_true (m_0 s j I h.symm)]
  ·rw [p_y h,decide_eq_false fun e=>h (by rw [<- e];exact (i_g s (by omega)).symm)]
 have L:(b_K 0).toList = [100,101,110,115,101]:=by first|decide +kernel|simp [b_K,e_l]
 have H:(b_K 1).toList = [99,111,110,118]:=by first|decide +kernel|simp [b_K,i_1]
 have J:(b_K 2).toList = [112,111,111,108]:=by first|decide +kernel|simp [b_K,i_2]
 have E:(b_K 3).toList = [98,101,110,100]:=by first|decide +kernel|simp [b_K,i_3]
 have D:(b_K 4).toList = [115,107,105,112]:=by first|decide +kernel|simp [b_K,e_m]
 rw [<- L,<- H,<- J,<- E,<- D];exact ⟨k 0 (by omega),k 1 (by omega),k 2 (by omega),k 3 (by omega),k 4 (by omega)⟩
theorem c_Y (s:ByteArray):s=e_m↔a_s s=4:=⟨fun h=>by rw [h];decide +kernel,fun h=>by rw [<- i_g s (by omega),h];rfl⟩
theorem h_c {k:IntKind} {e:TypeId} (W:World) (l:List Int) (n g B:Nat) (h:l.length=n) (E:n<=1073741824) (H:W.heap.size=g) (D:B<=g):OwnK k e (W.alloc (.cells (a_4 k l).toArray e)) B (.slice (some ⟨g,0,none⟩) n n) l:=by
 subst H;exact (c_b W l n h E).low D
/-- What outOf hands back. -/
def OutR (x:Option (List Int)) (B:Nat) (v:Value) (W:World):Prop:=match x with
 | none=>v = .tuple #[.slice none 0 0,.bool false]
 | some o=>∃ p n c,v = .tuple #[.slice p n c,.bool true]/\OwnK .i64 3 W B (.slice p n c) o
theorem OutR.up {x:Option (List Int)} {B:Nat} {v:Value} {W W':World} (h:OutR x B v W) (D:Below W.heap.size W W'):OutR x B v W':=by
 cases x with
 | none=>exact h
 | some o=>
  obtain ⟨p,n,c,e,h⟩:=h;exact ⟨p,n,c,e,h.up D⟩
theorem m_2 (s:ByteArray) (a b:Int) (d:List Int) (hl:a_R (s,a,b)) (hd:InOk d) (p:Option Addr) (n c:Nat) (w:World) (hv:Nums .i64 w (.slice p n c) d):
  Calls Tryz.prog 66 #[.agg #[.string s,.int .i64 a,.int .i64 b],.slice p n c] w fun e w'=>∃ v',e = .returned v'/\OutR (d_F (s,a,b) d) w.heap.size v' w'/\Below w.heap.size w w':=by
 obtain ⟨x,L⟩:∃ x,d_F (s,a,b) d=x:=⟨_,rfl⟩
 rw [L];have HV:Hid (Nums .i64 w (.slice p n c) d):=hv;obtain ⟨_,_,_,e,R⟩:=hv.lst;cases e;clear hv;unfold d_F at L;obtain ⟨V,t1,t2,t3,t4⟩:=kts s;have ci:Hid (∀ W,Below w.heap.size w W->Calls Tryz.prog 64 #[.slice p n c] W fun e w'=>∃ v',e = .returned v'/\OwnK .i64 3 w' W.heap.size v' d/\Below W.heap.size W w'):=fun W hW=>b_j _ d (by have:=hd.smal.1;omega) W (HV.out.up hW);rcases a_L hl with ⟨-,k,h1,h2⟩|⟨-,k,h1,h2⟩|⟨-,k,h1,h2⟩|⟨-,k,h1,h2⟩|⟨-,k,h1,h2⟩ <;> simp only [] at k h1 h2 <;> rw [k] at L V t1 t2 t3 t4
 ·replace V:=V.trans (show decide ((0:Nat)=0)=true from rfl);rw [if_pos rfl] at L;subst L;clear t1 t2 t3 t4 k hl R;go_enter Tryz.func66,Tryz.ntmps66;go_wp2;go_ret2;exact ⟨_,rfl,⟨_,_,_,rfl,h_c (k:=.i64) (e:=3) _ [a] 1 _ _ rfl (by decide) (by simp) (by omega)⟩,by go_grown⟩
 ·replace V:=V.trans (show decide ((1:Nat)=0)=false from rfl);replace t1:=t1.trans (show decide ((1:Nat)=1)=true from rfl);rw [if_neg (by decide),if_pos rfl] at L;clear t2 t3 t4 k hl ci;rcases hd with ⟨y,rfl,hy⟩|⟨y,z,rfl,hy,hz⟩
  ·have hn:n=1:=R.out.1.symm;subst hn;rw [if_neg (by simp)] at L;subst L;go_enter Tryz.func66,Tryz.ntmps66;go_wp2;generalize D:World.alloc _ _=J;have ab:Below w.heap.size w J:=by rw [<- D];exact a_b w _
   obtain ⟨b1,b2⟩:J.cell? ⟨w.heap.size,1,none⟩=some (.int .i64 a)/\J.cell? ⟨w.heap.size,2,none⟩=some (.int .i64 b):=by rw [<- D];simp [go_sem]
   have H:Hid (Below w.heap.size w J):=ab;clear D ab;go_quiet (fail)
   go_wp2;go_ret2;exact ⟨_,rfl,rfl,a_m H.out _⟩
  ·have hn:n=2:=R.out.1.symm;subst hn;obtain ⟨q,o,rfl,c0⟩:=R.out.2 0 (by omega);obtain ⟨q',o',e,M⟩:=R.out.2 1 (by omega);cases e;simp only [List.getD_cons_zero,List.getD_cons_succ,Nat.add_zero] at c0 M;have hq:=a_g M;simp only [List.length_cons,List.length_nil,List.getD_cons_zero,List.getD_cons_succ] at L;by_cases ad:b<=z
   ·rw [if_pos ⟨trivial,ad⟩] at L;subst L;clear R HV c0;go_enter Tryz.func66,Tryz.ntmps66;go_wp2;generalize D:World.alloc _ _=J;have H:Hid (Below w.heap.size w J):=by rw [<- D];exact a_b w _
    obtain ⟨b1,b2⟩:J.cell? ⟨w.heap.size,1,none⟩=some (.int .i64 a)/\J.cell? ⟨w.heap.size,2,none⟩=some (.int .i64 b):=by rw [<- D];simp [go_sem]
    replace M:=a_h H.out M;clear D;go_quiet (fail)
    go_wp2;generalize O:World.drewN _ _=W1;have aa:Hid (Below w.heap.size w W1):=by rw [<- O];exact a_m H.out _
    obtain ⟨d1,d2,d3⟩:W1.cell? ⟨w.heap.size,1,none⟩=some (.int .i64 a)/\W1.cell? ⟨w.heap.size,2,none⟩=some (.int .i64 b)/\W1.cell? ⟨q,o+1,none⟩=some (.int .i64 z):=by rw [<- O];exact ⟨b1,b2,M⟩
    clear O b1 b2 M;go_region
    all_goals
     go_wp2;go_ret2;exact ⟨_,rfl,⟨_,_,_,rfl,h_c (k:=.i64) (e:=3) _ [a,z - b+1] 2 _ _ rfl (by decide) (by simp) aa.out.size⟩,by have:=aa.out;exact (g_f this _).trans ⟨rfl,rfl,rfl,Nat.le_refl _,fun _ _=>rfl⟩⟩
   ·rw [if_neg fun h=>ad h.2] at L;subst L;clear R HV c0;have af:z < b:=by omega
    go_enter Tryz.func66,Tryz.ntmps66;go_wp2;generalize D:World.alloc _ _=J;have H:Hid (Below w.heap.size w J):=by rw [<- D];exact a_b w _
    obtain ⟨b1,b2⟩:J.cell? ⟨w.heap.size,1,none⟩=some (.int .i64 a)/\J.cell? ⟨w.heap.size,2,none⟩=some (.int .i64 b):=by rw [<- D];simp [go_sem]
    replace M:=a_h H.out M;clear D;go_quiet (fail)
    go_wp2;go_ret2;exact ⟨_,rfl,rfl,a_m H.out _⟩
 ·replace V:=V.trans (show decide ((2:Nat)=0)=false from rfl);replace t1:=t1.trans (show decide ((2:Nat)=1)=false from rfl);replace t2:=t2.trans (show decide ((2:Nat)=2)=true from rfl);rw [if_neg (by decide),if_neg (by decide),if_pos rfl] at L;clear t3 t4 k hl ci h2;rcases hd with ⟨y,rfl,hy⟩|⟨y,z,rfl,hy,hz⟩
  ·have hn:n=1:=R.out.1.symm;subst hn;rw [if_neg (by simp)] at L;subst L;go_enter Tryz.func66,Tryz.ntmps66;go_wp2;generalize D:World.alloc _ _=J;have ab:Below w.heap.size w J:=by rw [<- D];exact a_b w _
   obtain ⟨b1,b2⟩:J.cell? ⟨w.heap.size,1,none⟩=some (.int .i64 a)/\J.cell? ⟨w.heap.size,2,none⟩=some (.int .i64 b):=by rw [<- D];simp [go_sem]
   have H:Hid (Below w.heap.size w J):=ab;clear D ab;go_quiet (fail)
   go_wp2;go_ret2;exact ⟨_,rfl,rfl,a_m H.out _⟩
  ·have hn:n=2:=R.out.1.symm;subst hn;obtain ⟨q,o,rfl,c0⟩:=R.out.2 0 (by omega);obtain ⟨q',o',e,M⟩:=R.out.2 1 (by omega);cases e;simp only [List.getD_cons_zero,List.getD_cons_succ,Nat.add_zero] at c0 M;have hq:=a_g M;simp only [List.length_cons,List.length_nil,List.getD_cons_zero,List.getD_cons_succ] at L;by_cases ad:a<=z
   ·rw [if_pos ⟨trivial,ad⟩] at L;subst L;clear R HV;obtain ⟨qq,ae⟩:∃ qq,Int.tdiv z a=qq:=⟨_,rfl⟩
    have ah:a≠0:=by omega
    have ag:0<=qq/\qq<=64:=by
     rw [<- ae,Int.tdiv_eq_ediv_of_nonneg (by omega)];exact ⟨Int.ediv_nonneg (by omega) (by omega),by have:=Int.ediv_le_self a (a:=z) (by omega);omega⟩
    rw [ae];go_enter Tryz.func66,Tryz.ntmps66;go_wp2;generalize D:World.alloc _ _=J;have H:Hid (Below w.heap.size w J):=by rw [<- D];exact a_b w _
    replace c0:=a_h H.out c0;obtain ⟨b1,b2⟩:J.cell? ⟨w.heap.size,1,none⟩=some (.int .i64 a)/\J.cell? ⟨w.heap.size,2,none⟩=some (.int .i64 b):=by rw [<- D];simp [go_sem]
    replace M:=a_h H.out M;clear D;go_quiet (fail)
    go_wp2;generalize O:World.drewN _ _=W1;have aa:Hid (Below w.heap.size w W1):=by rw [<- O];exact a_m H.out _
    obtain ⟨d1,d2,d3,d4⟩:W1.cell? ⟨w.heap.size,1,none⟩=some (.int .i64 a)/\W1.cell? ⟨w.heap.size,2,none⟩=some (.int .i64 b)/\W1.cell? ⟨q,o+1,none⟩=some (.int .i64 z)/\W1.cell? ⟨q,o,none⟩=some (.int .i64 y):=by rw [<- O];exact ⟨b1,b2,M,c0⟩
    clear O b1 b2 M c0;go_region
    all_goals
     go_wp2;go_ret2;exact ⟨_,rfl,⟨_,_,_,rfl,h_c (k:=.i64) (e:=3) _ [y,qq] 2 _ _ rfl (by decide) (by simp) aa.out.size⟩,by have:=aa.out;exact (g_f this _).trans ⟨rfl,rfl,rfl,Nat.le_refl _,fun _ _=>rfl⟩⟩
   ·rw [if_neg fun h=>ad h.2] at L;subst L;clear R HV c0;have af:z < a:=by omega
    go_enter Tryz.func66,Tryz.ntmps66;go_wp2;generalize D:World.alloc _ _=J;have H:Hid (Below w.heap.size w J):=by rw [<- D];exact a_b w _
    obtain ⟨b1,b2⟩:J.cell? ⟨w.heap.size,1,none⟩=some (.int .i64 a)/\J.cell? ⟨w.heap.size,2,none⟩=some (.int .i64 b):=by rw [<- D];simp [go_sem]
    replace M:=a_h H.out M;clear D;go_quiet (fail)
    go_wp2;go_ret2;exact ⟨_,rfl,rfl,a_m H.out _⟩
 ·replace V:=V.trans (show decide ((3:Nat)=0)=false from rfl);replace t1:=t1.trans (show decide ((3:Nat)=1)=false from rfl);replace t2:=t2.trans (show decide ((3:Nat)=2)=false from rfl);rw [if_neg (by decide),if_neg (by decide),if_neg (by decide)] at L;subst L;clear t3 t4 k hl R;go_enter Tryz.func66,Tryz.ntmps66;go_wp2_with fail
  generalize D:World.alloc _ _=J;have H:Hid (Below w.heap.size w J):=by rw [<- D];exact a_b w _
  clear D;refine (ci.out J H.out).mono ?_;rintro e w1 ⟨v1,rfl,U,ac⟩;obtain ⟨pa,na,ca,rfl,_⟩:=U.nums.lst;have HO:Hid (OwnK .i64 3 w1 J.heap.size (.slice pa na ca) d/\Below J.heap.size J w1):=⟨U,ac⟩
  clear U ac ci;go_wp2;go_ret2;exact ⟨_,rfl,⟨_,_,_,rfl,HO.out.1.low H.out.size⟩,a_c H.out HO.out.2⟩
 ·replace V:=V.trans (show decide ((4:Nat)=0)=false from rfl);replace t1:=t1.trans (show decide ((4:Nat)=1)=false from rfl);replace t2:=t2.trans (show decide ((4:Nat)=2)=false from rfl);rw [if_neg (by decide),if_neg (by decide),if_neg (by decide)] at L;subst L;clear t3 t4 k hl R;go_enter Tryz.func66,Tryz.ntmps66;go_wp2_with fail
  generalize D:World.alloc _ _=J;have H:Hid (Below w.heap.size w J):=by rw [<- D];exact a_b w _
  clear D;refine (ci.out J H.out).mono ?_;rintro e w1 ⟨v1,rfl,U,ac⟩;obtain ⟨pa,na,ca,rfl,_⟩:=U.nums.lst;have HO:Hid (OwnK .i64 3 w1 J.heap.size (.slice pa na ca) d/\Below J.heap.size J w1):=⟨U,ac⟩
  clear U ac ci;go_wp2;go_ret2;exact ⟨_,rfl,⟨_,_,_,rfl,HO.out.1.low H.out.size⟩,a_c H.out HO.out.2⟩
theorem d_n (s:ByteArray) (a b:Int) (d:List Int) (hl:a_R (s,a,b)) (hd:InOk d) (E:a_s s=1->d.length=2) (p:Option Addr) (n c:Nat) (w:World) (hv:Nums .i64 w (.slice p n c) d):
  Calls Tryz.prog 48 #[.agg #[.string s,.int .i64 a,.int .i64 b],.slice p n c] w fun e w'=>∃ v',e = .returned v'/\ParR (c_w (s,a,b) d) v' w'/\Below w.heap.size w w':=by
 haveI:Nonempty World:=⟨w⟩
 obtain ⟨x,H⟩:∃ x,c_w (s,a,b) d=x:=⟨_,rfl⟩
 rw [H];have HV:Hid (Nums .i64 w (.slice p n c) d):=hv;obtain ⟨_,_,_,e,HC⟩:=hv.lst;cases e;clear hv;unfold c_w at H;obtain ⟨L,O,-,-,-⟩:=kts s;rcases (show a_s s=0∨a_s s=1∨(a_s s≠0/\a_s s≠1) by omega) with k|k|⟨k,k'⟩
 ·rw [k] at H L O;replace L:=L.trans (show decide ((0:Nat)=0)=true from rfl);rw [if_pos rfl] at H;simp only [] at H;obtain ⟨r,er⟩:∃ r,a_u d=r:=⟨_,rfl⟩
  have cs:Hid (∀ W,Below w.heap.size w W->Calls Tryz.prog 34 #[.slice p n c] W fun e w'=>e = .returned (.int .i64 r)/\w'=W):=fun W hW=>by
   rw [<- er];exact d_m _ d hd.smal W (HV.out.up hW)
  rw [er] at H;subst H;clear O k hl HC E hd er;go_enter Tryz.func48,Tryz.ntmps48;go_wp2;generalize D:World.alloc _ _=W0;have I:Hid (Below w.heap.size w W0):=by rw [<- D];exact a_b w _
  have b1:W0.cell? ⟨w.heap.size,1,none⟩=some (.int .i64 a):=by rw [<- D];simp [go_sem]
  have hz:=a_g b1;clear D;refine rel [⟨4,13,LitO [a,r]⟩,⟨7,16,LitO [a]⟩,⟨8,17,ParR [[a,r],[a]]⟩] 9 29 (by kernel_rfl) rfl rfl (by kernel_rfl) (by rfl) ?_ ?_
  ·intro e he v W W' h hb;simp only [List.mem_cons,List.not_mem_nil,or_false] at he;rcases he with rfl|rfl|rfl
   ·exact LitO.up h hb
   ·exact LitO.up h hb
   ·exact ParR.up h hb
  apply Exists.intro;refine ⟨fun x=>?_,?_,?_⟩
  ·simp only [List.take_succ_cons,List.take_zero]
   iterate 3
    refine a_l rfl rfl ?_;apply Exists.intro;refine ⟨fun F hF hf K hK=>?_,?_⟩
    ·have hFc:=hF.cell;have hFf:=hF.frozen
     go_big_quiet_op
     first|exact hK|(apply Exists.intro;refine ⟨fun _=>?_,?_⟩;(· fail);exact hK)
    (try simp only [Act.put,sA_,sB_,sC_])
   refine a_l rfl rfl ?_;apply Exists.intro;refine ⟨fun F hF hf K hK=>?_,?_⟩
   ·have hFc:=hF.cell;have hFf:=hF.frozen
    go_big_quiet_op
    first|exact hK|(apply Exists.intro;refine ⟨fun _=>?_,?_⟩;(· exact hF.same (cs.out _ (a_c I.out (hF.below _))));exact hK)
   (try simp only [Act.put,sA_,sB_,sC_])
   refine a_q rfl rfl ?_ ?_
   ·intro F hF hf d;have hFc:=hF.cell;have hFf:=hF.frozen;simp [a_k,a_f,go_sem];exact ⟨LitO.new (F d) [a,r] 2 rfl (by decide),a_b _ _⟩
   iterate 2
    (try simp only [Act.put,sA_,sB_,sC_])
    refine a_l rfl rfl ?_;apply Exists.intro;refine ⟨fun F hF hf K hK=>?_,?_⟩
    ·have hFc:=hF.cell;have hFf:=hF.frozen
     go_big_quiet_op
     first|exact hK|(apply Exists.intro;refine ⟨fun _=>?_,?_⟩;(· fail);exact hK)
   (try simp only [Act.put,sA_,sB_,sC_])
   refine a_q rfl rfl ?_ ?_
   ·intro F hF hf d;have hFc:=hF.cell;have hFf:=hF.frozen;simp [a_k,a_f,go_sem];exact ⟨LitO.new (F d) [a] 1 rfl (by decide),a_b _ _⟩
   (try simp only [Act.put,sA_,sB_,sC_])
   refine a_q rfl rfl ?_ ?_
   ·intro F hF hf d;have hFc:=hF.cell;have hFf:=hF.frozen;have h9:=hf _ List.mem_cons_self (by rfl) d;have h8:=hf _ (List.mem_cons_of_mem _ List.mem_cons_self) (by rfl) d;obtain ⟨g9,U,M⟩:=h9;obtain ⟨g8,e8,n8⟩:=h8;simp only [] at U M e8 n8;rw [U] at M;rw [e8] at n8;simp [a_k,a_f,go_sem,U,e8];exact ⟨ParR.two M n8,a_b _ _⟩
   (try simp only [Act.put,sA_,sB_,sC_])
   refine b_c ?_;exact rfl
  ·exact fun x=>rfl
  ·intro w9 xs J hf;simp only [List.drop_succ_cons,List.drop_zero];have R:=hf _ (List.mem_cons_of_mem _ (List.mem_cons_of_mem _ List.mem_cons_self));simp only [] at R;have H7:Hid (ParR [[a,r],[a]] (xs 8) w9/\Below w.heap.size w w9):=⟨R,a_c I.out J⟩
   obtain ⟨p7,c7,e7,_⟩:=R;generalize xs 8=v8 at H7 e7 ⊢;subst e7;clear hf J cs b1;go_wp2;go_ret;exact ⟨_,rfl,H7.out⟩
 ·rw [k] at H L O;replace L:=L.trans (show decide ((1:Nat)=0)=false from rfl);replace O:=O.trans (show decide ((1:Nat)=1)=true from rfl);rw [if_neg (by decide),if_pos rfl] at H;simp only [] at H
  obtain ⟨y,z,rfl⟩:∃ y z,d = [y,z]:=by
   have:=E k
   match d with
   | [y,z]=>exact ⟨y,z,rfl⟩
  have hn:n=2:=HC.out.1.symm;subst hn;obtain ⟨q,o,rfl,V⟩:=HC.out.2 0 (by omega);simp only [List.getD_cons_zero,Nat.add_zero] at V H;subst H;clear HC HV E k hd hl;go_enter Tryz.func48,Tryz.ntmps48;go_wp2;generalize D:World.alloc _ _=W0;have I:Hid (Below w.heap.size w W0):=by rw [<- D];exact a_b w _
  have b1:W0.cell? ⟨w.heap.size,1,none⟩=some (.int .i64 a):=by rw [<- D];simp [go_sem]
  have b2:W0.cell? ⟨w.heap.size,2,none⟩=some (.int .i64 b):=by rw [<- D];simp [go_sem]
  replace V:=a_h I.out V;have hz:=a_g b1;have aa:=a_g V;clear D;refine rel [⟨7,27,LitO [a,y,b]⟩,⟨8,28,ParR [[a,y,b]]⟩] 9 29 (by kernel_rfl) rfl rfl (by kernel_rfl) (by rfl) ?_ ?_
  ·intro e he v W W' h hb;simp only [List.mem_cons,List.not_mem_nil,or_false] at he;rcases he with rfl|rfl
   ·exact LitO.up h hb
   ·exact ParR.up h hb
  apply Exists.intro;refine ⟨fun x=>?_,?_,?_⟩
  ·simp only [List.take_succ_cons,List.take_zero]
   iterate 7
    refine a_l rfl rfl ?_;apply Exists.intro;refine ⟨fun F hF hf K hK=>?_,?_⟩
    ·have hFc:=hF.cell;have hFf:=hF.frozen
     go_big_quiet_op
     first|exact hK|(apply Exists.intro;refine ⟨fun _=>?_,?_⟩;(· fail);exact hK)
    (try simp only [Act.put,sA_,sB_,sC_])
   refine a_q rfl rfl ?_ ?_
   ·intro F hF hf d;have hFc:=hF.cell;have hFf:=hF.frozen;simp [a_k,a_f,go_sem];exact ⟨LitO.new (F d) [a,y,b] 3 rfl (by decide),a_b _ _⟩
   (try simp only [Act.put,sA_,sB_,sC_])
   refine a_q rfl rfl ?_ ?_
   ·intro F hF hf d;have hFc:=hF.cell;have hFf:=hF.frozen;have h9:=hf _ List.mem_cons_self (by rfl) d;obtain ⟨g9,U,M⟩:=h9;simp only [] at U M;rw [U] at M;simp [a_k,a_f,go_sem,U];exact ⟨ParR.one M,a_b _ _⟩
   (try simp only [Act.put,sA_,sB_,sC_])
   refine b_c ?_;exact rfl
  ·exact fun x=>rfl
  ·intro w9 xs J hf;simp only [List.drop_succ_cons,List.drop_zero];have R:=hf _ (List.mem_cons_of_mem _ List.mem_cons_self);simp only [] at R;have H7:Hid (ParR [[a,y,b]] (xs 8) w9/\Below w.heap.size w w9):=⟨R,a_c I.out J⟩
   obtain ⟨p7,c7,e7,_⟩:=R;generalize xs 8=v8 at H7 e7 ⊢;subst e7;clear hf J b1 b2 V;go_wp2;go_ret;exact ⟨_,rfl,H7.out⟩
 ·replace L:=L.trans (decide_eq_false k);replace O:=O.trans (decide_eq_false k');rw [if_neg k,if_neg k'] at H;subst H;clear k k' hl hd E HC HV;go_enter Tryz.func48,Tryz.ntmps48;go_wp2;go_ret;exact ⟨_,rfl,ParR.nil _,a_b w _⟩
theorem i_4 (p2 ps:Option Addr) (M c2 ns cs:Nat) (ls:List Ly) (S:List (List Int)) (i:Nat) (hi:i < ns) (ac:i < M) (aa:M<=1073741824) (D:∀ k,k < ns->(shA S k).length<=4) (w:World) (O:LyR 0 w p2 M ls) (J:RdS w ps ns S):
  Calls Tryz.prog 65 #[.slice p2 M c2,.slice ps ns cs,.int .i64 (i:Int)] w fun e R=>e = .returned (.bool (decide (c_1 ls S i)))/\∃ m,R=w.drewN m:=by
 obtain ⟨r,V⟩:∃ r,decide (c_1 ls S i)=r:=⟨_,rfl⟩
 have E:Hid (decide (c_1 ls S i)=r):=V;rw [V];clear V;cases i with
 | zero=>
  have e:r=false:=by rw [<- E.out];exact decide_eq_false fun h=>absurd h.1 (by omega)
  subst e;clear O J D E;rw [show ((0:Nat):Int)=0 from rfl];go_enter Tryz.func65,Tryz.ntmps65;go_wp2;go_quiet (fail)
  go_wp2;go_ret;exact ⟨rfl,_,rfl⟩
 | succ j=>
  rw [show ((j+1:Nat):Int)=(j:Int)+1 by omega];obtain ⟨q,o,rfl,c0,-,-⟩:=O.2 j (by omega);obtain ⟨x,L⟩:∃ x,(lyA ls j).1=x:=⟨_,rfl⟩
  rw [L] at c0;obtain ⟨-,-,-,-,I⟩:=kts x;have ah:(0:Int) < (j:Int)+1:=by omega
  have af:(j:Int) < (M:Int):=by omega
  have ag:(j:Int)+1 < (ns:Int):=by omega
  have ab:(j:Int) < (ns:Int):=by omega
  have ad:(j:Int)+1<=9223372036854775807:=by omega
  have ae:IntKind.i64.wrap (j:Int)=(j:Int):=by rw [IntKind.wrap_i64];omega
  by_cases H:a_s x=4
  ·have e:r=false:=by rw [<- E.out];exact decide_eq_false fun h=>h.2.1 (by simp only [Nat.add_sub_cancel];rw [L];exact (c_Y x).2 H)
   subst e;replace I:=I.trans (decide_eq_true H);have t5:(x.toList != [115,107,105,112])=false:=by rw [bne,I];rfl
   clear O J D E L H;go_enter Tryz.func65,Tryz.ntmps65;go_wp2;go_quiet (fail)
   go_wp2;go_ret;exact ⟨rfl,_,rfl⟩
  ·replace I:=I.trans (decide_eq_false H);have t5:(x.toList != [115,107,105,112])=true:=by rw [bne,I];rfl
   obtain ⟨q1,o1,a1,b1,d1,rfl,s1,m1⟩:=J.2 j (by omega);obtain ⟨q2,o2,a2,b2,d2,e2,s2,m2⟩:=J.2 (j+1) hi;cases e2
   have ce:Hid (∀ m,Calls Tryz.prog 83 #[.slice a1 b1 d1,.slice a2 b2 d2] (w.drewN m) fun e R=>e = .returned (.bool r)/\∃ U,R=w.drewN U):=fun m=>by
    have hB:Below w.heap.size w (w.drewN m):=a_m (Below.refl _ _) m
    have hr:decide (shA S j=shA S (j+1))=r:=by
     rw [<- E.out];exact decide_eq_decide.2 ⟨fun h=>⟨by omega,by simp only [Nat.add_sub_cancel];rw [L];exact fun h=>H ((c_Y x).1 h),h⟩,fun h=>h.2.2⟩
    have:=f_g _ _ (shA S j) (shA S (j+1)) (by have:=D j (by omega);omega) _ (m1.up hB) (m2.up hB);rw [hr] at this;exact this.mono fun e R ⟨h1,U,h2⟩=>⟨h1,m+U,by rw [h2,l_w]⟩
   clear O J D E L H m1 m2;go_enter Tryz.func65,Tryz.ntmps65;go_wp2;go_quiet (with_reducible exact ce.out _)
   go_wp2;go_ret;exact ⟨rfl,_,rfl⟩
/-- Is a shape of a row of them too great? -/
theorem o_N {S:List (List Int)} {n:Nat} (H:S.length=n) (h:∀ i,i < n->decide (4096 < a_u (shA S i))=false):i_t S=false:=by
 unfold i_t;rw [List.any_eq_false];intro s D;obtain ⟨i,E,rfl⟩:=List.getElem_of_mem D;have:=h i (by omega);unfold shA at this;rw [List.getD_eq_getElem?_getD,List.getElem?_eq_getElem E] at this;simpa using this
theorem q_1 {S:List (List Int)} {i:Nat} (h:i < S.length):shA S i∈S:=by
 unfold shA;rw [List.getD_eq_getElem?_getD,List.getElem?_eq_getElem h];exact List.getElem_mem _
theorem q_2 {S:List (List Int)} {i:Nat} (D:i < S.length) (h:decide (4096 < a_u (shA S i))=true):i_t S=true:=by
 unfold i_t;rw [List.any_eq_true];exact ⟨_,q_1 D,h⟩
theorem k_Y (p:Option Addr) (n c:Nat) (S:List (List Int)) (H:∀ i,i < n->k_V (shA S i)) (hn:n<=2147483648) (w:World) (O:RdS w p n S):
  Calls Tryz.prog 84 #[.slice p n c,.func (.func 68) #[] #[]] w fun e w'=>∃ x:Int,e = .returned (.int .i64 x)/\decide (0<=x)=i_t S/\w'=w:=by
 have V:∀ args W,(callFunc 68 args).run Tryz.prog W = .ok (.enter 68 args) W:=by intro args W;kernel_rfl
 have J:Hid (RdS w p n S):=O;have HM:Hid (∀ i,i < n->k_V (shA S i)):=H;clear O H;go_enter Tryz.func84,Tryz.ntmps84;go_wp2_with fail
 go_loopg [8] n (fun gg v wr=>∃ (k:Nat),k<=n/\gg=n - k/\v = .int .i64 (k:Int)/\Hid (∀ i,i < k->decide (4096 < a_u (shA S i))=false)/\wr=w)
 case atStart=>exact ⟨0,by omega,by omega,rfl,fun i R=>by omega,rfl⟩
 case round=>
  obtain ⟨k,hk,hg,rfl,Hx,rfl⟩:=hrel;by_cases E:k < n
  ·have aa:(k:Int) < (n:Int):=by omega
   obtain ⟨q,o,a,b,d,rfl,s1,U⟩:=J.out.2 k E;obtain ⟨M,D⟩:∃ M,decide (4096 < a_u (shA S k))=M:=⟨_,rfl⟩
   have L:=o_L _ _ (HM.out k E) wr U;rw [D] at L;clear U;go_wp2_with fail
   refine L.mono ?_;rintro e w1 ⟨rfl,rfl⟩;clear L;cases M with
   | true=>
    have I:Hid (i_t S=true):=q_2 (by rw [J.out.1];exact E) D;clear D;go_wp2;go_ret;exact ⟨_,rfl,by rw [I.out];simp,rfl⟩
   | false=>
    have HN:Hid (∀ i,i < k+1->decide (4096 < a_u (shA S i))=false):=fun i R=>by
     rcases Nat.lt_succ_iff_lt_or_eq.1 R with h2|rfl
     ·exact Hx.out i h2
     ·exact D
    clear D;go_wp2;go_roundg (n - (k+1))
    case measure=>omega
    case rel=>exact ⟨k+1,by omega,rfl,by first|rfl|simp,HN,rfl⟩
  ·obtain rfl:k=n:=by omega
   have I:Hid (i_t S=false):=o_N J.out.1 Hx.out;go_wp2;go_ret;exact ⟨_,rfl,by rw [I.out];rfl,rfl⟩
theorem e_p (p:Option Addr) (n c:Nat) (S:List (List Int)) (D:∀ i,i < n->k_V (shA S i)) (L:n<=2147483648) (w:World) (I:RdS w p n S):
  Calls Tryz.prog 67 #[.slice p n c,.func (.func 68) #[] #[]] w fun e O=>e = .returned (.bool (i_t S))/\O=w:=by
 have E:=k_Y p n c S D L w I;obtain ⟨r,H⟩:∃ r,i_t S=r:=⟨_,rfl⟩
 rw [H] at E ⊢;clear I D H;go_enter Tryz.func67,Tryz.ntmps67;go_wp2_with fail
 refine E.mono ?_;rintro e R ⟨x,rfl,J,rfl⟩;have M:Hid (decide (0<=x)=r):=J;clear E J;go_wp2;go_ret;rw [<- M.out];exact ⟨rfl,rfl⟩
/-- What a good net's shapes are, as the walks below want them. -/
structure NetOk (d:List Int) (ls:List Ly) (S:List (List Int)):Prop where
 lay:∀ k,k < ls.length->a_R (lyA ls k)
 inn:∀ k,k < ls.length->InOk (shA S k)
 fit:∀ k,k < ls.length->a_s (lyA ls k).1=1->(shA S k).length=2
 len:S.length=ls.length+1
theorem q_3 {l:Ly} {d o:List Int} (h:d_F l d=some o) (D:a_s l.1=1):d.length=2:=by
 unfold d_F at h;rw [D] at h;simp at h;exact h.1.1
theorem i_5 {d:List Int} {ls:List Ly}:∀ {n i:Nat} {S:List (List Int)},shN d ls n=some S->i<=n->∃ E,shN d ls i=some E/\∀ k,k < i+1->shA S k=shA E k
 | 0,i,S,h,hi=>by
  obtain rfl:i=0:=by omega
  exact ⟨S,h,fun _ _=>rfl⟩
 | n+1,i,S,h,hi=>by
  rcases Nat.lt_or_ge i (n+1) with J|J
  ·cases D:shN d ls n with
   | none=>rw [b_o D (Nat.le_succ n)] at h;cases h
   | some S0=>
    rw [a_G D] at h;obtain ⟨o,rfl,_⟩:=e_n h;obtain ⟨E,I,H⟩:=i_5 D (show i<=n by omega);exact ⟨E,I,fun k L=>by rw [d_X _ (by rw [c_W D];omega)];exact H k L⟩
  ·obtain rfl:i=n+1:=by omega
   exact ⟨S,h,fun _ _=>rfl⟩
theorem NetOk.of {d:List Int} {ls:List Ly} {S:List (List Int)} (hf:b_L d ls=true) (h:shN d ls ls.length=some S):NetOk d ls S:=by
 obtain ⟨O,H⟩:=(c_j d ls).1 hf;refine ⟨fun k E=>H _ (d_W E),fun k E=>e_o O H (Nat.le_refl _) h k (by omega),fun k E M=>?_,c_W h⟩;obtain ⟨U,D,J⟩:=i_5 h (show k+1<=ls.length by omega);obtain ⟨R,I,g0⟩:=i_5 D (show k<=k+1 by omega);rw [a_G I] at D;obtain ⟨o,_,L⟩:=e_n D;rw [J k (by omega),g0 k (by omega)];exact q_3 L M
theorem f_T {l:Ly} {d:List Int} (U:a_R l) (M:InOk d):∀ i,i < (c_w l d).length->k_V (shA (c_w l d) i):=by
 have R:=M.prod;unfold c_w;rcases a_L U with ⟨-,k,E,I⟩|⟨-,k,E,I⟩|⟨-,k,E,I⟩|⟨-,k,E,I⟩|⟨-,k,E,I⟩ <;> rw [k] <;> intro i O <;> simp at O
 ·have:=a_3 E R;rcases (show i=0∨i=1 by omega) with rfl|rfl
  ·refine ⟨by simp [shA],fun k H=>?_⟩;rcases (show k=0∨k=1∨k=2 by simp [shA] at H;omega) with rfl|rfl|rfl <;> simp [shA,a_u] <;> (try change _<=l.2.1*a_u d/\l.2.1*a_u d<=_) <;> omega
  ·refine ⟨by simp [shA],fun k H=>?_⟩;rcases (show k=0∨k=1 by simp [shA] at H;omega) with rfl|rfl <;> simp [shA,a_u] <;> omega
 ·subst O;have L:0<=d.getD 0 0/\d.getD 0 0<=1024:=by rcases M with ⟨x,rfl,h⟩|⟨x,y,rfl,V,hy⟩ <;> simp <;> omega
  have D:0<=l.2.1*d.getD 0 0/\l.2.1*d.getD 0 0<=16*1024:=⟨Int.mul_nonneg (by omega) (by omega),Int.mul_le_mul E.2 L.2 L.1 (by omega)⟩
  have J:0<=l.2.1*d.getD 0 0*l.2.2/\l.2.1*d.getD 0 0*l.2.2<=16*1024*16:=⟨Int.mul_nonneg D.1 (by omega),Int.mul_le_mul D.2 I.2 (by omega) (by omega)⟩
  simp only [if_neg (show ¬ (1:Nat)=0 by omega),if_true];refine ⟨by simp [shA],fun k H=>?_⟩;generalize d.getD 0 0=e at L D J H ⊢;rcases (show k=0∨k=1∨k=2∨k=3 by simp [shA] at H;omega) with rfl|rfl|rfl|rfl <;> simp [shA,a_u] <;> omega
def d_Z (P:List (List Int)):Nat->Int
 | 0=>0
 | j+1=>d_Z P j+a_u (shA P j)
theorem e_4 {l:Ly} {d:List Int}:d_Z (c_w l d) (c_w l d).length=psz l d:=by
 unfold c_w psz;by_cases D:a_s l.1=0
 ·rw [if_pos D,if_pos D];simp [d_Z,shA,c_F,c_E]
 rw [if_neg D,if_neg D];by_cases E:a_s l.1=1
 ·rw [if_pos E,if_pos E];simp [d_Z,shA,c_X]
 ·rw [if_neg E,if_neg E];rfl
theorem k_i {l:Ly} {d:List Int} (L:a_R l) (M:InOk d):∀ j,j<=(c_w l d).length->0<=d_Z (c_w l d) j/\d_Z (c_w l d) j<=1049600:=by
 intro j D;have H:=e_G M L;rw [<- e_4] at H;have O:=M.prod;unfold c_w at D H ⊢;by_cases J:a_s l.1=0
 ·rw [if_pos J] at D H ⊢;rcases a_L L with ⟨-,k,E,I⟩|⟨-,k,E,I⟩|⟨-,k,E,I⟩|⟨-,k,E,I⟩|⟨-,k,E,I⟩ <;> rw [J] at k <;> try cases k
  have:=a_3 E O;rcases (show j=0∨j=1∨j=2 by simp at D;omega) with rfl|rfl|rfl <;> simp [d_Z,shA,c_F,c_E] <;> omega
 rw [if_neg J] at D H ⊢;by_cases E:a_s l.1=1
 ·rw [if_pos E] at D H ⊢;rcases (show j=0∨j=1 by simp at D;omega) with rfl|rfl
  ·simp [d_Z]
  ·exact H
 ·rw [if_neg E] at D H ⊢;obtain rfl:j=0:=by simp at D;omega
  simp [d_Z]
theorem e_5 (l:Ly) (d:List Int):(c_w l d).length<=2:=by
 unfold c_w
 split
 ·simp
 split <;> simp
theorem c_k (p p2 ps:Option Addr) (n c H c2 ns cs:Nat) (d:List Int) (ls:List Ly) (S:List (List Int)) (ok:NetOk d ls S) (av:H<=1073741824) (w:World) (hL:LyR 0 w p2 H ls) (hS:RdS w ps ns S):
  Calls Tryz.prog 33 #[.agg #[.slice p n c,.slice p2 H c2],.slice ps ns cs] w fun e w'=>e = .returned (.int .i64 (c_a ls S ls.length))/\Below w.heap.size w w':=by
 haveI:Nonempty World:=⟨w⟩
 obtain ⟨r,er⟩:∃ r,c_a ls S ls.length=r:=⟨_,rfl⟩
 have HR:Hid (c_a ls S ls.length=r):=er;have M:Hid (NetOk d ls S/\LyR 0 w p2 H ls/\RdS w ps ns S):=⟨ok,hL,hS⟩
 have am:ns=H+1:=by rw [<- hS.1,ok.len,hL.1]
 subst am;rw [er];clear er ok hL hS;go_enter Tryz.func33,Tryz.ntmps33;go_wp2_with fail
 generalize ac:World.alloc _ _=W0;have ao:Hid (Below w.heap.size w W0):=by rw [<- ac];exact a_b w _
 clear ac
 go_loopg [5,13] H (fun gg u v wr=>∃ (k:Nat) (x:Int),k<=H/\gg=H - k/\u = .int .i64 x/\v = .int .i64 (k:Int)/\Hid (x=c_a ls S k)/\Hid (Below w.heap.size w wr))
 case atStart=>exact ⟨0,0,by omega,by omega,rfl,rfl,rfl,ao⟩
 case round=>
  obtain ⟨k,x,hk,hg,rfl,rfl,Hx,HB⟩:=hrel;by_cases ab:k < H
  ·have ax:(k:Int) < (H:Int):=by omega
   have ay:(k:Int) < ((H+1:Nat):Int):=by omega
   have O:k < ls.length:=by rw [M.out.2.1.1];exact ab
   obtain ⟨q,o,rfl,c0,c1,c2⟩:=(M.out.2.1.up HB.out).2 k ab;obtain ⟨q3,o3,a3,b3,d3,rfl,s3,m3⟩:=(M.out.2.2.up HB.out).2 k (by omega);have hl:=M.out.1.lay k O;have hi:=M.out.1.inn k O;have I:=M.out.1.fit k O;have ai:=h_a (ls:=ls) (S:=S) (i:=k) (fun j hj=>M.out.1.inn j (by omega)) (fun j hj=>M.out.1.lay j (by omega));rw [<- Hx.out] at ai;have az:0<=x/\x<=1127000000000000:=by omega
   obtain ⟨l,el⟩:∃ l,lyA ls k=l:=⟨_,rfl⟩
   obtain ⟨dd,ed⟩:∃ dd,shA S k=dd:=⟨_,rfl⟩
   have HN:Hid (x+psz l dd=c_a ls S (k+1)):=by show _=_;rw [Hx.out,<- el,<- ed];rfl
   rw [el] at c0 c1 c2 hl I;rw [ed] at hi m3 I;obtain ⟨s,a,b⟩:=l;simp only [] at c0 c1 c2 I;have aA:=a_g c0;obtain ⟨PP,eP⟩:∃ PP,c_w (s,a,b) dd=PP:=⟨_,rfl⟩
   have HP:Hid (d_Z PP PP.length=psz (s,a,b) dd/\(∀ j,j<=PP.length->0<=d_Z PP j/\d_Z PP j<=1049600)/\(∀ j,j < PP.length->k_V (shA PP j))/\PP.length<=2):=by
    rw [<- eP];exact ⟨e_4,k_i hl hi,f_T hl hi,e_5 _ _⟩
   have cp:Hid (∀ W,Below wr.heap.size wr W->Calls Tryz.prog 48 #[.agg #[.string s,.int .i64 a,.int .i64 b],.slice a3 b3 d3] W fun e w'=>∃ v',e = .returned v'/\ParR PP v' w'/\Below W.heap.size W w'):=fun W hW=>by
    rw [<- eP];exact d_n s a b dd hl hi I a3 b3 d3 W (m3.up hW)
   clear hl hi I ai m3 el ed eP;go_wp2;generalize V:World.alloc _ _=W1;have U:Hid (Below wr.heap.size wr W1):=by rw [<- V];exact a_b wr _
   obtain ⟨e0,e1,e2⟩:W1.cell? ⟨wr.heap.size,0,none⟩=some (.string s)/\W1.cell? ⟨wr.heap.size,1,none⟩=some (.int .i64 a)/\W1.cell? ⟨wr.heap.size,2,none⟩=some (.int .i64 b):=by rw [<- V];simp [go_sem]
   replace s3:=a_h U.out s3;have ar:=a_g e0;have aq:=a_g s3;clear V c0 c1 c2;refine rel [⟨5,23,ParR PP⟩] 8 36 (by kernel_rfl) rfl rfl (by kernel_rfl) (by rfl) ?_ ?_
   ·intro e he v W W' h hb;simp only [List.mem_cons,List.not_mem_nil,or_false] at he;subst he;exact ParR.up h hb
   apply Exists.intro;refine ⟨fun x=>?_,?_,?_⟩
   ·simp only [List.take_succ_cons,List.take_zero]
    iterate 5
     refine a_l rfl rfl ?_;apply Exists.intro;refine ⟨fun F hF hf K hK=>?_,?_⟩
     ·have hFc:=hF.cell;have hFf:=hF.frozen
      go_big_quiet_op
      first|exact hK|(apply Exists.intro;refine ⟨fun _=>?_,?_⟩;(· fail);exact hK)
     (try simp only [Act.put,sA_,sB_,sC_])
    refine a_q rfl rfl ?_ ?_
    ·intro F hF hf d;have hFc:=hF.cell;have hFf:=hF.frozen;simp [a_k,a_f,go_sem,hFc,ar,aq,e0,e1,e2,s3];refine (cp.out (F d) (a_c U.out (hF.below _))).mono ?_;rintro e' w8 ⟨v8,rfl,h8,ap⟩;exact ⟨_,rfl,h8,ap⟩
    (try simp only [Act.put,sA_,sB_,sC_])
    refine a_l rfl rfl ?_;apply Exists.intro;refine ⟨fun F hF hf K hK=>?_,?_⟩
    ·have hFc:=hF.cell;have hFf:=hF.frozen;obtain ⟨p9,c9,e9,-⟩:=hf _ List.mem_cons_self (by rfl) w;simp only [] at e9;rw [e9] at hK ⊢
     go_big_quiet_op
     first|exact hK|(apply Exists.intro;refine ⟨fun _=>?_,?_⟩;(· fail);exact hK)
    (try simp only [Act.put,sA_,sB_,sC_])
    refine a_l rfl rfl ?_;apply Exists.intro;refine ⟨fun F hF hf K hK=>?_,?_⟩
    ·have hFc:=hF.cell;have hFf:=hF.frozen
     go_big_quiet_op
     first|exact hK|(apply Exists.intro;refine ⟨fun _=>?_,?_⟩;(· fail);exact hK)
    (try simp only [Act.put,sA_,sB_,sC_])
    refine b_c ?_;exact rfl
   ·exact fun x=>rfl
   ·intro w9 xs ad hf;simp only [List.drop_succ_cons,List.drop_zero];obtain ⟨p7,c7,e7,h7⟩:=hf _ List.mem_cons_self;simp only [] at e7 h7;have H7:Hid (RdS w9 p7 PP.length PP/\Below w.heap.size w w9):=⟨h7.1,a_c HB.out (a_c U.out ad)⟩
    obtain ⟨v8,e8⟩:∃ v8,xs 5=v8:=⟨_,rfl⟩
    rw [e8] at e7 ⊢;subst e7;have af:Hid (PP.length<=2):=HP.out.2.2.2;obtain ⟨J,ah⟩:∃ J,PP.length=J:=⟨_,rfl⟩
    rw [ah] at H7 HP af ⊢;clear hf ad h7 e0 e1 e2 s3 cp e8 ah;have au:(J:Int)<=2:=by have:=af.out;omega
    go_wp2_with fail
    go_loopg [5,25] J (fun gg u v wq=>∃ (j:Nat) (y:Int),j<=J/\gg=J - j/\u = .int .i64 y/\v = .int .i64 (j:Int)/\Hid (y=x+d_Z PP j)/\wq=w9)
    case atStart=>exact ⟨0,x,by omega,by omega,rfl,rfl,by show x=x+0;omega,rfl⟩
    case round=>
     obtain ⟨j,y,hj,aB,rfl,rfl,Hy,rfl⟩:=hrel;by_cases R:j < J
     ·have aw:(j:Int) < (J:Int):=by omega
      obtain ⟨q5,o5,a5,b5,d5,rfl,s5,m5⟩:=H7.out.1.2 j R;obtain ⟨z,ez⟩:∃ z,a_u (shA PP j)=z:=⟨_,rfl⟩
      have cz:=d_m _ _ (HP.out.2.2.1 j R) _ m5;rw [ez] at cz;have ak:=HP.out.2.1 j (by omega);have ag:=HP.out.2.1 (j+1) R;rw [show d_Z PP (j+1)=d_Z PP j+z by rw [<- ez];rfl] at ag;have aa:y+z=x+(d_Z PP j+z):=by rw [Hy.out];omega
      have aj:0<=y+z/\y+z<=1128000000000000:=by omega
      have HY:Hid (y+z=x+d_Z PP (j+1)):=by show _=_;rw [aa,<- ez];rfl
      obtain ⟨yz,ae⟩:∃ yz,y+z=yz:=⟨_,rfl⟩
      rw [ae] at aj HY;clear m5 ez ak ag aa;go_wp2_with fail
      refine cz.mono ?_;rintro e w1 ⟨rfl,rfl⟩;clear cz;go_wp2;go_roundg (J - (j+1))
      case measure=>omega
      case rel=>exact ⟨j+1,yz,by omega,rfl,by first|rfl|simp [ae],by first|rfl|simp,HY,rfl⟩
     ·obtain rfl:j=J:=by omega
      have HY:Hid (y=c_a ls S (k+1)):=by show _=_;rw [<- HN.out,<- HP.out.1,Hy.out]
      have an:Hid (Below w.heap.size w _):=H7.out.2;clear Hy HN HP H7;go_wp2;go_roundg (H - (k+1))
      case measure=>omega
      case rel=>exact ⟨k+1,y,by omega,rfl,rfl,by first|rfl|simp,HY,an⟩
  ·obtain rfl:k=H:=by omega
   have ex:x=r:=by rw [Hx.out,<- HR.out,M.out.2.1.1]
   subst ex;go_wp2;go_ret;exact ⟨rfl,HB.out⟩
theorem i_j {ls:List Ly} {S:List (List Int)}:∀ {i n:Nat},l_h ls S i=true->i<=n->l_h ls S n=true
 | i,0,h,hi=>by
  obtain rfl:i=0:=by omega
  exact h
 | i,n+1,h,hi=>by
  rcases Nat.lt_or_ge i (n+1) with D|D
  ·simp only [l_h,Bool.or_eq_true];exact .inl (i_j h (show i<=n by omega))
  ·obtain rfl:i=n+1:=by omega
   exact h
theorem i_6 (p p2 ps:Option Addr) (n c E O ns cs:Nat) (d:List Int) (ls:List Ly) (S:List (List Int)) (ok:NetOk d ls S) (ak:∀ k,k < ns->InOk (shA S k)) (V:E<=1073741824) (w:World) (hL:LyR 0 w p2 E ls) (hS:RdS w ps ns S):
  Calls Tryz.prog 47 #[.agg #[.slice p n c,.slice p2 E O],.slice ps ns cs] w fun e M=>e = .returned (.bool (e_Q ls S))/\Below w.heap.size w M:=by
 haveI:Nonempty World:=⟨w⟩
 obtain ⟨r,er⟩:∃ r,e_Q ls S=r:=⟨_,rfl⟩
 have HR:Hid (e_Q ls S=r):=er;have U:Hid (NetOk d ls S/\LyR 0 w p2 E ls/\RdS w ps ns S):=⟨ok,hL,hS⟩
 have aq:ns=E+1:=by rw [<- hS.1,ok.len,hL.1]
 subst aq;rw [er];have cF:Hid (∀ W,Below w.heap.size w W->Calls Tryz.prog 67 #[.slice ps (E+1) cs,.func (.func 68) #[] #[]] W fun e M=>e = .returned (.bool (i_t S))/\M=W):=fun W hW=>e_p ps (E+1) cs S (fun i hi=>(ak i hi).smal) (Nat.le_trans (Nat.add_le_add_right V 1) (by decide)) W (hS.up hW);have cc:Hid (∀ W,Below w.heap.size w W->Calls Tryz.prog 33 #[.agg #[.slice p n c,.slice p2 E O],.slice ps (E+1) cs] W fun e M=>e = .returned (.int .i64 (c_a ls S ls.length))/\Below W.heap.size W M):=fun W hW=>c_k p p2 ps n c E O (E+1) cs d ls S ok V W (hL.up hW) (hS.up hW);clear er ok hL hS ak;go_enter Tryz.func47,Tryz.ntmps47;by_cases ao:16 < E
 ·have ap:(16:Int) < (E:Int):=by omega
  have e:r=true:=by rw [<- HR.out];unfold e_Q;rw [U.out.2.1.1,decide_eq_true ao];simp
  subst e;clear cF cc;go_wp2;go_ret;exact ⟨rfl,a_b w _⟩
 have ap:(E:Int)<=16:=by omega
 go_wp2_with fail
 generalize ad:World.alloc _ _=W0;have H:Hid (Below w.heap.size w W0):=by rw [<- ad];exact a_b w _
 obtain ⟨g0,g1⟩:W0.cell? ⟨w.heap.size,0,none⟩=some (.slice p n c)/\W0.cell? ⟨w.heap.size,1,none⟩=some (.slice p2 E O):=by rw [<- ad];simp [go_sem]
 clear ad;refine (cF.out W0 H.out).mono ?_;rintro e w1 ⟨rfl,rfl⟩;obtain ⟨qb,ae⟩:∃ q,i_t S=q:=⟨_,rfl⟩
 have HQ:Hid (i_t S=qb):=ae;rw [ae];clear ae;cases qb with
 | true=>
  have e:r=true:=by rw [<- HR.out];unfold e_Q;rw [HQ.out];simp
  subst e;clear cF cc;go_wp2;go_ret;exact ⟨rfl,H.out⟩
 | false=>
 have HG:Hid (w1.cell? ⟨w.heap.size,0,none⟩=some (.slice p n c)/\w1.cell? ⟨w.heap.size,1,none⟩=some (.slice p2 E O)):=⟨g0,g1⟩
 go_wp2_with fail
 go_loopg [18] E (fun gg v wr=>∃ (k:Nat),k<=E/\gg=E - k/\v = .int .i64 (k:Int)/\Hid (l_h ls S k=false)/\Hid (Below w1.heap.size w1 wr))
 case atStart=>exact ⟨0,by omega,by omega,rfl,rfl,Below.refl _ _⟩
 case round=>
  obtain ⟨k,hk,hg,rfl,Hx,HB⟩:=hrel;by_cases ac:k < E
  ·have ay:(k:Int) < (E:Int):=by omega
   have az:(k:Int) < ((E+1:Nat):Int):=by omega
   have ab:k < ls.length:=by rw [U.out.2.1.1];exact ac
   have ah:=a_c H.out HB.out;obtain ⟨q,o,rfl,c0,c1,O⟩:=(U.out.2.1.up ah).2 k ac;obtain ⟨q3,o3,a3,b3,d3,rfl,s3,m3⟩:=(U.out.2.2.up ah).2 k (by omega);have hl:=U.out.1.lay k ab;have hi:=U.out.1.inn k ab;have L:=U.out.1.fit k ab;obtain ⟨l,el⟩:∃ l,lyA ls k=l:=⟨_,rfl⟩
   obtain ⟨dd,ed⟩:∃ dd,shA S k=dd:=⟨_,rfl⟩
   have HN:Hid (l_h ls S (k+1)=s_j l dd):=by show _=_;rw [<- el,<- ed];show (l_h ls S k || _)=_;rw [Hx.out];rfl
   rw [el] at c0 c1 O hl L;rw [ed] at hi m3 L;obtain ⟨s,a,b⟩:=l;simp only [] at c0 c1 O L;have aA:=a_g c0;obtain ⟨PP,eP⟩:∃ PP,c_w (s,a,b) dd=PP:=⟨_,rfl⟩
   obtain ⟨qq,aa⟩:∃ qq,i_t PP=qq:=⟨_,rfl⟩
   have HP:Hid (s_j (s,a,b) dd=qq):=by show _=_;rw [<- aa,<- eP];rfl
   have cp:Hid (∀ W,Below wr.heap.size wr W->Calls Tryz.prog 48 #[.agg #[.string s,.int .i64 a,.int .i64 b],.slice a3 b3 d3] W fun e M=>∃ v',e = .returned v'/\ParR PP v' M/\Below W.heap.size W M):=fun W hW=>by
    rw [<- eP];exact d_n s a b dd hl hi L a3 b3 d3 W (m3.up hW)
   have cG:Hid (∀ W v,ParR PP v W->Calls Tryz.prog 67 #[v,.func (.func 68) #[] #[]] W fun e M=>e = .returned (.bool qq)/\M=W):=fun W v hv=>by
    obtain ⟨pv,cv,rfl,hv⟩:=hv;rw [<- aa,<- eP] at *;exact e_p pv _ cv _ (f_T hl hi) (by have:=e_5 (s,a,b) dd;omega) W hv.1
   clear hl hi L m3 el ed eP aa ah;go_wp2;generalize ag:World.alloc _ _=W1;have af:Hid (Below wr.heap.size wr W1):=by rw [<- ag];exact a_b wr _
   obtain ⟨e0,e1,e2⟩:W1.cell? ⟨wr.heap.size,0,none⟩=some (.string s)/\W1.cell? ⟨wr.heap.size,1,none⟩=some (.int .i64 a)/\W1.cell? ⟨wr.heap.size,2,none⟩=some (.int .i64 b):=by rw [<- ag];simp [go_sem]
   replace s3:=a_h af.out s3;have ax:=a_g e0;have aw:=a_g s3;clear ag c0 c1 O;refine rel [⟨5,28,ParR PP⟩] 7 35 (by kernel_rfl) rfl rfl (by kernel_rfl) (by rfl) ?_ ?_
   ·intro e he v W W' h hb;simp only [List.mem_cons,List.not_mem_nil,or_false] at he;subst he;exact ParR.up h hb
   apply Exists.intro;refine ⟨fun x=>?_,?_,?_⟩
   ·simp only [List.take_succ_cons,List.take_zero]
    iterate 5
     refine a_l rfl rfl ?_;apply Exists.intro;refine ⟨fun F hF hf K hK=>?_,?_⟩
     ·have hFc:=hF.cell;have hFf:=hF.frozen
      go_big_quiet_op
      first|exact hK|(apply Exists.intro;refine ⟨fun _=>?_,?_⟩;(· fail);exact hK)
     (try simp only [Act.put,sA_,sB_,sC_])
    refine a_q rfl rfl ?_ ?_
    ·intro F hF hf d;have hFc:=hF.cell;have hFf:=hF.frozen;simp [a_k,a_f,go_sem,hFc,ax,aw,e0,e1,e2,s3];refine (cp.out (F d) (a_c af.out (hF.below _))).mono ?_;rintro e' w8 ⟨v8,rfl,h8,av⟩;exact ⟨_,rfl,h8,av⟩
    (try simp only [Act.put,sA_,sB_,sC_])
    refine a_l rfl rfl ?_;apply Exists.intro;refine ⟨fun F hF hf K hK=>?_,?_⟩
    ·have hFc:=hF.cell;have hFf:=hF.frozen
     go_big_quiet_op
     first|exact hK|(apply Exists.intro;refine ⟨fun _=>?_,?_⟩;(· exact hF.same (cG.out _ _ (hf _ List.mem_cons_self (by rfl) _)));exact hK)
    (try simp only [Act.put,sA_,sB_,sC_])
    refine b_c ?_;exact rfl
   ·exact fun x=>rfl
   ·intro w9 xs aj hf;simp only [List.drop_succ_cons,List.drop_zero];have am:Hid (Below w1.heap.size w1 w9):=a_c HB.out (a_c af.out aj);clear hf aj e0 e1 e2 s3 cp cG;cases qq with
    | true=>
     have e:r=true:=by rw [<- HR.out];unfold e_Q;rw [i_j (HN.out.trans HP.out) (show k+1<=ls.length by rw [U.out.2.1.1];exact ac)];simp
     subst e;clear cF cc;go_wp2;go_ret;exact ⟨rfl,a_c H.out am.out⟩
    | false=>
     have au:Hid (l_h ls S (k+1)=false):=HN.out.trans HP.out;clear HN HP;go_wp2;go_roundg (E - (k+1))
     case measure=>omega
     case rel=>exact ⟨k+1,by omega,rfl,by first|rfl|simp,au,am⟩
  ·obtain rfl:k=E:=by omega
   have g0:=a_h HB.out HG.out.1;have g1:=a_h HB.out HG.out.2;go_wp2_with fail
   refine (cc.out wr (a_c H.out HB.out)).mono ?_;rintro e w2 ⟨rfl,an⟩;obtain ⟨cn,ai⟩:∃ cn,c_a ls S ls.length=cn:=⟨_,rfl⟩
   have HC:Hid (decide (4096 < cn)=r):=by
    show _=_;rw [<- HR.out,<- ai];unfold e_Q;rw [HQ.out,U.out.2.1.1,Hx.out,decide_eq_false ao];rfl
   have ar:Hid (Below w.heap.size w w2):=a_c (a_c H.out HB.out) an;rw [ai];clear ai cF cc an;go_wp2;go_ret;rw [<- HC.out];exact ⟨rfl,ar.out⟩
/-- A slice's type by its elements' cells and bytes. -/
structure GT (P:Program) (t e:TypeId) (s b:Nat):Prop where
 ht:P.underlying t=some (.slice e)
 hi:(P.info? e).map (fun i=>(i.zero.map fun z=>z.cells.size,i.size,i.bytes))=some (some s,s,b)
/-- append of one element that a literal holds, behind a row of the call's own. -/
theorem b_z {P:Program} {t e:TypeId} {s b:Nat} (T:GT P t e s b) (hb:b<=256) (aa:0 < s) {ops:Array Oper} {rest:List Oper} {o:Oper} {a:Act} {Q:Exit->Act->World->Prop} {w:World} (U:o.guard=none) (O x:Operand)
  (ho:o.op = .call { callee:=.builtin .append,args:=#[O,x],argTypes:=#[t,t] }) (B:Nat) (v:Value) (n:Nat) (xs:List Value) (hs:a.eval O=v) (D:w.ownsRow B e s v n xs) (g:Nat) (u:List Value) (hx:a.eval x = .slice (some ⟨g,0,none⟩) 1 1)
  (hg:w.heap[g]?=some (.cells u.toArray e (0,0))) (hu:u.length=s) (h1:∀ y∈u,y.oneCell'=true) (hn:n+1<=1073741825) (hB:B<=w.heap.size)
  (h:∀ M H,Hid (H.ownsRow B e s M (n+1) (xs++u))->Hid (Only [e] w H)->Hid (∀ w0,Below B w0 w->Below B w0 H)->wpList P ops Q rest (a.put o.dst M) H):wpList P ops Q (o :: rest) a w:=by
 have I:=T.hi;cases hq:P.info? e with
 | none=>rw [hq] at I;cases I
 | some i=>
  rw [hq] at I;simp only [Option.map_some,Option.some.injEq,Prod.mk.injEq] at I;obtain ⟨J,ac,R⟩:=I;cases E:i.zero with
  | none=>rw [E] at J;cases J
  | some z=>
   rw [E] at J;simp only [Option.map_some,Option.some.injEq] at J;have hm:(n+1)*b<=1073741825*256:=Nat.mul_le_mul hn hb
   refine wpList_append_own w U O x t ho B e i z s b T.ht hq E ac R J aa v n xs hs D ⟨g,0,none⟩ 1 1 u hx (by omega) (fun j y hj=>by
    rw [a_t,Nat.zero_add];unfold World.cell?;simpa [hg] using hj) h1 (by unfold maxLen;omega) (by omega) hB ?_
   intro M H h2 h3 _;have ab:∀ k,v.ownBlock=some k->B<=k:=fun k L=>(World.ownsRow.lt D k L).1;refine h M H h2 (Only.grown h3 fun k L=>?_) fun w0 V=>Below.grown V h3 hB ab;rcases D.2 with ⟨rfl,_⟩|⟨g',ad,ae,rfl,_,hc,_⟩
   ·cases L
   ·cases L;exact ⟨_,_,_,hc,by simp⟩
theorem OwnS.push {W W':World} {B:Nat} {E:Value} {S:List (List Int)} {a:Option Addr} {b c:Nat} {o:List Int} {vs:List Value} (h:W'.ownsRow B 22 1 E (S.length+1) (vs++[.slice a b c])) (M:vs.length=S.length) (I:∀ i,i < S.length->∃ a b c,vs[i]?=some (.slice a b c)/\OwnK .i64 3 W B (.slice a b c) (shA S i)) (O:OwnK .i64 3 W B (.slice a b c) o) (H:Only [22] W W'):OwnS W' B E (S++[o]):=by
 refine ⟨vs++[.slice a b c],by rw [List.length_append];exact h,fun i L=>?_⟩;simp only [List.length_append,List.length_cons,List.length_nil] at L;rcases Nat.lt_or_ge i S.length with D|D
 ·obtain ⟨a,b,c,e,J⟩:=I i D;rw [d_X _ D];exact ⟨a,b,c,by rw [List.getElem?_append_left (by omega)];exact e,J.only H (by decide)⟩
 ·obtain rfl:i=S.length:=by omega
  rw [g_9 S o _ rfl];exact ⟨a,b,c,by rw [List.getElem?_append_right (by omega),M];simp,O.only H (by decide)⟩
theorem shT:GT Tryz.prog 52 22 1 24:=⟨Tryz.underlying52,by kernel_rfl⟩
def OutV (x:Option (List Int)) (B:Nat) (v:Value) (W:World):Prop:=match x with
 | none=>v = .slice none 0 0
 | some o=>∃ p n c,v = .slice p n c/\OwnK .i64 3 W B (.slice p n c) o
theorem OutV.up {x:Option (List Int)} {B:Nat} {v:Value} {W W':World} (h:OutV x B v W) (D:Below W.heap.size W W'):OutV x B v W':=by
 cases x with
 | none=>exact h
 | some o=>
  obtain ⟨p,n,c,e,h⟩:=h;exact ⟨p,n,c,e,h.up D⟩
theorem OutR.tup {x:Option (List Int)} {B:Nat} {v:Value} {W:World} (h:OutR x B v W):∃ u,v = .tuple #[u,.bool x.isSome]/\OutV x B u W:=by
 cases x with
 | none=>exact ⟨_,h,rfl⟩
 | some o=>
  obtain ⟨p,n,c,e,h⟩:=h;exact ⟨_,e,p,n,c,rfl,h⟩
theorem OutR.low {x:Option (List Int)} {B D:Nat} {v:Value} {W:World} (h:OutR x B v W) (E:D<=B):OutR x D v W:=by
 cases x with
 | none=>exact h
 | some o=>
  obtain ⟨p,n,c,e,h⟩:=h;exact ⟨p,n,c,e,h.low E⟩
def t_3 (x:Option (List (List Int))) (B:Nat) (v:Value) (W:World):Prop:=match x with
 | none=>v = .tuple #[.slice none 0 0,.bool false]
 | some S=>∃ u,v = .tuple #[u,.bool true]/\OwnS W B u S
theorem i_k (p p2:Option Addr) (n c I c2:Nat) (d:List Int) (ls:List Ly) (hf:b_L d ls=true) (aV:I<=1073741823) (w:World) (h1:Nums .i64 w (.slice p n c) d) (hL:LyR 0 w p2 I ls):
  Calls Tryz.prog 46 #[.agg #[.slice p n c,.slice p2 I c2]] w fun e w'=>∃ v',e = .returned v'/\t_3 (shN d ls ls.length) w.heap.size v' w'/\Below w.heap.size w w':=by
 haveI:Nonempty World:=⟨w⟩
 obtain ⟨r,er⟩:∃ r,shN d ls ls.length=r:=⟨_,rfl⟩
 obtain ⟨hd,aO⟩:=(c_j d ls).1 hf;have HK:Hid (shN d ls ls.length=r/\LyR 0 w p2 I ls/\InOk d/\∀ l∈ls,a_R l):=⟨er,hL,hd,aO⟩
 have cI:Hid (∀ W,Below w.heap.size w W->Calls Tryz.prog 64 #[.slice p n c] W fun e w'=>∃ v',e = .returned v'/\OwnK .i64 3 w' W.heap.size v' d/\Below W.heap.size W w'):=fun W hW=>b_j _ d (by have:=hd.smal.1;omega) W (h1.up hW);rw [er];clear er hd aO hf h1 hL;go_enter Tryz.func46,Tryz.ntmps46;go_wp2_with fail
 generalize az:World.alloc _ _=W0;have aw:Hid (Below w.heap.size w W0):=by rw [<- az];exact a_b w _
 have aJ:Hid (W0.heap[w.heap.size]?=some (.cells #[.slice p n c,.slice p2 I c2] 25 (0,0))/\w.heap.size < W0.heap.size):=by
  show _/\_;rw [<- az];exact ⟨Array.getElem?_push_size,by simp⟩
 clear az;refine (cI.out W0 aw.out).mono ?_;rintro e w1 ⟨v1,rfl,aL,aD⟩;obtain ⟨pa,na,ca,rfl,_⟩:=aL.nums.lst;have aE:Hid (w1.heap[w.heap.size]?=some (.cells #[.slice p n c,.slice p2 I c2] 25 (0,0))):=(aD.block _ aJ.out.2).trans aJ.out.1;have aq:Hid (OwnK .i64 3 w1 w.heap.size (.slice pa na ca) d/\Below w.heap.size w w1):=⟨aL.low aw.out.size,a_c aw.out aD⟩
 clear aL aD cI aw aJ;have g1:w1.cell? ⟨w.heap.size,1,none⟩=some (.slice p2 I c2):=by unfold World.cell?;rw [aE.out];rfl
 have ap:=a_g g1;go_wp2_with fail
 generalize av:World.alloc _ _=W2
 have aU:Hid (W2.heap[w.heap.size]?=some (.cells #[.slice p n c,.slice p2 I c2] 25 (0,0))):=by
  show _=_;rw [<- av];exact ((a_b w1 _).block _ ap).trans aE.out
 have aT:Hid (OwnS W2 w.heap.size (.slice (some ⟨w1.heap.size,0,none⟩) 1 1) [d]/\Below w.heap.size w W2):=by
  show _/\_;have hb:Below w1.heap.size w1 W2:=by rw [<- av];exact a_b w1 _
  refine ⟨⟨[.slice pa na ca],⟨rfl,.inr ⟨w1.heap.size,1,#[.slice pa na ca],rfl,aq.out.2.size,?_,Nat.le_refl _,by unfold maxLen;omega,rfl,rfl⟩⟩,fun i hi=>?_⟩,a_c aq.out.2 hb⟩
  ·rw [<- av];exact Array.getElem?_push_size
  ·obtain rfl:i=0:=by simp at hi;omega
   exact ⟨_,_,_,rfl,aq.out.1.up hb⟩
 clear av g1 aq aE ap
 go_loopg [4,16] I (fun gg u v wr=>∃ (k:Nat) (S:List (List Int)),k<=I/\gg=I - k/\v = .int .i64 (k:Int)/\Hid (OwnS wr w.heap.size u S/\Below w.heap.size w wr)/\Hid (shN d ls k=some S)/\Hid (wr.heap[w.heap.size]?=some (.cells #[.slice p n c,.slice p2 I c2] 25 (0,0))))
 case atStart=>exact ⟨0,[d],by omega,by omega,rfl,aT,rfl,aU⟩
 case round=>
  obtain ⟨k,S,hk,hg,rfl,HO,HS,HX⟩:=hrel;obtain ⟨ps,cs,rfl,aF⟩:=HO.out.1.rd;have aN:=c_W HS.out;obtain ⟨sl,aC⟩:∃ sl,S.length=sl:=⟨_,rfl⟩
  rw [aC] at aF aN HO ⊢;have ak:Hid (RdS wr ps sl S):=aF;have au:Hid (S.length=sl):=aC;subst aN;clear aC aF;by_cases ay:k < I
  ·have aW:(k:Int) < (I:Int):=by omega
   have aX:(k:Int) < ((k+1:Nat):Int):=by omega
   have ar:k < ls.length:=by rw [HK.out.2.1.1];exact ay
   obtain ⟨q,o,rfl,y0,y1,y2⟩:=(HK.out.2.1.up HO.out.2).2 k ay;have hl:=HK.out.2.2.2 _ (d_W ar);have ax:=e_o HK.out.2.2.1 HK.out.2.2.2 (show k<=ls.length by omega) HS.out;obtain ⟨l,el⟩:∃ l,lyA ls k=l:=⟨_,rfl⟩
   have aQ:Hid (lyA ls k=l):=el;rw [el] at y0 y1 y2 hl;obtain ⟨s,a,b⟩:=l;simp only [] at y0 y1 y2;have aY:=a_g y0;have g1:wr.cell? ⟨w.heap.size,1,none⟩=some (.slice (some ⟨q,o,none⟩) I c2):=by unfold World.cell?;rw [HX.out];rfl
   have ap:=a_g g1;have HN:Hid (∀ x,shN d ls (k+1)=x->f_8 ls k S=x):=fun x hx=>(a_G HS.out).symm.trans hx;have ab:Hid (f_8 ls k S=if s=e_m/\¬ c_1 ls S k then none else (d_F (s,a,b) (shA S k)).map fun o=>S++[o]):=by show _=_;unfold f_8;rw [aQ.out]
   have cO:Hid (∀ W a3 b3 d3,Nums .i64 W (.slice a3 b3 d3) (shA S k)->Calls Tryz.prog 66 #[.agg #[.string s,.int .i64 a,.int .i64 b],.slice a3 b3 d3] W fun e w'=>∃ v',e = .returned v'/\OutR (d_F (s,a,b) (shA S k)) W.heap.size v' w'/\Below W.heap.size W w'):=fun W a3 b3 d3 hv=>m_2 s a b _ hl (ax k (by omega)) a3 b3 d3 W hv;have cK:Hid (∀ W,Below wr.heap.size wr W->Calls Tryz.prog 65 #[.slice (some ⟨q,o,none⟩) I c2,.slice ps (k+1) cs,.int .i64 (k:Int)] W fun e w'=>e = .returned (.bool (decide (c_1 ls S k)))/\∃ m,w'=W.drewN m):=fun W hW=>i_4 _ ps I c2 (k+1) cs ls S k (by omega) ay (by omega) (fun j hj=>(ax j hj).smal.1) W ((HK.out.2.1.up HO.out.2).up hW) (ak.out.up hW);obtain ⟨xo,aP⟩:∃ xo,d_F (s,a,b) (shA S k)=xo:=⟨_,rfl⟩
   rw [aP] at cO ab;obtain ⟨-,-,-,-,t4⟩:=kts s;clear hl ax el aP;by_cases ae:a_s s=4
   ·replace t4:=t4.trans (decide_eq_true ae);go_wp2_with fail
    generalize af:World.alloc _ _=W3;have aA:Hid (Below wr.heap.size wr W3):=by rw [<- af];exact a_b wr _
    obtain ⟨e0,e1,e2⟩:W3.cell? ⟨wr.heap.size,0,none⟩=some (.string s)/\W3.cell? ⟨wr.heap.size,1,none⟩=some (.int .i64 a)/\W3.cell? ⟨wr.heap.size,2,none⟩=some (.int .i64 b):=by rw [<- af];simp [go_sem]
    clear af;refine (cK.out W3 aA.out).mono ?_;rintro e w4 ⟨rfl,m,ai⟩;have V:Hid (Below wr.heap.size wr w4):=by rw [ai];exact a_m aA.out _
    replace e0:w4.cell? ⟨wr.heap.size,0,none⟩=some (.string s):=by rw [ai];exact e0
    replace e1:w4.cell? ⟨wr.heap.size,1,none⟩=some (.int .i64 a):=by rw [ai];exact e1
    replace e2:w4.cell? ⟨wr.heap.size,2,none⟩=some (.int .i64 b):=by rw [ai];exact e2
    clear ai aA;by_cases ah:c_1 ls S k
    ·rw [decide_eq_true ah];have aR:Hid (c_1 ls S k):=ah;clear ah ae;obtain ⟨q3,o3,a3,b3,d3,rfl,s3,ao⟩:=ak.out.2 k (by omega);have m3:Hid (Nums .i64 wr (.slice a3 b3 d3) (shA S k)):=ao;replace s3:=a_h V.out s3;have aB:=a_g e0;have aK:=a_g s3;clear ao y0 y1 y2 g1;go_wp2;refine l_F [⟨5,38,OutR xo w.heap.size⟩,⟨6,32,OutR xo w.heap.size⟩,⟨7,39,OutV xo w.heap.size⟩] 9 49 (by kernel_rfl) rfl rfl 8 _ rfl (by decide) rfl (by kernel_rfl) (by kernel_rfl) (fun _ _ _ _ h=>h) (by rfl) ?_ ?_
     ·intro e he v W W' h hb;simp only [List.mem_cons,List.not_mem_nil,or_false] at he;rcases he with rfl|rfl|rfl
      ·exact OutR.up h hb
      ·exact OutR.up h hb
      ·exact OutV.up h hb
     apply Exists.intro;refine ⟨?yl1,?wk1,?pk1,?rest1⟩
     case wk1=>
      intro x;simp only [List.take_succ_cons,List.take_zero]
      iterate 5
       refine a_l rfl rfl ?_;apply Exists.intro;refine ⟨fun F hF hf K hK=>?_,?_⟩
       ·have hFc:=hF.cell;have hFf:=hF.frozen
        go_big_quiet_op
        first|exact hK|(apply Exists.intro;refine ⟨fun _=>?_,?_⟩;(· fail);exact hK)
       (try simp only [Act.put,sA_,sB_,sC_])
      refine a_q rfl rfl ?_ ?_
      ·intro F hF hf d;have hFc:=hF.cell;have hFf:=hF.frozen;simp [a_k,a_f,go_sem,hFc,aB,aK,e0,e1,e2,s3];have R:=a_c V.out (hF.below d);refine (cO.out (F d) a3 b3 d3 (m3.out.up R)).mono ?_;rintro e' w8 ⟨v8,rfl,h8,aI⟩;exact ⟨_,rfl,h8.low (Nat.le_trans HO.out.2.size R.size),aI⟩
      (try simp only [Act.put,sA_,sB_,sC_])
      refine a_q rfl rfl ?_ ?_
      ·intro F hF hf d;have hFc:=hF.cell;have hFf:=hF.frozen;simp [a_k,a_f,go_sem];exact ⟨hf _ List.mem_cons_self (by rfl) d,Below.refl _ _⟩
      (try simp only [Act.put,sA_,sB_,sC_])
      refine a_q rfl rfl ?_ ?_
      ·intro F hF hf d;have hFc:=hF.cell;have hFf:=hF.frozen;obtain ⟨u9,e9,h9⟩:=(hf _ (List.mem_cons_of_mem _ List.mem_cons_self) (by rfl) d).tup;simp only [] at e9;simp [a_k,a_f,go_sem,e9];exact ⟨h9,Below.refl _ _⟩
      (try simp only [Act.put,sA_,sB_,sC_])
      refine a_l rfl rfl ?_;apply Exists.intro;refine ⟨fun F hF hf K hK=>?_,?_⟩
      ·have hFc:=hF.cell;have hFf:=hF.frozen;obtain ⟨u9,e9,-⟩:=(hf _ (List.mem_cons_of_mem _ List.mem_cons_self) (by rfl) w).tup;simp only [] at e9;rw [e9] at hK ⊢
       go_big_quiet_op
       first|exact hK|(apply Exists.intro;refine ⟨fun _=>?_,?_⟩;(· fail);exact hK)
      (try simp only [Act.put,sA_,sB_,sC_])
      refine b_c ?_;exact rfl
     case pk1=>
      intro x;simp only [b_l,List.foldl_cons,List.foldl_nil,Act.put,sA_,sB_,sC_]
     case yl1=>
      intro x hx;obtain ⟨W9,h9⟩:=hx _ (List.mem_cons_of_mem _ List.mem_cons_self) (by rfl);obtain ⟨u9,e9,-⟩:=OutR.tup h9;simp only [] at e9;refine ⟨.bool xo.isSome,fun t ht=>?_,.inl ⟨by rfl,fun w=>?_⟩⟩
      ·cases ht;rfl
      ·simp [execOp,Act.eval,e9,go_sem]
     intro E xs R hf;simp only [List.drop_succ_cons,List.drop_zero];have h7:=hf _ (List.mem_cons_of_mem _ (List.mem_cons_of_mem _ List.mem_cons_self));simp only [] at h7;have H:=a_c V.out R;have U:Hid (OwnS E w.heap.size (.slice (some ⟨q3,o3,none⟩) (k+1) cs) S/\Below w.heap.size w E):=⟨HO.out.1.up H,a_c HO.out.2 H⟩
     have ag:Hid (E.heap[w.heap.size]?=some (.cells #[.slice p n c,.slice (some ⟨q,o,none⟩) I c2] 25 (0,0))):=(H.block _ ap).trans HX.out;clear hf R H e0 e1 e2 s3 m3 cO cK V;cases xo with
     | none=>
      have er:r=none:=by
       rw [<- HK.out.1];refine b_o (i:=k+1) ?_ ar;rw [a_G HS.out,ab.out]
       (try (split <;> rfl))
      subst er;obtain ⟨v7,e7⟩:∃ v7,xs 7=v7:=⟨_,rfl⟩
      rw [e7];clear h7 e7;go_wp2;go_ret2;exact ⟨_,rfl,rfl,U.out.2⟩
     | some oo=>
      obtain ⟨L,M,J,e7,h7⟩:=h7;rw [e7]
      have aG:Hid (shN d ls (k+1)=some (S++[oo])):=by
       show _=_;rw [a_G HS.out,ab.out,if_neg fun h=>h.2 aR.out];rfl
      obtain ⟨vs,ad,an⟩:=U.out.1;have aj:vs.length=S.length:=by have:=ad.1;omega
      have HV:Hid (OwnK .i64 3 E w.heap.size (.slice L M J) oo/\E.ownsRow w.heap.size 22 1 (.slice (some ⟨q3,o3,none⟩) (k+1) cs) (k+1) vs/\vs.length=S.length/\∀ i,i < S.length->∃ a b c,vs[i]?=some (.slice a b c)/\OwnK .i64 3 E w.heap.size (.slice a b c) (shA S i)):=⟨h7,by rw [au.out] at ad;exact ad,aj,an⟩
      have aH:k+1+1<=1073741825:=by omega
      clear h7 e7 ad an aj ab HN;have H5:Hid ((E.alloc (.cells #[.slice L M J] 22)).ownsRow w.heap.size 22 1 (.slice (some ⟨q3,o3,none⟩) (k+1) cs) (k+1) vs):=a_C (S:=[]) HV.out.2.1 (Only.of (a_b E _)) (by simp);have H6:Hid ((E.alloc (.cells #[.slice L M J] 22)).heap[E.heap.size]?=some (.cells [.slice L M J].toArray 22 (0,0))):=Array.getElem?_push_size;have H7:Hid (∀ y∈[Value.slice L M J],y.oneCell'=true):=fun y hy=>by simp at hy;subst hy;rfl
      have H8:Hid (w.heap.size<=(E.alloc (.cells #[.slice L M J] 22)).heap.size):=by show _<=_;have:=U.out.2.size;simp;omega
      have H9:Hid (∀ v0 O,O.ownsRow w.heap.size 22 1 v0 (k+1+1) (vs++[.slice L M J])->Only [22] (E.alloc (.cells #[.slice L M J] 22)) O->(∀ w',Below w.heap.size w' (E.alloc (.cells #[.slice L M J] 22))->Below w.heap.size w' O)->(OwnS O w.heap.size v0 (S++[oo])/\Below w.heap.size w O)/\O.heap[w.heap.size]?=some (.cells #[.slice p n c,.slice (some ⟨q,o,none⟩) I c2] 25 (0,0))):=fun v0 O g1 g2 g3=>by
       have hb:=a_b E (.cells #[.slice L M J] 22);refine ⟨⟨OwnS.push (W:=E.alloc (.cells #[.slice L M J] 22)) (vs:=vs) (by rw [au.out];exact g1) HV.out.2.2.1 (fun i hi=>?_) (HV.out.1.up hb) g2,g3 w (a_c U.out.2 hb)⟩,g2.keep ((hb.block _ (a_i ag.out)).trans ag.out) (by decide)⟩;obtain ⟨a',b',c',e',h'⟩:=HV.out.2.2.2 i hi;exact ⟨a',b',c',e',h'.up hb⟩
      clear HV U ag ak HO HX;go_wp2_with (at_builtin;refine b_z shT (by decide) (by decide) rfl (.tmp 43) (.tmp 45) rfl w.heap.size _ (k+1) vs rfl H5.out _ [.slice L M J] rfl H6.out rfl H7.out aH H8.out ?_;intro v0 O H0 O0 B0)
      obtain ⟨hA,hX⟩:=H9.out v0 O H0.out O0.out B0.out;have HA:Hid (OwnS O w.heap.size v0 (S++[oo])/\Below w.heap.size w O):=hA;have aM:Hid (O.heap[w.heap.size]?=some (.cells #[.slice p n c,.slice (some ⟨q,o,none⟩) I c2] 25 (0,0))):=hX;clear hA hX H0 O0 B0 H5 H6 H7 H8 H9;go_wp2;go_roundg (I - (k+1))
      case measure=>omega
      case rel=>exact ⟨k+1,S++[oo],by omega,rfl,by first|rfl|simp,HA,aG,aM⟩
    ·rw [decide_eq_false ah]
     have er:r=none:=by
      rw [<- HK.out.1];refine b_o (i:=k+1) ?_ ar;rw [a_G HS.out,ab.out,if_pos ⟨(c_Y s).2 ae,ah⟩]
     subst er;clear ah ae cO cK ab HN;go_wp2;go_ret2;exact ⟨_,rfl,rfl,a_c HO.out.2 V.out⟩
   ·replace t4:=t4.trans (decide_eq_false ae);have aS:Hid (¬ s=e_m):=fun h=>ae ((c_Y s).1 h);clear ae;obtain ⟨q3,o3,a3,b3,d3,rfl,s3,ao⟩:=ak.out.2 k (by omega);have m3:Hid (Nums .i64 wr (.slice a3 b3 d3) (shA S k)):=ao;clear ao g1;go_wp2;generalize af:World.alloc _ _=W3;have V:Hid (Below wr.heap.size wr W3):=by rw [<- af];exact a_b wr _
    obtain ⟨e0,e1,e2⟩:W3.cell? ⟨wr.heap.size,0,none⟩=some (.string s)/\W3.cell? ⟨wr.heap.size,1,none⟩=some (.int .i64 a)/\W3.cell? ⟨wr.heap.size,2,none⟩=some (.int .i64 b):=by rw [<- af];simp [go_sem]
    replace s3:=a_h V.out s3;have aB:=a_g e0;have aK:=a_g s3;clear af y0 y1 y2;refine l_F [⟨5,38,OutR xo w.heap.size⟩,⟨6,32,OutR xo w.heap.size⟩,⟨7,39,OutV xo w.heap.size⟩] 9 49 (by kernel_rfl) rfl rfl 8 _ rfl (by decide) rfl (by kernel_rfl) (by kernel_rfl) (fun _ _ _ _ h=>h) (by rfl) ?_ ?_
    ·intro e he v W W' h hb;simp only [List.mem_cons,List.not_mem_nil,or_false] at he;rcases he with rfl|rfl|rfl
     ·exact OutR.up h hb
     ·exact OutR.up h hb
     ·exact OutV.up h hb
    apply Exists.intro;refine ⟨?yl2,?wk2,?pk2,?rest2⟩
    case wk2=>
     intro x;simp only [List.take_succ_cons,List.take_zero]
     iterate 5
      refine a_l rfl rfl ?_;apply Exists.intro;refine ⟨fun F hF hf K hK=>?_,?_⟩
      ·have hFc:=hF.cell;have hFf:=hF.frozen
       go_big_quiet_op
       first|exact hK|(apply Exists.intro;refine ⟨fun _=>?_,?_⟩;(· fail);exact hK)
      (try simp only [Act.put,sA_,sB_,sC_])
     refine a_q rfl rfl ?_ ?_
     ·intro F hF hf d;have hFc:=hF.cell;have hFf:=hF.frozen;simp [a_k,a_f,go_sem,hFc,aB,aK,e0,e1,e2,s3];have R:=a_c V.out (hF.below d);refine (cO.out (F d) a3 b3 d3 (m3.out.up R)).mono ?_;rintro e' w8 ⟨v8,rfl,h8,aI⟩;exact ⟨_,rfl,h8.low (Nat.le_trans HO.out.2.size R.size),aI⟩
     (try simp only [Act.put,sA_,sB_,sC_])
     refine a_q rfl rfl ?_ ?_
     ·intro F hF hf d;have hFc:=hF.cell;have hFf:=hF.frozen;simp [a_k,a_f,go_sem];exact ⟨hf _ List.mem_cons_self (by rfl) d,Below.refl _ _⟩
     (try simp only [Act.put,sA_,sB_,sC_])
     refine a_q rfl rfl ?_ ?_
     ·intro F hF hf d;have hFc:=hF.cell;have hFf:=hF.frozen;obtain ⟨u9,e9,h9⟩:=(hf _ (List.mem_cons_of_mem _ List.mem_cons_self) (by rfl) d).tup;simp only [] at e9;simp [a_k,a_f,go_sem,e9];exact ⟨h9,Below.refl _ _⟩
     (try simp only [Act.put,sA_,sB_,sC_])
     refine a_l rfl rfl ?_;apply Exists.intro;refine ⟨fun F hF hf K hK=>?_,?_⟩
     ·have hFc:=hF.cell;have hFf:=hF.frozen;obtain ⟨u9,e9,-⟩:=(hf _ (List.mem_cons_of_mem _ List.mem_cons_self) (by rfl) w).tup;simp only [] at e9;rw [e9] at hK ⊢
      go_big_quiet_op
      first|exact hK|(apply Exists.intro;refine ⟨fun _=>?_,?_⟩;(· fail);exact hK)
     (try simp only [Act.put,sA_,sB_,sC_])
     refine b_c ?_;exact rfl
    case pk2=>
     intro x;simp only [b_l,List.foldl_cons,List.foldl_nil,Act.put,sA_,sB_,sC_]
    case yl2=>
     intro x hx;obtain ⟨W9,h9⟩:=hx _ (List.mem_cons_of_mem _ List.mem_cons_self) (by rfl);obtain ⟨u9,e9,-⟩:=OutR.tup h9;simp only [] at e9;refine ⟨.bool xo.isSome,fun t ht=>?_,.inl ⟨by rfl,fun w=>?_⟩⟩
     ·cases ht;rfl
     ·simp [execOp,Act.eval,e9,go_sem]
    intro E xs R hf;simp only [List.drop_succ_cons,List.drop_zero];have h7:=hf _ (List.mem_cons_of_mem _ (List.mem_cons_of_mem _ List.mem_cons_self));simp only [] at h7;have H:=a_c V.out R;have U:Hid (OwnS E w.heap.size (.slice (some ⟨q3,o3,none⟩) (k+1) cs) S/\Below w.heap.size w E):=⟨HO.out.1.up H,a_c HO.out.2 H⟩
    have ag:Hid (E.heap[w.heap.size]?=some (.cells #[.slice p n c,.slice (some ⟨q,o,none⟩) I c2] 25 (0,0))):=(H.block _ ap).trans HX.out;clear hf R H e0 e1 e2 s3 m3 cO cK V;cases xo with
    | none=>
     have er:r=none:=by
      rw [<- HK.out.1];refine b_o (i:=k+1) ?_ ar;rw [a_G HS.out,ab.out]
      (try (split <;> rfl))
     subst er;obtain ⟨v7,e7⟩:∃ v7,xs 7=v7:=⟨_,rfl⟩
     rw [e7];clear h7 e7;go_wp2;go_ret2;exact ⟨_,rfl,rfl,U.out.2⟩
    | some oo=>
     obtain ⟨L,M,J,e7,h7⟩:=h7;rw [e7]
     have aG:Hid (shN d ls (k+1)=some (S++[oo])):=by
      show _=_;rw [a_G HS.out,ab.out,if_neg fun h=>aS.out h.1];rfl
     obtain ⟨vs,ad,an⟩:=U.out.1;have aj:vs.length=S.length:=by have:=ad.1;omega
     have HV:Hid (OwnK .i64 3 E w.heap.size (.slice L M J) oo/\E.ownsRow w.heap.size 22 1 (.slice (some ⟨q3,o3,none⟩) (k+1) cs) (k+1) vs/\vs.length=S.length/\∀ i,i < S.length->∃ a b c,vs[i]?=some (.slice a b c)/\OwnK .i64 3 E w.heap.size (.slice a b c) (shA S i)):=⟨h7,by rw [au.out] at ad;exact ad,aj,an⟩
     have aH:k+1+1<=1073741825:=by omega
     clear h7 e7 ad an aj ab HN;have H5:Hid ((E.alloc (.cells #[.slice L M J] 22)).ownsRow w.heap.size 22 1 (.slice (some ⟨q3,o3,none⟩) (k+1) cs) (k+1) vs):=a_C (S:=[]) HV.out.2.1 (Only.of (a_b E _)) (by simp);have H6:Hid ((E.alloc (.cells #[.slice L M J] 22)).heap[E.heap.size]?=some (.cells [.slice L M J].toArray 22 (0,0))):=Array.getElem?_push_size;have H7:Hid (∀ y∈[Value.slice L M J],y.oneCell'=true):=fun y hy=>by simp at hy;subst hy;rfl
     have H8:Hid (w.heap.size<=(E.alloc (.cells #[.slice L M J] 22)).heap.size):=by show _<=_;have:=U.out.2.size;simp;omega
     have H9:Hid (∀ v0 O,O.ownsRow w.heap.size 22 1 v0 (k+1+1) (vs++[.slice L M J])->Only [22] (E.alloc (.cells #[.slice L M J] 22)) O->(∀ w',Below w.heap.size w' (E.alloc (.cells #[.slice L M J] 22))->Below w.heap.size w' O)->(OwnS O w.heap.size v0 (S++[oo])/\Below w.heap.size w O)/\O.heap[w.heap.size]?=some (.cells #[.slice p n c,.slice (some ⟨q,o,none⟩) I c2] 25 (0,0))):=fun v0 O g1 g2 g3=>by
      have hb:=a_b E (.cells #[.slice L M J] 22);refine ⟨⟨OwnS.push (W:=E.alloc (.cells #[.slice L M J] 22)) (vs:=vs) (by rw [au.out];exact g1) HV.out.2.2.1 (fun i hi=>?_) (HV.out.1.up hb) g2,g3 w (a_c U.out.2 hb)⟩,g2.keep ((hb.block _ (a_i ag.out)).trans ag.out) (by decide)⟩;obtain ⟨a',b',c',e',h'⟩:=HV.out.2.2.2 i hi;exact ⟨a',b',c',e',h'.up hb⟩
     clear HV U ag ak HO HX;go_wp2_with (at_builtin;refine b_z shT (by decide) (by decide) rfl (.tmp 43) (.tmp 45) rfl w.heap.size _ (k+1) vs rfl H5.out _ [.slice L M J] rfl H6.out rfl H7.out aH H8.out ?_;intro v0 O H0 O0 B0)
     obtain ⟨hA,hX⟩:=H9.out v0 O H0.out O0.out B0.out;have HA:Hid (OwnS O w.heap.size v0 (S++[oo])/\Below w.heap.size w O):=hA;have aM:Hid (O.heap[w.heap.size]?=some (.cells #[.slice p n c,.slice (some ⟨q,o,none⟩) I c2] 25 (0,0))):=hX;clear hA hX H0 O0 B0 H5 H6 H7 H8 H9;go_wp2;go_roundg (I - (k+1))
     case measure=>omega
     case rel=>exact ⟨k+1,S++[oo],by omega,rfl,by first|rfl|simp,HA,aG,aM⟩
  ·obtain rfl:k=I:=by omega
   have er:r=some S:=by rw [<- HK.out.1,HK.out.2.1.1];exact HS.out
   subst er;go_wp2;go_ret2;exact ⟨_,rfl,⟨_,rfl,by have:=HO.out.1;exact this⟩,HO.out.2⟩
theorem g_w (p p2:Option Addr) (n c M c2:Nat) (d:List Int) (ls:List Ly) (ag:M<=1073741823) (w:World) (hK:Hid (Kz w)) (h1:Nums .i64 w (.slice p n c) d) (hL:LyR 0 w p2 M ls):
  Calls Tryz.prog 32 #[.agg #[.slice p n c,.slice p2 M c2]] w fun e w'=>∃ ps cs,e = .returned (.tuple #[.slice ps (nS d ls).length cs,.int .i64 (nE d ls)])/\OwnS w' w.heap.size (.slice ps (nS d ls).length cs) (nS d ls)/\Below w.heap.size w w':=by
 obtain ⟨E,eE⟩:∃ E,nE d ls=E:=⟨_,rfl⟩
 obtain ⟨SS,eS⟩:∃ S,nS d ls=S:=⟨_,rfl⟩
 have J:Hid (nE d ls=E/\nS d ls=SS):=⟨eE,eS⟩
 rw [eE,eS];clear eE eS;obtain ⟨fb,aa⟩:∃ f,b_L d ls=f:=⟨_,rfl⟩
 have cN:Hid (∀ W,Below w.heap.size w W->Calls Tryz.prog 45 #[.agg #[.slice p n c,.slice p2 M c2]] W fun e w'=>e = .returned (.bool fb)/\Below W.heap.size W w'):=fun W hW=>by
  rw [<- aa];exact f_9 p p2 n c M c2 d ls (by omega) W (Hid.up_kz hK hW) (h1.up hW) (hL.up hW)
 have HF:Hid (b_L d ls=fb):=aa;have HA:Hid (Nums .i64 w (.slice p n c) d/\LyR 0 w p2 M ls):=⟨h1,hL⟩
 clear aa h1 hL;go_enter Tryz.func32,Tryz.ntmps32;go_wp2_with fail
 generalize ac:World.alloc _ _=W0;have ab:Hid (Below w.heap.size w W0):=by rw [<- ac];exact a_b w _
 obtain ⟨g0,g1⟩:W0.cell? ⟨w.heap.size,0,none⟩=some (.slice p n c)/\W0.cell? ⟨w.heap.size,1,none⟩=some (.slice p2 M c2):=by rw [<- ac];simp [go_sem]
 clear ac;refine (cN.out W0 ab.out).mono ?_;rintro e w1 ⟨rfl,U⟩;have I:Hid (Below w.heap.size w w1):=a_c ab.out U;replace g0:=a_h U g0;replace g1:=a_h U g1;clear U cN ab;cases fb with
 | false=>
  have L:E=1:=by rw [<- J.out.1];exact m_Y (by rw [HF.out];simp)
  have e2:SS = []:=by rw [<- J.out.2];exact (i_h (by rw [J.out.1,L];decide)).1
  subst L e2;go_wp2;go_ret2;exact ⟨_,_,rfl,OwnS.nil _ _,I.out⟩
 | true=>
 go_wp2_with fail
 refine (i_k p p2 n c M c2 d ls HF.out ag w1 (HA.out.1.up I.out) (HA.out.2.up I.out)).mono ?_;rintro e w2 ⟨v2,rfl,V,H⟩;have ad:Hid (Below w.heap.size w w2):=a_c I.out H;replace g0:=a_h H g0;replace g1:=a_h H g1;obtain ⟨x,ex⟩:∃ x,shN d ls ls.length=x:=⟨_,rfl⟩
 rw [ex] at V;cases x with
 | none=>
  have L:E=4:=by rw [<- J.out.1];exact d_l HF.out ex
  have e2:SS = []:=by rw [<- J.out.2];exact (i_h (by rw [J.out.1,L];decide)).1
  have hr:v2 = .tuple #[.slice none 0 0,.bool false]:=V;subst L e2 hr;clear V ex H;go_wp2;go_ret2;exact ⟨_,_,rfl,OwnS.nil _ _,ad.out⟩
 | some S=>
  obtain ⟨u,rfl,R⟩:=V;obtain ⟨ps,cs,rfl,af⟩:=R.rd;obtain ⟨sl,O⟩:∃ sl,S.length=sl:=⟨_,rfl⟩
  rw [O] at af R ⊢;have HS:Hid (OwnS w2 w.heap.size (.slice ps sl cs) S/\S.length=sl):=⟨R.low I.out.size,O⟩
  obtain ⟨ah,aj⟩:=(c_j d ls).1 HF.out;have cT:=i_6 p p2 ps n c M c2 sl cs d ls S (NetOk.of HF.out ex) (fun k hk=>e_o ah aj (Nat.le_refl _) ex k (by rw [<- c_W ex,O];exact hk)) (by omega) w2 (HA.out.2.up ad.out) af;obtain ⟨q,eq⟩:∃ q,e_Q ls S=q:=⟨_,rfl⟩
  rw [eq] at cT;have HQ:Hid (e_Q ls S=q/\shN d ls ls.length=some S):=⟨eq,ex⟩
  clear R af O ex H eq ah aj;go_wp2_with fail
  refine cT.mono ?_;rintro e w3 ⟨rfl,ae⟩;have ai:Hid (Below w.heap.size w w3):=a_c ad.out ae;have ak:Hid (OwnS w3 w.heap.size (.slice ps sl cs) S):=HS.out.1.up ae;clear ae cT;cases q with
  | true=>
   have L:E=2:=by rw [<- J.out.1];exact m_Z HF.out HQ.out.2 HQ.out.1
   have e2:SS = []:=by rw [<- J.out.2];exact (i_h (by rw [J.out.1,L];decide)).1
   subst L e2;go_wp2;go_ret2;exact ⟨_,_,rfl,OwnS.nil _ _,ai.out⟩
  | false=>
   have h3:=k_U HF.out HQ.out.2 HQ.out.1;have L:E=0:=by rw [<- J.out.1];exact h3.1
   have e2:SS=S:=by rw [<- J.out.2];exact h3.2.1
   subst L e2;clear h3;go_wp2;go_ret2;rw [HS.out.2];exact ⟨_,_,rfl,ak.out,ai.out⟩
theorem k_Z (p J:Option Addr) (n c I c2:Nat) (d:List Int) (ls:List Ly) (U:I<=1073741823) (w:World) (hK:Hid (Kz w)) (h1:Nums .i64 w (.slice p n c) d) (hL:LyR 0 w J I ls):
  Calls Tryz.prog 31 #[.agg #[.slice p n c,.slice J I c2]] w fun e w'=>e = .returned (.tuple #[.int .i64 (nP d ls),.int .i64 (nE d ls)])/\Below w.heap.size w w':=by
 obtain ⟨E,eE⟩:∃ E,nE d ls=E:=⟨_,rfl⟩
 obtain ⟨PN,eP⟩:∃ P,nP d ls=P:=⟨_,rfl⟩
 obtain ⟨SS,eS⟩:∃ S,nS d ls=S:=⟨_,rfl⟩
 obtain ⟨sl,O⟩:∃ sl,SS.length=sl:=⟨_,rfl⟩
 have HE:Hid (nE d ls=E/\nP d ls=PN/\nS d ls=SS/\SS.length=sl):=⟨eE,eP,eS,O⟩
 have cS:Hid (∀ W,Below w.heap.size w W->Calls Tryz.prog 32 #[.agg #[.slice p n c,.slice J I c2]] W fun e w'=>∃ ps cs,e = .returned (.tuple #[.slice ps sl cs,.int .i64 E])/\OwnS w' W.heap.size (.slice ps sl cs) SS/\Below W.heap.size W w'):=fun W hW=>by
  have:=g_w p J n c I c2 d ls U W (Hid.up_kz hK hW) (h1.up hW) (hL.up hW);rw [eE,eS,O] at this;exact this
 have HA:Hid (LyR 0 w J I ls):=hL;rw [eE,eP];clear eE eP eS O h1 hL;go_enter Tryz.func31,Tryz.ntmps31;go_wp2_with fail
 generalize L:World.alloc _ _=W0;have V:Hid (Below w.heap.size w W0):=by rw [<- L];exact a_b w _
 obtain ⟨g0,g1⟩:W0.cell? ⟨w.heap.size,0,none⟩=some (.slice p n c)/\W0.cell? ⟨w.heap.size,1,none⟩=some (.slice J I c2):=by rw [<- L];simp [go_sem]
 clear L;refine (cS.out W0 V.out).mono ?_;rintro e w1 ⟨ps,cs,rfl,R,H⟩;have M:Hid (Below w.heap.size w w1):=a_c V.out H;replace g0:=a_h H g0;replace g1:=a_h H g1;by_cases h0:E=0
 ·subst h0;obtain ⟨S,hf,hs,ht⟩:=e_3 HE.out.1;obtain ⟨_,h4,h5⟩:=k_U hf hs ht;rw [HE.out.2.2.1] at h4;subst h4;obtain ⟨p',c',e',ab⟩:=R.rd;cases e';have cc:=c_k p J ps n c I c2 _ cs d ls SS (NetOk.of hf hs) (by omega) w1 (HA.out.up M.out) ab;rw [<- h5,HE.out.2.1] at cc;clear R H hf hs ht h5 ab cS;go_wp2_with fail
  refine cc.mono ?_;rintro e w2 ⟨rfl,aa⟩;have ac:Hid (Below w.heap.size w w2):=a_c M.out aa;clear aa cc;go_wp2;go_ret2;exact ⟨rfl,ac.out⟩
 ·have ad:(E != 0)=true:=by simpa using h0
  have eP:PN=0:=by rw [<- HE.out.2.1];exact (i_h (by rw [HE.out.1];exact h0)).2
  subst eP;clear R H cS;go_wp2;go_ret2;exact ⟨rfl,M.out⟩
end Go.Proofs.YtcpbhhlepdgdkaaGreatDoor.Wd
