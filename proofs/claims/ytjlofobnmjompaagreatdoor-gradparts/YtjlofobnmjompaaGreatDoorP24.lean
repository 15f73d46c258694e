/- The code's slices of shapes; outOf, canS -/
import Derived.Test.YtjlofobnmjompaaGreatDoorP23
import Derived.Deep.RegionHeld3
set_option linter.unusedVariables false
set_option linter.unusedSimpArgs false
set_option maxHeartbeats 16000000
set_option maxRecDepth 16000
namespace Go.Proofs.YtjlofobnmjompaaGreatDoor.Wd
open Go.RowKit
/-- A slice of slices of numbers. -/
def RdS (W:World) (p:Option Addr) (n:Nat) (S:List (List Int)):Prop:=S.length=n/\∀ i,i < n->∃ q o a b c,p=some ⟨q,o,none⟩/\W.cell? ⟨q,o+i,none⟩=some (.slice a b c)/\Nums .i64 W (.slice a b c) (shA S i)
theorem RdS.up {W W':World} {p:Option Addr} {n:Nat} {S:List (List Int)} (h:RdS W p n S) (D:Below W.heap.size W W'):RdS W' p n S:=⟨h.1,fun i I=>by
 obtain ⟨q,o,a,b,c,e,H,E⟩:=h.2 i I;exact ⟨q,o,a,b,c,e,a_h D H,E.up D⟩⟩
/-- A slice of slices of the call's own. -/
def OwnS (W:World) (B:Nat) (v:Value) (S:List (List Int)):Prop:=∃ vs,W.ownsRow B 30 1 v S.length vs/\∀ i,i < S.length->∃ a b c,vs[i]?=some (.slice a b c)/\OwnK .i64 3 W B (.slice a b c) (shA S i)
theorem OwnS.only {Q:List TypeId} {W W':World} {B:Nat} {v:Value} {S:List (List Int)} (h:OwnS W B v S) (D:Only Q W W') (I:30∉Q) (H:3∉Q):OwnS W' B v S:=by
 obtain ⟨vs,L,E⟩:=h
 exact ⟨vs,a_z L D I,fun i M=>by
  obtain ⟨a,b,c,e,J⟩:=E i M;exact ⟨a,b,c,e,J.only D H⟩⟩
theorem OwnS.up {W W':World} {B:Nat} {v:Value} {S:List (List Int)} (h:OwnS W B v S) (D:Below W.heap.size W W'):OwnS W' B v S:=h.only (Q:=[]) (Only.of D) (by simp) (by simp)
theorem OwnS.low {W:World} {B E:Nat} {v:Value} {S:List (List Int)} (h:OwnS W B v S) (H:E<=B):OwnS W E v S:=by
 obtain ⟨vs,I,J⟩:=h
 refine ⟨vs,⟨I.1,?_⟩,fun i U=>by
  obtain ⟨a,b,c,e,O⟩:=J i U;exact ⟨a,b,c,e,O.low H⟩⟩
 rcases I.2 with h|⟨g,cap,D,R,M,L⟩
 ·exact .inl h
 ·exact .inr ⟨g,cap,D,R,Nat.le_trans H M,L⟩
theorem OwnS.nil (W:World) (B:Nat):OwnS W B (.slice none 0 0) []:=⟨[],⟨rfl,.inl ⟨rfl,rfl⟩⟩,fun i D=>by simp at D⟩
theorem OwnS.rd {W:World} {B:Nat} {v:Value} {S:List (List Int)} (h:OwnS W B v S):∃ p c,v = .slice p S.length c/\RdS W p S.length S:=by
 obtain ⟨vs,E,I⟩:=h;have D:=E;rcases E.2 with ⟨rfl,M⟩|⟨g,cap,L,rfl,R,U,O⟩
 ·exact ⟨none,0,by rw [M],rfl,fun i H=>by omega⟩
 ·refine ⟨_,cap,rfl,rfl,fun i H=>?_⟩;obtain ⟨a,b,c,e,J⟩:=I i H;refine ⟨g,0,a,b,c,rfl,?_,J.nums⟩;have:=World.ownsRow.cells D rfl i _ e;rw [a_u] at this;exact this
def ParR (S:List (List Int)) (v:Value) (W:World):Prop:=∃ p c,v = .slice p S.length c/\RdS W p S.length S/\OwnS W 0 v S
theorem ParR.up {S:List (List Int)} {v:Value} {W W':World} (h:ParR S v W) (D:Below W.heap.size W W'):ParR S v W':=by
 obtain ⟨p,c,e,h,E⟩:=h;exact ⟨p,c,e,h.up D,E.up D⟩
theorem ParR.of {S:List (List Int)} {v:Value} {W:World} (h:OwnS W 0 v S):ParR S v W:=by
 obtain ⟨p,c,e,D⟩:=h.rd;exact ⟨p,c,e,D,h⟩
theorem ParR.nil (W:World):ParR [] (.slice none 0 0) W:=ParR.of (OwnS.nil W 0)
/-- A literal of numbers, of the call's own. -/
def LitO (l:List Int) (v:Value) (W:World):Prop:=∃ g,v = .slice (some ⟨g,0,none⟩) l.length l.length/\OwnK .i64 3 W 0 v l
theorem LitO.up {l:List Int} {v:Value} {W W':World} (h:LitO l v W) (D:Below W.heap.size W W'):LitO l v W':=by
 obtain ⟨g,e,h⟩:=h;exact ⟨g,e,h.up D⟩
theorem LitO.new (W:World) (l:List Int) (n:Nat) (h:l.length=n) (D:n<=1073741824):LitO l (.slice (some ⟨W.heap.size,0,none⟩) n n) (W.alloc (.cells (b_e .i64 l).toArray 3)):=⟨_,by rw [h],(b_6 W l n h D).low (Nat.zero_le _)⟩
theorem ParR.one {W:World} {a:List Int} {g:Nat} (h:OwnK .i64 3 W 0 (.slice (some ⟨g,0,none⟩) a.length a.length) a):ParR [a] (.slice (some ⟨W.heap.size,0,none⟩) 1 1) (W.alloc (.cells #[.slice (some ⟨g,0,none⟩) a.length a.length] 30)):=by
 refine ParR.of ⟨[.slice (some ⟨g,0,none⟩) a.length a.length],⟨rfl,.inr ⟨W.heap.size,1,#[.slice (some ⟨g,0,none⟩) a.length a.length],rfl,Nat.zero_le _,Array.getElem?_push_size,Nat.le_refl _,by unfold maxLen;omega,rfl,rfl⟩⟩,fun i D=>?_⟩;obtain rfl:i=0:=by simp at D;omega
 exact ⟨_,_,_,rfl,h.up (a_b W _)⟩
theorem ParR.two {W:World} {a b:List Int} {g D:Nat} (h:OwnK .i64 3 W 0 (.slice (some ⟨g,0,none⟩) a.length a.length) a) (E:OwnK .i64 3 W 0 (.slice (some ⟨D,0,none⟩) b.length b.length) b):ParR [a,b] (.slice (some ⟨W.heap.size,0,none⟩) 2 2) (W.alloc (.cells #[.slice (some ⟨g,0,none⟩) a.length a.length,.slice (some ⟨D,0,none⟩) b.length b.length] 30)):=by
 refine ParR.of ⟨[.slice (some ⟨g,0,none⟩) a.length a.length,.slice (some ⟨D,0,none⟩) b.length b.length],⟨rfl,.inr ⟨W.heap.size,2,#[.slice (some ⟨g,0,none⟩) a.length a.length,.slice (some ⟨D,0,none⟩) b.length b.length],rfl,Nat.zero_le _,Array.getElem?_push_size,Nat.le_refl _,by unfold maxLen;omega,rfl,rfl⟩⟩,fun i H=>?_⟩;rcases (show i=0∨i=1 by simp at H;omega) with rfl|rfl
 ·exact ⟨_,_,_,rfl,h.up (a_b W _)⟩
 ·exact ⟨_,_,_,rfl,E.up (a_b W _)⟩
theorem kts (s:ByteArray):(s.toList == [100,101,110,115,101])=decide (a_s s=0)/\(s.toList == [99,111,110,118])=decide (a_s s=1)/\(s.toList == [112,111,111,108])=decide (a_s s=2)/\(s.toList == [98,101,110,100])=decide (a_s s=3)/\(s.toList == [115,107,105,112])=decide (a_s s=4):=by
 have k:∀ j,j < 5->(s.toList==(b_K j).toList)=decide (a_s s=j):=fun j E=>by
  by_cases h:s=b_K j
  ·rw [(Lib.bytes_beq_iff _ _).2 h,decide_eq_true (m_U s j E h.symm)]
  ·rw [p_m h,decide_eq_false fun e=>h (by rw [<- e];exact (h_5 s (by omega)).symm)]
 have D:(b_K 0).toList = [100,101,110,115,101]:=by first|decide +kernel|simp [b_K,e_i]
 have I:(b_K 1).toList = [99,111,110,118]:=by first|decide +kernel|simp [b_K,i_Q]
 have L:(b_K 2).toList = [112,111,111,108]:=by first|decide +kernel|simp [b_K,i_R]
 have J:(b_K 3).toList = [98,101,110,100]:=by first|decide +kernel|simp [b_K,i_S]
 have H:(b_K 4).toList = [115,107,105,112]:=by first|decide +kernel|simp [b_K,e_j]
 rw [<- D,<- I,<- L,<- J,<- H];exact ⟨k 0 (by omega),k 1 (by omega),k 2 (by omega),k 3 (by omega),k 4 (by omega)⟩
theorem c_W (s:ByteArray):s=e_j↔a_s s=4:=⟨fun h=>by rw [h];decide +kernel,fun h=>by rw [<- h_5 s (by omega),h];rfl⟩
theorem g_5 {k:IntKind} {e:TypeId} (W:World) (l:List Int) (n g B:Nat) (h:l.length=n) (D:n<=1073741824) (H:W.heap.size=g) (E:B<=g):OwnK k e (W.alloc (.cells (b_e k l).toArray e)) B (.slice (some ⟨g,0,none⟩) n n) l:=by
 subst H;exact (b_6 W l n h D).low E
/-- What outOf hands back. -/
def OutR (x:Option (List Int)) (B:Nat) (v:Value) (W:World):Prop:=match x with
 | none=>v = .tuple #[.slice none 0 0,.bool false]
 | some o=>∃ p n c,v = .tuple #[.slice p n c,.bool true]/\OwnK .i64 3 W B (.slice p n c) o
theorem OutR.up {x:Option (List Int)} {B:Nat} {v:Value} {W W':World} (h:OutR x B v W) (D:Below W.heap.size W W'):OutR x B v W':=by
 cases x with
 | none=>exact h
 | some o=>
  obtain ⟨p,n,c,e,h⟩:=h;exact ⟨p,n,c,e,h.up D⟩
theorem m_W (s:ByteArray) (a b:Int) (d:List Int) (hl:a_S (s,a,b)) (hd:InOk d) (p:Option Addr) (n c:Nat) (w:World) (hv:Nums .i64 w (.slice p n c) d):
  Calls Tryz.prog 77 #[.agg #[.string s,.int .i64 a,.int .i64 b],.slice p n c] w fun e w'=>∃ v',e = .returned v'/\OutR (d_C (s,a,b) d) w.heap.size v' w'/\Below w.heap.size w w':=by
 obtain ⟨x,L⟩:∃ x,d_C (s,a,b) d=x:=⟨_,rfl⟩
 rw [L];have HV:Hid (Nums .i64 w (.slice p n c) d):=hv;obtain ⟨_,_,_,e,U⟩:=hv.lst;cases e;clear hv;unfold d_C at L;obtain ⟨t0,t1,t2,t3,t4⟩:=kts s;have ci:Hid (∀ W,Below w.heap.size w W->Calls Tryz.prog 75 #[.slice p n c] W fun e w'=>∃ v',e = .returned v'/\OwnK .i64 3 w' W.heap.size v' d/\Below W.heap.size W w'):=fun W hW=>b_i _ d (by have:=hd.smal.1;omega) W (HV.out.up hW);rcases a_K hl with ⟨-,k,h1,h2⟩|⟨-,k,h1,h2⟩|⟨-,k,h1,h2⟩|⟨-,k,h1,h2⟩|⟨-,k,h1,h2⟩ <;> simp only [] at k h1 h2 <;> rw [k] at L t0 t1 t2 t3 t4
 ·replace t0:=t0.trans (show decide ((0:Nat)=0)=true from rfl);rw [if_pos rfl] at L;subst L;clear t1 t2 t3 t4 k hl U;go_enter Tryz.func77,Tryz.ntmps77;go_wp2;go_ret2;exact ⟨_,rfl,⟨_,_,_,rfl,g_5 (k:=.i64) (e:=3) _ [a] 1 _ _ rfl (by decide) (by simp) (by omega)⟩,by go_grown⟩
 ·replace t0:=t0.trans (show decide ((1:Nat)=0)=false from rfl);replace t1:=t1.trans (show decide ((1:Nat)=1)=true from rfl);rw [if_neg (by decide),if_pos rfl] at L;clear t2 t3 t4 k hl ci;rcases hd with ⟨y,rfl,hy⟩|⟨y,z,rfl,hy,hz⟩
  ·have hn:n=1:=U.out.1.symm;subst hn;rw [if_neg (by simp)] at L;subst L;go_enter Tryz.func77,Tryz.ntmps77;go_wp2;generalize D:World.alloc _ _=J;have ab:Below w.heap.size w J:=by rw [<- D];exact a_b w _
   obtain ⟨b1,b2⟩:J.cell? ⟨w.heap.size,1,none⟩=some (.int .i64 a)/\J.cell? ⟨w.heap.size,2,none⟩=some (.int .i64 b):=by rw [<- D];simp [go_sem]
   have H:Hid (Below w.heap.size w J):=ab;clear D ab;go_quiet (fail)
   go_wp2;go_ret2;exact ⟨_,rfl,rfl,a_m H.out _⟩
  ·have hn:n=2:=U.out.1.symm;subst hn;obtain ⟨q,o,rfl,c0⟩:=U.out.2 0 (by omega);obtain ⟨q',o',e,M⟩:=U.out.2 1 (by omega);cases e;simp only [List.getD_cons_zero,List.getD_cons_succ,Nat.add_zero] at c0 M;have hq:=a_g M;simp only [List.length_cons,List.length_nil,List.getD_cons_zero,List.getD_cons_succ] at L;by_cases ac:b<=z
   ·rw [if_pos ⟨trivial,ac⟩] at L;subst L;clear U HV c0;go_enter Tryz.func77,Tryz.ntmps77;go_wp2;generalize D:World.alloc _ _=J;have H:Hid (Below w.heap.size w J):=by rw [<- D];exact a_b w _
    obtain ⟨b1,b2⟩:J.cell? ⟨w.heap.size,1,none⟩=some (.int .i64 a)/\J.cell? ⟨w.heap.size,2,none⟩=some (.int .i64 b):=by rw [<- D];simp [go_sem]
    replace M:=a_h H.out M;clear D;go_quiet (fail)
    go_wp2;generalize O:World.drewN _ _=W1;have aa:Hid (Below w.heap.size w W1):=by rw [<- O];exact a_m H.out _
    obtain ⟨d1,d2,d3⟩:W1.cell? ⟨w.heap.size,1,none⟩=some (.int .i64 a)/\W1.cell? ⟨w.heap.size,2,none⟩=some (.int .i64 b)/\W1.cell? ⟨q,o+1,none⟩=some (.int .i64 z):=by rw [<- O];exact ⟨b1,b2,M⟩
    clear O b1 b2 M;go_region
    all_goals
     go_wp2;go_ret2;exact ⟨_,rfl,⟨_,_,_,rfl,g_5 (k:=.i64) (e:=3) _ [a,z - b+1] 2 _ _ rfl (by decide) (by simp) aa.out.size⟩,by have:=aa.out;exact (g_a this _).trans ⟨rfl,rfl,rfl,Nat.le_refl _,fun _ _=>rfl⟩⟩
   ·rw [if_neg fun h=>ac h.2] at L;subst L;clear U HV c0;have ae:z < b:=by omega
    go_enter Tryz.func77,Tryz.ntmps77;go_wp2;generalize D:World.alloc _ _=J;have H:Hid (Below w.heap.size w J):=by rw [<- D];exact a_b w _
    obtain ⟨b1,b2⟩:J.cell? ⟨w.heap.size,1,none⟩=some (.int .i64 a)/\J.cell? ⟨w.heap.size,2,none⟩=some (.int .i64 b):=by rw [<- D];simp [go_sem]
    replace M:=a_h H.out M;clear D;go_quiet (fail)
    go_wp2;go_ret2;exact ⟨_,rfl,rfl,a_m H.out _⟩
 ·replace t0:=t0.trans (show decide ((2:Nat)=0)=false from rfl);replace t1:=t1.trans (show decide ((2:Nat)=1)=false from rfl);replace t2:=t2.trans (show decide ((2:Nat)=2)=true from rfl);rw [if_neg (by decide),if_neg (by decide),if_pos rfl] at L;clear t3 t4 k hl ci h2;rcases hd with ⟨y,rfl,hy⟩|⟨y,z,rfl,hy,hz⟩
  ·have hn:n=1:=U.out.1.symm;subst hn;rw [if_neg (by simp)] at L;subst L;go_enter Tryz.func77,Tryz.ntmps77;go_wp2;generalize D:World.alloc _ _=J;have ab:Below w.heap.size w J:=by rw [<- D];exact a_b w _
   obtain ⟨b1,b2⟩:J.cell? ⟨w.heap.size,1,none⟩=some (.int .i64 a)/\J.cell? ⟨w.heap.size,2,none⟩=some (.int .i64 b):=by rw [<- D];simp [go_sem]
   have H:Hid (Below w.heap.size w J):=ab;clear D ab;go_quiet (fail)
   go_wp2;go_ret2;exact ⟨_,rfl,rfl,a_m H.out _⟩
  ·have hn:n=2:=U.out.1.symm;subst hn;obtain ⟨q,o,rfl,c0⟩:=U.out.2 0 (by omega);obtain ⟨q',o',e,M⟩:=U.out.2 1 (by omega);cases e;simp only [List.getD_cons_zero,List.getD_cons_succ,Nat.add_zero] at c0 M;have hq:=a_g M;simp only [List.length_cons,List.length_nil,List.getD_cons_zero,List.getD_cons_succ] at L;by_cases ac:a<=z
   ·rw [if_pos ⟨trivial,ac⟩] at L;subst L;clear U HV;obtain ⟨qq,ad⟩:∃ qq,Int.tdiv z a=qq:=⟨_,rfl⟩
    have af:a≠0:=by omega
    have ag:0<=qq/\qq<=64:=by
     rw [<- ad,Int.tdiv_eq_ediv_of_nonneg (by omega)];exact ⟨Int.ediv_nonneg (by omega) (by omega),by have:=Int.ediv_le_self a (a:=z) (by omega);omega⟩
    rw [ad];go_enter Tryz.func77,Tryz.ntmps77;go_wp2;generalize D:World.alloc _ _=J;have H:Hid (Below w.heap.size w J):=by rw [<- D];exact a_b w _
    replace c0:=a_h H.out c0;obtain ⟨b1,b2⟩:J.cell? ⟨w.heap.size,1,none⟩=some (.int .i64 a)/\J.cell? ⟨w.heap.size,2,none⟩=some (.int .i64 b):=by rw [<- D];simp [go_sem]
    replace M:=a_h H.out M;clear D;go_quiet (fail)
    go_wp2;generalize O:World.drewN _ _=W1;have aa:Hid (Below w.heap.size w W1):=by rw [<- O];exact a_m H.out _
    obtain ⟨d1,d2,d3,d4⟩:W1.cell? ⟨w.heap.size,1,none⟩=some (.int .i64 a)/\W1.cell? ⟨w.heap.size,2,none⟩=some (.int .i64 b)/\W1.cell? ⟨q,o+1,none⟩=some (.int .i64 z)/\W1.cell? ⟨q,o,none⟩=some (.int .i64 y):=by rw [<- O];exact ⟨b1,b2,M,c0⟩
    clear O b1 b2 M c0;go_region
    all_goals
     go_wp2;go_ret2;exact ⟨_,rfl,⟨_,_,_,rfl,g_5 (k:=.i64) (e:=3) _ [y,qq] 2 _ _ rfl (by decide) (by simp) aa.out.size⟩,by have:=aa.out;exact (g_a this _).trans ⟨rfl,rfl,rfl,Nat.le_refl _,fun _ _=>rfl⟩⟩
   ·rw [if_neg fun h=>ac h.2] at L;subst L;clear U HV c0;have ae:z < a:=by omega
    go_enter Tryz.func77,Tryz.ntmps77;go_wp2;generalize D:World.alloc _ _=J;have H:Hid (Below w.heap.size w J):=by rw [<- D];exact a_b w _
    obtain ⟨b1,b2⟩:J.cell? ⟨w.heap.size,1,none⟩=some (.int .i64 a)/\J.cell? ⟨w.heap.size,2,none⟩=some (.int .i64 b):=by rw [<- D];simp [go_sem]
    replace M:=a_h H.out M;clear D;go_quiet (fail)
    go_wp2;go_ret2;exact ⟨_,rfl,rfl,a_m H.out _⟩
 ·replace t0:=t0.trans (show decide ((3:Nat)=0)=false from rfl);replace t1:=t1.trans (show decide ((3:Nat)=1)=false from rfl);replace t2:=t2.trans (show decide ((3:Nat)=2)=false from rfl);rw [if_neg (by decide),if_neg (by decide),if_neg (by decide)] at L;subst L;clear t3 t4 k hl U;go_enter Tryz.func77,Tryz.ntmps77;go_wp2_with fail
  generalize D:World.alloc _ _=J;have H:Hid (Below w.heap.size w J):=by rw [<- D];exact a_b w _
  clear D;refine (ci.out J H.out).mono ?_;rintro e w1 ⟨v1,rfl,R,V⟩;obtain ⟨pa,na,ca,rfl,_⟩:=R.nums.lst;have HO:Hid (OwnK .i64 3 w1 J.heap.size (.slice pa na ca) d/\Below J.heap.size J w1):=⟨R,V⟩
  clear R V ci;go_wp2;go_ret2;exact ⟨_,rfl,⟨_,_,_,rfl,HO.out.1.low H.out.size⟩,a_c H.out HO.out.2⟩
 ·replace t0:=t0.trans (show decide ((4:Nat)=0)=false from rfl);replace t1:=t1.trans (show decide ((4:Nat)=1)=false from rfl);replace t2:=t2.trans (show decide ((4:Nat)=2)=false from rfl);rw [if_neg (by decide),if_neg (by decide),if_neg (by decide)] at L;subst L;clear t3 t4 k hl U;go_enter Tryz.func77,Tryz.ntmps77;go_wp2_with fail
  generalize D:World.alloc _ _=J;have H:Hid (Below w.heap.size w J):=by rw [<- D];exact a_b w _
  clear D;refine (ci.out J H.out).mono ?_;rintro e w1 ⟨v1,rfl,R,V⟩;obtain ⟨pa,na,ca,rfl,_⟩:=R.nums.lst;have HO:Hid (OwnK .i64 3 w1 J.heap.size (.slice pa na ca) d/\Below J.heap.size J w1):=⟨R,V⟩
  clear R V ci;go_wp2;go_ret2;exact ⟨_,rfl,⟨_,_,_,rfl,HO.out.1.low H.out.size⟩,a_c H.out HO.out.2⟩
theorem d_k (s:ByteArray) (a b:Int) (d:List Int) (hl:a_S (s,a,b)) (hd:InOk d) (E:a_s s=1->d.length=2) (p:Option Addr) (n c:Nat) (w:World) (hv:Nums .i64 w (.slice p n c) d):
  Calls Tryz.prog 58 #[.agg #[.string s,.int .i64 a,.int .i64 b],.slice p n c] w fun e w'=>∃ v',e = .returned v'/\ParR (c_t (s,a,b) d) v' w'/\Below w.heap.size w w':=by
 haveI:Nonempty World:=⟨w⟩
 obtain ⟨x,H⟩:∃ x,c_t (s,a,b) d=x:=⟨_,rfl⟩
 rw [H];have HV:Hid (Nums .i64 w (.slice p n c) d):=hv;obtain ⟨_,_,_,e,HC⟩:=hv.lst;cases e;clear hv;unfold c_t at H;obtain ⟨L,M,-,-,-⟩:=kts s;rcases (show a_s s=0∨a_s s=1∨(a_s s≠0/\a_s s≠1) by omega) with k|k|⟨k,k'⟩
 ·rw [k] at H L M;replace L:=L.trans (show decide ((0:Nat)=0)=true from rfl);rw [if_pos rfl] at H;simp only [] at H;obtain ⟨r,er⟩:∃ r,a_t d=r:=⟨_,rfl⟩
  have cs:Hid (∀ W,Below w.heap.size w W->Calls Tryz.prog 38 #[.slice p n c] W fun e w'=>e = .returned (.int .i64 r)/\w'=W):=fun W hW=>by
   rw [<- er];exact d_j _ d hd.smal W (HV.out.up hW)
  rw [er] at H;subst H;clear M k hl HC E hd er;go_enter Tryz.func58,Tryz.ntmps58;go_wp2;generalize D:World.alloc _ _=W0;have J:Hid (Below w.heap.size w W0):=by rw [<- D];exact a_b w _
  have b1:W0.cell? ⟨w.heap.size,1,none⟩=some (.int .i64 a):=by rw [<- D];simp [go_sem]
  have hz:=a_g b1;clear D;refine rel [⟨4,13,LitO [a,r]⟩,⟨7,16,LitO [a]⟩,⟨8,17,ParR [[a,r],[a]]⟩] 9 29 (by kernel_rfl) rfl rfl (by kernel_rfl) (by rfl) ?_ ?_
  ·intro e he v W W' h hb;simp only [List.mem_cons,List.not_mem_nil,or_false] at he;rcases he with rfl|rfl|rfl
   ·exact LitO.up h hb
   ·exact LitO.up h hb
   ·exact ParR.up h hb
  apply Exists.intro;refine ⟨fun x=>?_,?_,?_⟩
  ·simp only [List.take_succ_cons,List.take_zero]
   iterate 3
    refine a_l rfl rfl ?_;apply Exists.intro;refine ⟨fun F hF hf K hK=>?_,?_⟩
    ·have hFc:=hF.cell;have hFf:=hF.frozen
     go_big_quiet_op
     first|exact hK|(apply Exists.intro;refine ⟨fun _=>?_,?_⟩;(· fail);exact hK)
    (try simp only [Act.put,sA_,sB_,sC_])
   refine a_l rfl rfl ?_;apply Exists.intro;refine ⟨fun F hF hf K hK=>?_,?_⟩
   ·have hFc:=hF.cell;have hFf:=hF.frozen
    go_big_quiet_op
    first|exact hK|(apply Exists.intro;refine ⟨fun _=>?_,?_⟩;(· exact hF.same (cs.out _ (a_c J.out (hF.below _))));exact hK)
   (try simp only [Act.put,sA_,sB_,sC_])
   refine a_o rfl rfl ?_ ?_
   ·intro F hF hf d;have hFc:=hF.cell;have hFf:=hF.frozen;simp [a_j,a_f,go_sem];exact ⟨LitO.new (F d) [a,r] 2 rfl (by decide),a_b _ _⟩
   iterate 2
    (try simp only [Act.put,sA_,sB_,sC_])
    refine a_l rfl rfl ?_;apply Exists.intro;refine ⟨fun F hF hf K hK=>?_,?_⟩
    ·have hFc:=hF.cell;have hFf:=hF.frozen
     go_big_quiet_op
     first|exact hK|(apply Exists.intro;refine ⟨fun _=>?_,?_⟩;(· fail);exact hK)
   (try simp only [Act.put,sA_,sB_,sC_])
   refine a_o rfl rfl ?_ ?_
   ·intro F hF hf d;have hFc:=hF.cell;have hFf:=hF.frozen;simp [a_j,a_f,go_sem];exact ⟨LitO.new (F d) [a] 1 rfl (by decide),a_b _ _⟩
   (try simp only [Act.put,sA_,sB_,sC_])
   refine a_o rfl rfl ?_ ?_
   ·intro F hF hf d;have hFc:=hF.cell;have hFf:=hF.frozen;have h9:=hf _ List.mem_cons_self (by rfl) d;have h8:=hf _ (List.mem_cons_of_mem _ List.mem_cons_self) (by rfl) d;obtain ⟨g9,U,O⟩:=h9;obtain ⟨g8,e8,n8⟩:=h8;simp only [] at U O e8 n8;rw [U] at O;rw [e8] at n8;simp [a_j,a_f,go_sem,U,e8];exact ⟨ParR.two O n8,a_b _ _⟩
   (try simp only [Act.put,sA_,sB_,sC_])
   refine b_a ?_;exact rfl
  ·exact fun x=>rfl
  ·intro V xs I hf;simp only [List.drop_succ_cons,List.drop_zero];have R:=hf _ (List.mem_cons_of_mem _ (List.mem_cons_of_mem _ List.mem_cons_self));simp only [] at R;have H7:Hid (ParR [[a,r],[a]] (xs 8) V/\Below w.heap.size w V):=⟨R,a_c J.out I⟩
   obtain ⟨p7,c7,e7,_⟩:=R;generalize xs 8=v8 at H7 e7 ⊢;subst e7;clear hf I cs b1;go_wp2;go_ret;exact ⟨_,rfl,H7.out⟩
 ·rw [k] at H L M;replace L:=L.trans (show decide ((1:Nat)=0)=false from rfl);replace M:=M.trans (show decide ((1:Nat)=1)=true from rfl);rw [if_neg (by decide),if_pos rfl] at H;simp only [] at H
  obtain ⟨y,z,rfl⟩:∃ y z,d = [y,z]:=by
   have:=E k
   match d with
   | [y,z]=>exact ⟨y,z,rfl⟩
  have hn:n=2:=HC.out.1.symm;subst hn;obtain ⟨q,o,rfl,c0⟩:=HC.out.2 0 (by omega);simp only [List.getD_cons_zero,Nat.add_zero] at c0 H;subst H;clear HC HV E k hd hl;go_enter Tryz.func58,Tryz.ntmps58;go_wp2;generalize D:World.alloc _ _=W0;have J:Hid (Below w.heap.size w W0):=by rw [<- D];exact a_b w _
  have b1:W0.cell? ⟨w.heap.size,1,none⟩=some (.int .i64 a):=by rw [<- D];simp [go_sem]
  have b2:W0.cell? ⟨w.heap.size,2,none⟩=some (.int .i64 b):=by rw [<- D];simp [go_sem]
  replace c0:=a_h J.out c0;have hz:=a_g b1;have aa:=a_g c0;clear D;refine rel [⟨7,27,LitO [a,y,b]⟩,⟨8,28,ParR [[a,y,b]]⟩] 9 29 (by kernel_rfl) rfl rfl (by kernel_rfl) (by rfl) ?_ ?_
  ·intro e he v W W' h hb;simp only [List.mem_cons,List.not_mem_nil,or_false] at he;rcases he with rfl|rfl
   ·exact LitO.up h hb
   ·exact ParR.up h hb
  apply Exists.intro;refine ⟨fun x=>?_,?_,?_⟩
  ·simp only [List.take_succ_cons,List.take_zero]
   iterate 7
    refine a_l rfl rfl ?_;apply Exists.intro;refine ⟨fun F hF hf K hK=>?_,?_⟩
    ·have hFc:=hF.cell;have hFf:=hF.frozen
     go_big_quiet_op
     first|exact hK|(apply Exists.intro;refine ⟨fun _=>?_,?_⟩;(· fail);exact hK)
    (try simp only [Act.put,sA_,sB_,sC_])
   refine a_o rfl rfl ?_ ?_
   ·intro F hF hf d;have hFc:=hF.cell;have hFf:=hF.frozen;simp [a_j,a_f,go_sem];exact ⟨LitO.new (F d) [a,y,b] 3 rfl (by decide),a_b _ _⟩
   (try simp only [Act.put,sA_,sB_,sC_])
   refine a_o rfl rfl ?_ ?_
   ·intro F hF hf d;have hFc:=hF.cell;have hFf:=hF.frozen;have h9:=hf _ List.mem_cons_self (by rfl) d;obtain ⟨g9,U,O⟩:=h9;simp only [] at U O;rw [U] at O;simp [a_j,a_f,go_sem,U];exact ⟨ParR.one O,a_b _ _⟩
   (try simp only [Act.put,sA_,sB_,sC_])
   refine b_a ?_;exact rfl
  ·exact fun x=>rfl
  ·intro V xs I hf;simp only [List.drop_succ_cons,List.drop_zero];have R:=hf _ (List.mem_cons_of_mem _ List.mem_cons_self);simp only [] at R;have H7:Hid (ParR [[a,y,b]] (xs 8) V/\Below w.heap.size w V):=⟨R,a_c J.out I⟩
   obtain ⟨p7,c7,e7,_⟩:=R;generalize xs 8=v8 at H7 e7 ⊢;subst e7;clear hf I b1 b2 c0;go_wp2;go_ret;exact ⟨_,rfl,H7.out⟩
 ·replace L:=L.trans (decide_eq_false k);replace M:=M.trans (decide_eq_false k');rw [if_neg k,if_neg k'] at H;subst H;clear k k' hl hd E HC HV;go_enter Tryz.func58,Tryz.ntmps58;go_wp2;go_ret;exact ⟨_,rfl,ParR.nil _,a_b w _⟩
theorem i_T (p2 ps:Option Addr) (L c2 ns cs:Nat) (ls:List Ly) (S:List (List Int)) (i:Nat) (hi:i < ns) (ae:i < L) (aa:L<=1073741824) (D:∀ k,k < ns->(shA S k).length<=4) (w:World) (O:LyR 0 w p2 L ls) (J:RdS w ps ns S):
  Calls Tryz.prog 76 #[.slice p2 L c2,.slice ps ns cs,.int .i64 (i:Int)] w fun e R=>e = .returned (.bool (decide (c_Z ls S i)))/\∃ m,R=w.drewN m:=by
 obtain ⟨r,V⟩:∃ r,decide (c_Z ls S i)=r:=⟨_,rfl⟩
 have I:Hid (decide (c_Z ls S i)=r):=V;rw [V];clear V;cases i with
 | zero=>
  have e:r=false:=by rw [<- I.out];exact decide_eq_false fun h=>absurd h.1 (by omega)
  subst e;clear O J D I;rw [show ((0:Nat):Int)=0 from rfl];go_enter Tryz.func76,Tryz.ntmps76;go_wp2;go_quiet (fail)
  go_wp2;go_ret;exact ⟨rfl,_,rfl⟩
 | succ j=>
  rw [show ((j+1:Nat):Int)=(j:Int)+1 by omega];obtain ⟨q,o,rfl,c0,-,-⟩:=O.2 j (by omega);obtain ⟨x,M⟩:∃ x,(lyA ls j).1=x:=⟨_,rfl⟩
  rw [M] at c0;obtain ⟨-,-,-,-,E⟩:=kts x;have af:(0:Int) < (j:Int)+1:=by omega
  have ad:(j:Int) < (L:Int):=by omega
  have ag:(j:Int)+1 < (ns:Int):=by omega
  have ab:(j:Int) < (ns:Int):=by omega
  have ac:(j:Int)+1<=9223372036854775807:=by omega
  have ah:IntKind.i64.wrap (j:Int)=(j:Int):=by rw [IntKind.wrap_i64];omega
  by_cases H:a_s x=4
  ·have e:r=false:=by rw [<- I.out];exact decide_eq_false fun h=>h.2.1 (by simp only [Nat.add_sub_cancel];rw [M];exact (c_W x).2 H)
   subst e;replace E:=E.trans (decide_eq_true H);have t5:(x.toList != [115,107,105,112])=false:=by rw [bne,E];rfl
   clear O J D I M H;go_enter Tryz.func76,Tryz.ntmps76;go_wp2;go_quiet (fail)
   go_wp2;go_ret;exact ⟨rfl,_,rfl⟩
  ·replace E:=E.trans (decide_eq_false H);have t5:(x.toList != [115,107,105,112])=true:=by rw [bne,E];rfl
   obtain ⟨q1,o1,a1,b1,d1,rfl,s1,m1⟩:=J.2 j (by omega);obtain ⟨q2,o2,a2,b2,d2,e2,s2,m2⟩:=J.2 (j+1) hi;cases e2
   have ce:Hid (∀ m,Calls Tryz.prog 94 #[.slice a1 b1 d1,.slice a2 b2 d2] (w.drewN m) fun e R=>e = .returned (.bool r)/\∃ U,R=w.drewN U):=fun m=>by
    have hB:Below w.heap.size w (w.drewN m):=a_m (Below.refl _ _) m
    have hr:decide (shA S j=shA S (j+1))=r:=by
     rw [<- I.out];exact decide_eq_decide.2 ⟨fun h=>⟨by omega,by simp only [Nat.add_sub_cancel];rw [M];exact fun h=>H ((c_W x).1 h),h⟩,fun h=>h.2.2⟩
    have:=f_c _ _ (shA S j) (shA S (j+1)) (by have:=D j (by omega);omega) _ (m1.up hB) (m2.up hB);rw [hr] at this;exact this.mono fun e R ⟨h1,U,h2⟩=>⟨h1,m+U,by rw [h2,l_q]⟩
   clear O J D I M H m1 m2;go_enter Tryz.func76,Tryz.ntmps76;go_wp2;go_quiet (with_reducible exact ce.out _)
   go_wp2;go_ret;exact ⟨rfl,_,rfl⟩
/-- Is a shape of a row of them too great? -/
theorem o_F {S:List (List Int)} {n:Nat} (H:S.length=n) (h:∀ i,i < n->decide (4096 < a_t (shA S i))=false):i_i S=false:=by
 unfold i_i;rw [List.any_eq_false];intro s E;obtain ⟨i,D,rfl⟩:=List.getElem_of_mem E;have:=h i (by omega);unfold shA at this;rw [List.getD_eq_getElem?_getD,List.getElem?_eq_getElem D] at this;simpa using this
theorem q_M {S:List (List Int)} {i:Nat} (h:i < S.length):shA S i∈S:=by
 unfold shA;rw [List.getD_eq_getElem?_getD,List.getElem?_eq_getElem h];exact List.getElem_mem _
theorem q_N {S:List (List Int)} {i:Nat} (D:i < S.length) (h:decide (4096 < a_t (shA S i))=true):i_i S=true:=by
 unfold i_i;rw [List.any_eq_true];exact ⟨_,q_M D,h⟩
theorem k_S (p:Option Addr) (n c:Nat) (S:List (List Int)) (H:∀ i,i < n->k_P (shA S i)) (hn:n<=2147483648) (w:World) (U:RdS w p n S):
  Calls Tryz.prog 95 #[.slice p n c,.func (.func 79) #[] #[]] w fun e w'=>∃ x:Int,e = .returned (.int .i64 x)/\decide (0<=x)=i_i S/\w'=w:=by
 have R:∀ args W,(callFunc 79 args).run Tryz.prog W = .ok (.enter 79 args) W:=by intro args W;kernel_rfl
 have I:Hid (RdS w p n S):=U;have HM:Hid (∀ i,i < n->k_P (shA S i)):=H;clear U H;go_enter Tryz.func95,Tryz.ntmps95;go_wp2_with fail
 go_loopg [8] n (fun gg v wr=>∃ (k:Nat),k<=n/\gg=n - k/\v = .int .i64 (k:Int)/\Hid (∀ i,i < k->decide (4096 < a_t (shA S i))=false)/\wr=w)
 case atStart=>exact ⟨0,by omega,by omega,rfl,fun i hi=>by omega,rfl⟩
 case round=>
  obtain ⟨k,hk,hg,rfl,V,rfl⟩:=hrel;by_cases E:k < n
  ·have aa:(k:Int) < (n:Int):=by omega
   obtain ⟨q,o,a,b,d,rfl,s1,O⟩:=I.out.2 k E;obtain ⟨M,D⟩:∃ M,decide (4096 < a_t (shA S k))=M:=⟨_,rfl⟩
   have J:=o_D _ _ (HM.out k E) wr O;rw [D] at J;clear O;go_wp2_with fail
   refine J.mono ?_;rintro e w1 ⟨rfl,rfl⟩;clear J;cases M with
   | true=>
    have L:Hid (i_i S=true):=q_N (by rw [I.out.1];exact E) D;clear D;go_wp2;go_ret;exact ⟨_,rfl,by rw [L.out];simp,rfl⟩
   | false=>
    have HN:Hid (∀ i,i < k+1->decide (4096 < a_t (shA S i))=false):=fun i hi=>by
     rcases Nat.lt_succ_iff_lt_or_eq.1 hi with h2|rfl
     ·exact V.out i h2
     ·exact D
    clear D;go_wp2;go_roundg (n - (k+1))
    case measure=>omega
    case rel=>exact ⟨k+1,by omega,rfl,by first|rfl|simp,HN,rfl⟩
  ·obtain rfl:k=n:=by omega
   have L:Hid (i_i S=false):=o_F I.out.1 V.out;go_wp2;go_ret;exact ⟨_,rfl,by rw [L.out];rfl,rfl⟩
theorem e_m (p:Option Addr) (n c:Nat) (S:List (List Int)) (D:∀ i,i < n->k_P (shA S i)) (L:n<=2147483648) (w:World) (H:RdS w p n S):
  Calls Tryz.prog 78 #[.slice p n c,.func (.func 79) #[] #[]] w fun e O=>e = .returned (.bool (i_i S))/\O=w:=by
 have E:=k_S p n c S D L w H;obtain ⟨r,J⟩:∃ r,i_i S=r:=⟨_,rfl⟩
 rw [J] at E ⊢;clear H D J;go_enter Tryz.func78,Tryz.ntmps78;go_wp2_with fail
 refine E.mono ?_;rintro e R ⟨x,rfl,I,rfl⟩;have M:Hid (decide (0<=x)=r):=I;clear E I;go_wp2;go_ret;rw [<- M.out];exact ⟨rfl,rfl⟩
/-- What a good net's shapes are, as the walks below want them. -/
structure NetOk (d:List Int) (ls:List Ly) (S:List (List Int)):Prop where
 lay:∀ k,k < ls.length->a_S (lyA ls k)
 inn:∀ k,k < ls.length->InOk (shA S k)
 fit:∀ k,k < ls.length->a_s (lyA ls k).1=1->(shA S k).length=2
 len:S.length=ls.length+1
theorem q_O {l:Ly} {d o:List Int} (h:d_C l d=some o) (D:a_s l.1=1):d.length=2:=by
 unfold d_C at h;rw [D] at h;simp at h;exact h.1.1
theorem i_U {d:List Int} {ls:List Ly}:∀ {n i:Nat} {S:List (List Int)},shN d ls n=some S->i<=n->∃ D,shN d ls i=some D/\∀ k,k < i+1->shA S k=shA D k
 | 0,i,S,h,hi=>by
  obtain rfl:i=0:=by omega
  exact ⟨S,h,fun _ _=>rfl⟩
 | n+1,i,S,h,hi=>by
  rcases Nat.lt_or_ge i (n+1) with L|L
  ·cases E:shN d ls n with
   | none=>rw [b_o E (Nat.le_succ n)] at h;cases h
   | some S0=>
    rw [a_G E] at h;obtain ⟨o,rfl,_⟩:=e_k h;obtain ⟨D,J,H⟩:=i_U E (show i<=n by omega);exact ⟨D,J,fun k I=>by rw [d_U _ (by rw [c_U E];omega)];exact H k I⟩
  ·obtain rfl:i=n+1:=by omega
   exact ⟨S,h,fun _ _=>rfl⟩
theorem NetOk.of {d:List Int} {ls:List Ly} {S:List (List Int)} (hf:b_L d ls=true) (h:shN d ls ls.length=some S):NetOk d ls S:=by
 obtain ⟨J,H⟩:=(c_f d ls).1 hf;refine ⟨fun k D=>H _ (d_T D),fun k D=>e_l J H (Nat.le_refl _) h k (by omega),fun k D I=>?_,c_U h⟩;obtain ⟨R,E,O⟩:=i_U h (show k+1<=ls.length by omega);obtain ⟨U,L,g0⟩:=i_U E (show k<=k+1 by omega);rw [a_G L] at E;obtain ⟨o,_,M⟩:=e_k E;rw [O k (by omega),g0 k (by omega)];exact q_O M I
theorem f_O {l:Ly} {d:List Int} (U:a_S l) (O:InOk d):∀ i,i < (c_t l d).length->k_P (shA (c_t l d) i):=by
 have R:=O.prod;unfold c_t;rcases a_K U with ⟨-,k,H,I⟩|⟨-,k,H,I⟩|⟨-,k,H,I⟩|⟨-,k,H,I⟩|⟨-,k,H,I⟩ <;> rw [k] <;> intro i M <;> simp at M
 ·have:=a_3 H R;rcases (show i=0∨i=1 by omega) with rfl|rfl
  ·refine ⟨by simp [shA],fun k E=>?_⟩;rcases (show k=0∨k=1∨k=2 by simp [shA] at E;omega) with rfl|rfl|rfl <;> simp [shA,a_t] <;> (try change _<=l.2.1*a_t d/\l.2.1*a_t d<=_) <;> omega
  ·refine ⟨by simp [shA],fun k E=>?_⟩;rcases (show k=0∨k=1 by simp [shA] at E;omega) with rfl|rfl <;> simp [shA,a_t] <;> omega
 ·subst M;have L:0<=d.getD 0 0/\d.getD 0 0<=1024:=by rcases O with ⟨x,rfl,h⟩|⟨x,y,rfl,hx,V⟩ <;> simp <;> omega
  have D:0<=l.2.1*d.getD 0 0/\l.2.1*d.getD 0 0<=16*1024:=⟨Int.mul_nonneg (by omega) (by omega),Int.mul_le_mul H.2 L.2 L.1 (by omega)⟩
  have J:0<=l.2.1*d.getD 0 0*l.2.2/\l.2.1*d.getD 0 0*l.2.2<=16*1024*16:=⟨Int.mul_nonneg D.1 (by omega),Int.mul_le_mul D.2 I.2 (by omega) (by omega)⟩
  simp only [if_neg (show ¬ (1:Nat)=0 by omega),if_true];refine ⟨by simp [shA],fun k E=>?_⟩;generalize d.getD 0 0=e at L D J E ⊢;rcases (show k=0∨k=1∨k=2∨k=3 by simp [shA] at E;omega) with rfl|rfl|rfl|rfl <;> simp [shA,a_t] <;> omega
end Go.Proofs.YtjlofobnmjompaaGreatDoor.Wd
