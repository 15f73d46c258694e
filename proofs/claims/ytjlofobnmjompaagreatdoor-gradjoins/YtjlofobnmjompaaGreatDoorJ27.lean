/- The code's slices of shapes; outOf, canSkip, paramsOf. · The code's canSkip; whether a shape of a row is too great; countParams, tooMuch. -/
import Derived.Test.YtjlofobnmjompaaGreatDoorJ26
import Derived.Test.YtjlofobnmjompaaGreatDoorJ01
import Derived.Deep.RegionHeld3
set_option linter.unusedVariables false
set_option linter.unusedSimpArgs false
set_option maxHeartbeats 16000000
set_option maxRecDepth 16000
namespace Go.Proofs.YtjlofobnmjompaaGreatDoor.Wd
open Go.RowKit
/-- A slice of slices of numbers. -/
def RdS (W:World) (p:Option Addr) (n:Nat) (S:List (List Int)):Prop:=S.length=n∧∀ i,i < n→∃ q o a b c,p=some ⟨q,o,none⟩∧W.cell? ⟨q,o+i,none⟩=some (.slice a b c)∧Nums .i64 W (.slice a b c) (shA S i)
theorem RdS.up {W W':World} {p:Option Addr} {n:Nat} {S:List (List Int)} (h:RdS W p n S) (hB:Below W.heap.size W W'):RdS W' p n S:=⟨h.1,fun i hi=>by
 obtain ⟨q,o,a,b,c,e,h1,h2⟩:=h.2 i hi
 exact ⟨q,o,a,b,c,e,still_cell hB h1,h2.up hB⟩⟩
/-- A slice of slices of the call's own. -/
def OwnS (W:World) (B:Nat) (v:Value) (S:List (List Int)):Prop:=∃ vs,W.ownsRow B 30 1 v S.length vs∧∀ i,i < S.length→∃ a b c,vs[i]?=some (.slice a b c)∧OwnK .i64 3 W B (.slice a b c) (shA S i)
theorem OwnS.only {Q:List TypeId} {W W':World} {B:Nat} {v:Value} {S:List (List Int)} (h:OwnS W B v S) (ho:Only Q W W') (h1:30∉Q) (h2:3∉Q):OwnS W' B v S:=by
 obtain ⟨vs,h3,h4⟩:=h
 exact ⟨vs,owns_only h3 ho h1,fun i hi=>by
  obtain ⟨a,b,c,e,h5⟩:=h4 i hi
  exact ⟨a,b,c,e,h5.only ho h2⟩⟩
theorem OwnS.up {W W':World} {B:Nat} {v:Value} {S:List (List Int)} (h:OwnS W B v S) (hB:Below W.heap.size W W'):OwnS W' B v S:=h.only (Q:=[]) (Only.of hB) (by simp) (by simp)
theorem OwnS.low {W:World} {B B':Nat} {v:Value} {S:List (List Int)} (h:OwnS W B v S) (hB:B'≤B):OwnS W B' v S:=by
 obtain ⟨vs,h3,h4⟩:=h
 refine ⟨vs,⟨h3.1,?_⟩,fun i hi=>by
  obtain ⟨a,b,c,e,h5⟩:=h4 i hi
  exact ⟨a,b,c,e,h5.low hB⟩⟩
 rcases h3.2 with h|⟨g,cap,cur,e1,e2,e3⟩
 ·exact .inl h
 ·exact .inr ⟨g,cap,cur,e1,Nat.le_trans hB e2,e3⟩
theorem OwnS.nil (W:World) (B:Nat):OwnS W B (.slice none 0 0) []:=⟨[],⟨rfl,.inl ⟨rfl,rfl⟩⟩,fun i hi=>by simp at hi⟩
theorem OwnS.rd {W:World} {B:Nat} {v:Value} {S:List (List Int)} (h:OwnS W B v S):∃ p c,v = .slice p S.length c∧RdS W p S.length S:=by
 obtain ⟨vs,h3,h4⟩:=h
 have h3':=h3
 rcases h3.2 with ⟨rfl,h0⟩|⟨g,cap,cur,rfl,hB,h5,h6⟩
 ·exact ⟨none,0,by rw [h0],rfl,fun i hi=>by omega⟩
 ·refine ⟨_,cap,rfl,rfl,fun i hi=>?_⟩
  obtain ⟨a,b,c,e,h7⟩:=h4 i hi
  refine ⟨g,0,a,b,c,rfl,?_,h7.nums⟩
  have:=World.ownsRow.cells h3' rfl i _ e
  rw [addr_plus] at this
  exact this
def ParR (S:List (List Int)) (v:Value) (W:World):Prop:=∃ p c,v = .slice p S.length c∧RdS W p S.length S∧OwnS W 0 v S
theorem ParR.up {S:List (List Int)} {v:Value} {W W':World} (h:ParR S v W) (hB:Below W.heap.size W W'):ParR S v W':=by
 obtain ⟨p,c,e,h,h2⟩:=h
 exact ⟨p,c,e,h.up hB,h2.up hB⟩
theorem ParR.of {S:List (List Int)} {v:Value} {W:World} (h:OwnS W 0 v S):ParR S v W:=by
 obtain ⟨p,c,e,h2⟩:=h.rd
 exact ⟨p,c,e,h2,h⟩
theorem ParR.nil (W:World):ParR [] (.slice none 0 0) W:=ParR.of (OwnS.nil W 0)
/-- A literal of numbers, of the call's own. -/
def LitO (l:List Int) (v:Value) (W:World):Prop:=∃ g,v = .slice (some ⟨g,0,none⟩) l.length l.length∧OwnK .i64 3 W 0 v l
theorem LitO.up {l:List Int} {v:Value} {W W':World} (h:LitO l v W) (hB:Below W.heap.size W W'):LitO l v W':=by
 obtain ⟨g,e,h⟩:=h
 exact ⟨g,e,h.up hB⟩
theorem LitO.new (W:World) (l:List Int) (n:Nat) (h:l.length=n) (hn:n≤1073741824):LitO l (.slice (some ⟨W.heap.size,0,none⟩) n n) (W.alloc (.cells (vals .i64 l).toArray 3)):=⟨_,by rw [h],(own_lit W l n h hn).low (Nat.zero_le _)⟩
theorem ParR.one {W:World} {a:List Int} {g:Nat} (h:OwnK .i64 3 W 0 (.slice (some ⟨g,0,none⟩) a.length a.length) a):ParR [a] (.slice (some ⟨W.heap.size,0,none⟩) 1 1) (W.alloc (.cells #[.slice (some ⟨g,0,none⟩) a.length a.length] 30)):=by
 refine ParR.of ⟨[.slice (some ⟨g,0,none⟩) a.length a.length],⟨rfl,.inr ⟨W.heap.size,1,#[.slice (some ⟨g,0,none⟩) a.length a.length],rfl,Nat.zero_le _,Array.getElem?_push_size,Nat.le_refl _,by unfold maxLen;omega,rfl,rfl⟩⟩,fun i hi=>?_⟩
 obtain rfl:i=0:=by simp at hi;omega
 exact ⟨_,_,_,rfl,h.up (up_alloc W _)⟩
theorem ParR.two {W:World} {a b:List Int} {g g':Nat} (h:OwnK .i64 3 W 0 (.slice (some ⟨g,0,none⟩) a.length a.length) a) (h':OwnK .i64 3 W 0 (.slice (some ⟨g',0,none⟩) b.length b.length) b):ParR [a,b] (.slice (some ⟨W.heap.size,0,none⟩) 2 2) (W.alloc (.cells #[.slice (some ⟨g,0,none⟩) a.length a.length,.slice (some ⟨g',0,none⟩) b.length b.length] 30)):=by
 refine ParR.of ⟨[.slice (some ⟨g,0,none⟩) a.length a.length,.slice (some ⟨g',0,none⟩) b.length b.length],⟨rfl,.inr ⟨W.heap.size,2,#[.slice (some ⟨g,0,none⟩) a.length a.length,.slice (some ⟨g',0,none⟩) b.length b.length],rfl,Nat.zero_le _,Array.getElem?_push_size,Nat.le_refl _,by unfold maxLen;omega,rfl,rfl⟩⟩,fun i hi=>?_⟩
 rcases (show i=0∨i=1 by simp at hi;omega) with rfl|rfl
 ·exact ⟨_,_,_,rfl,h.up (up_alloc W _)⟩
 ·exact ⟨_,_,_,rfl,h'.up (up_alloc W _)⟩
theorem kts (s:ByteArray):(s.toList == [100,101,110,115,101])=decide (kindI s=0)∧(s.toList == [99,111,110,118])=decide (kindI s=1)∧(s.toList == [112,111,111,108])=decide (kindI s=2)∧(s.toList == [98,101,110,100])=decide (kindI s=3)∧(s.toList == [115,107,105,112])=decide (kindI s=4):=by
 have k:∀ j,j < 5→(s.toList==(kName j).toList)=decide (kindI s=j):=fun j hj=>by
  by_cases h:s=kName j
  ·rw [(Lib.bytes_beq_iff _ _).2 h,decide_eq_true (kind_at s j hj h.symm)]
  ·rw [str_ne h,decide_eq_false fun e=>h (by rw [← e];exact (kind_name s (by omega)).symm)]
 have e0:(kName 0).toList = [100,101,110,115,101]:=by first|decide +kernel|simp [kName,kDense]
 have e1:(kName 1).toList = [99,111,110,118]:=by first|decide +kernel|simp [kName,kConv]
 have e2:(kName 2).toList = [112,111,111,108]:=by first|decide +kernel|simp [kName,kPool]
 have e3:(kName 3).toList = [98,101,110,100]:=by first|decide +kernel|simp [kName,kBend]
 have e4:(kName 4).toList = [115,107,105,112]:=by first|decide +kernel|simp [kName,kSkip]
 rw [← e0,← e1,← e2,← e3,← e4]
 exact ⟨k 0 (by omega),k 1 (by omega),k 2 (by omega),k 3 (by omega),k 4 (by omega)⟩
theorem kskip (s:ByteArray):s=kSkip↔kindI s=4:=⟨fun h=>by rw [h];decide +kernel,fun h=>by rw [← kind_name s (by omega),h];rfl⟩
theorem own_litB {k:IntKind} {e:TypeId} (W:World) (l:List Int) (n g B:Nat) (h:l.length=n) (hn:n≤1073741824) (hg:W.heap.size=g) (hB:B≤g):OwnK k e (W.alloc (.cells (vals k l).toArray e)) B (.slice (some ⟨g,0,none⟩) n n) l:=by
 subst hg
 exact (own_lit W l n h hn).low hB
/-- What outOf hands back. -/
def OutR (x:Option (List Int)) (B:Nat) (v:Value) (W:World):Prop:=match x with
 | none=>v = .tuple #[.slice none 0 0,.bool false]
 | some o=>∃ p n c,v = .tuple #[.slice p n c,.bool true]∧OwnK .i64 3 W B (.slice p n c) o
theorem OutR.up {x:Option (List Int)} {B:Nat} {v:Value} {W W':World} (h:OutR x B v W) (hB:Below W.heap.size W W'):OutR x B v W':=by
 cases x with
 | none=>exact h
 | some o=>
  obtain ⟨p,n,c,e,h⟩:=h
  exact ⟨p,n,c,e,h.up hB⟩
theorem outOf_any (s:ByteArray) (a b:Int) (d:List Int) (hl:LayOk (s,a,b)) (hd:InOk d) (p:Option Addr) (n c:Nat) (w:World) (hv:Nums .i64 w (.slice p n c) d):
  Calls Tryz.prog 77 #[.agg #[.string s,.int .i64 a,.int .i64 b],.slice p n c] w fun e w'=>∃ v',e = .returned v'∧OutR (outD (s,a,b) d) w.heap.size v' w'∧Below w.heap.size w w':=by
 obtain ⟨x,ex⟩:∃ x,outD (s,a,b) d=x:=⟨_,rfl⟩
 rw [ex]
 have HV:Hid (Nums .i64 w (.slice p n c) d):=hv
 obtain ⟨_,_,_,e,HC⟩:=hv.lst
 cases e
 clear hv
 unfold outD at ex
 obtain ⟨t0,t1,t2,t3,t4⟩:=kts s
 have ci:Hid (∀ W,Below w.heap.size w W→Calls Tryz.prog 75 #[.slice p n c] W fun e w'=>∃ v',e = .returned v'∧OwnK .i64 3 w' W.heap.size v' d∧Below W.heap.size W w'):=fun W hW=>cloneI_any _ d (by have:=hd.smal.1;omega) W (HV.out.up hW)
 rcases layOk_cases hl with ⟨-,k,h1,h2⟩|⟨-,k,h1,h2⟩|⟨-,k,h1,h2⟩|⟨-,k,h1,h2⟩|⟨-,k,h1,h2⟩ <;> simp only [] at k h1 h2 <;> rw [k] at ex t0 t1 t2 t3 t4
 ·replace t0:=t0.trans (show decide ((0:Nat)=0)=true from rfl)
  rw [if_pos rfl] at ex
  subst ex
  clear t1 t2 t3 t4 k hl HC
  go_enter Tryz.func77,Tryz.ntmps77
  go_wp2
  go_ret2
  exact ⟨_,rfl,⟨_,_,_,rfl,own_litB (k:=.i64) (e:=3) _ [a] 1 _ _ rfl (by decide) (by simp) (by omega)⟩,by go_grown⟩
 ·replace t0:=t0.trans (show decide ((1:Nat)=0)=false from rfl)
  replace t1:=t1.trans (show decide ((1:Nat)=1)=true from rfl)
  rw [if_neg (by decide),if_pos rfl] at ex
  clear t2 t3 t4 k hl ci
  rcases hd with ⟨y,rfl,hy⟩|⟨y,z,rfl,hy,hz⟩
  ·have hn:n=1:=HC.out.1.symm
   subst hn
   rw [if_neg (by simp)] at ex
   subst ex
   go_enter Tryz.func77,Tryz.ntmps77
   go_wp2
   generalize hW0:World.alloc _ _=W0
   have hB0:Below w.heap.size w W0:=by rw [← hW0];exact up_alloc w _
   obtain ⟨b1,b2⟩:W0.cell? ⟨w.heap.size,1,none⟩=some (.int .i64 a)∧W0.cell? ⟨w.heap.size,2,none⟩=some (.int .i64 b):=by rw [← hW0];simp [go_sem]
   have HB0:Hid (Below w.heap.size w W0):=hB0
   clear hW0 hB0
   go_quiet (fail)
   go_wp2
   go_ret2
   exact ⟨_,rfl,rfl,below_drew HB0.out _⟩
  ·have hn:n=2:=HC.out.1.symm
   subst hn
   obtain ⟨q,o,rfl,c0⟩:=HC.out.2 0 (by omega)
   obtain ⟨q',o',e,c1⟩:=HC.out.2 1 (by omega)
   cases e
   simp only [List.getD_cons_zero,List.getD_cons_succ,Nat.add_zero] at c0 c1
   have hq:=cell_size c1
   simp only [List.length_cons,List.length_nil,List.getD_cons_zero,List.getD_cons_succ] at ex
   by_cases hbz:b≤z
   ·rw [if_pos ⟨trivial,hbz⟩] at ex
    subst ex
    clear HC HV c0
    go_enter Tryz.func77,Tryz.ntmps77
    go_wp2
    generalize hW0:World.alloc _ _=W0
    have HB0:Hid (Below w.heap.size w W0):=by rw [← hW0];exact up_alloc w _
    obtain ⟨b1,b2⟩:W0.cell? ⟨w.heap.size,1,none⟩=some (.int .i64 a)∧W0.cell? ⟨w.heap.size,2,none⟩=some (.int .i64 b):=by rw [← hW0];simp [go_sem]
    replace c1:=still_cell HB0.out c1
    clear hW0
    go_quiet (fail)
    go_wp2
    generalize hW1:World.drewN _ _=W1
    have HB1:Hid (Below w.heap.size w W1):=by rw [← hW1];exact below_drew HB0.out _
    obtain ⟨d1,d2,d3⟩:W1.cell? ⟨w.heap.size,1,none⟩=some (.int .i64 a)∧W1.cell? ⟨w.heap.size,2,none⟩=some (.int .i64 b)∧W1.cell? ⟨q,o+1,none⟩=some (.int .i64 z):=by rw [← hW1];exact ⟨b1,b2,c1⟩
    clear hW1 b1 b2 c1
    go_region
    all_goals
     go_wp2
     go_ret2
     exact ⟨_,rfl,⟨_,_,_,rfl,own_litB (k:=.i64) (e:=3) _ [a,z - b+1] 2 _ _ rfl (by decide) (by simp) HB1.out.size⟩,by have:=HB1.out;exact (blit this _).trans ⟨rfl,rfl,rfl,Nat.le_refl _,fun _ _=>rfl⟩⟩
   ·rw [if_neg fun h=>hbz h.2] at ex
    subst ex
    clear HC HV c0
    have hbz':z < b:=by omega
    go_enter Tryz.func77,Tryz.ntmps77
    go_wp2
    generalize hW0:World.alloc _ _=W0
    have HB0:Hid (Below w.heap.size w W0):=by rw [← hW0];exact up_alloc w _
    obtain ⟨b1,b2⟩:W0.cell? ⟨w.heap.size,1,none⟩=some (.int .i64 a)∧W0.cell? ⟨w.heap.size,2,none⟩=some (.int .i64 b):=by rw [← hW0];simp [go_sem]
    replace c1:=still_cell HB0.out c1
    clear hW0
    go_quiet (fail)
    go_wp2
    go_ret2
    exact ⟨_,rfl,rfl,below_drew HB0.out _⟩
 ·replace t0:=t0.trans (show decide ((2:Nat)=0)=false from rfl)
  replace t1:=t1.trans (show decide ((2:Nat)=1)=false from rfl)
  replace t2:=t2.trans (show decide ((2:Nat)=2)=true from rfl)
  rw [if_neg (by decide),if_neg (by decide),if_pos rfl] at ex
  clear t3 t4 k hl ci h2
  rcases hd with ⟨y,rfl,hy⟩|⟨y,z,rfl,hy,hz⟩
  ·have hn:n=1:=HC.out.1.symm
   subst hn
   rw [if_neg (by simp)] at ex
   subst ex
   go_enter Tryz.func77,Tryz.ntmps77
   go_wp2
   generalize hW0:World.alloc _ _=W0
   have hB0:Below w.heap.size w W0:=by rw [← hW0];exact up_alloc w _
   obtain ⟨b1,b2⟩:W0.cell? ⟨w.heap.size,1,none⟩=some (.int .i64 a)∧W0.cell? ⟨w.heap.size,2,none⟩=some (.int .i64 b):=by rw [← hW0];simp [go_sem]
   have HB0:Hid (Below w.heap.size w W0):=hB0
   clear hW0 hB0
   go_quiet (fail)
   go_wp2
   go_ret2
   exact ⟨_,rfl,rfl,below_drew HB0.out _⟩
  ·have hn:n=2:=HC.out.1.symm
   subst hn
   obtain ⟨q,o,rfl,c0⟩:=HC.out.2 0 (by omega)
   obtain ⟨q',o',e,c1⟩:=HC.out.2 1 (by omega)
   cases e
   simp only [List.getD_cons_zero,List.getD_cons_succ,Nat.add_zero] at c0 c1
   have hq:=cell_size c1
   simp only [List.length_cons,List.length_nil,List.getD_cons_zero,List.getD_cons_succ] at ex
   by_cases hbz:a≤z
   ·rw [if_pos ⟨trivial,hbz⟩] at ex
    subst ex
    clear HC HV
    obtain ⟨qq,eqq⟩:∃ qq,Int.tdiv z a=qq:=⟨_,rfl⟩
    have ha0:a≠0:=by omega
    have hqq:0≤qq∧qq≤64:=by
     rw [← eqq,Int.tdiv_eq_ediv_of_nonneg (by omega)]
     exact ⟨Int.ediv_nonneg (by omega) (by omega),by have:=Int.ediv_le_self a (a:=z) (by omega);omega⟩
    rw [eqq]
    go_enter Tryz.func77,Tryz.ntmps77
    go_wp2
    generalize hW0:World.alloc _ _=W0
    have HB0:Hid (Below w.heap.size w W0):=by rw [← hW0];exact up_alloc w _
    replace c0:=still_cell HB0.out c0
    obtain ⟨b1,b2⟩:W0.cell? ⟨w.heap.size,1,none⟩=some (.int .i64 a)∧W0.cell? ⟨w.heap.size,2,none⟩=some (.int .i64 b):=by rw [← hW0];simp [go_sem]
    replace c1:=still_cell HB0.out c1
    clear hW0
    go_quiet (fail)
    go_wp2
    generalize hW1:World.drewN _ _=W1
    have HB1:Hid (Below w.heap.size w W1):=by rw [← hW1];exact below_drew HB0.out _
    obtain ⟨d1,d2,d3,d4⟩:W1.cell? ⟨w.heap.size,1,none⟩=some (.int .i64 a)∧W1.cell? ⟨w.heap.size,2,none⟩=some (.int .i64 b)∧W1.cell? ⟨q,o+1,none⟩=some (.int .i64 z)∧W1.cell? ⟨q,o,none⟩=some (.int .i64 y):=by rw [← hW1];exact ⟨b1,b2,c1,c0⟩
    clear hW1 b1 b2 c1 c0
    go_region
    all_goals
     go_wp2
     go_ret2
     exact ⟨_,rfl,⟨_,_,_,rfl,own_litB (k:=.i64) (e:=3) _ [y,qq] 2 _ _ rfl (by decide) (by simp) HB1.out.size⟩,by have:=HB1.out;exact (blit this _).trans ⟨rfl,rfl,rfl,Nat.le_refl _,fun _ _=>rfl⟩⟩
   ·rw [if_neg fun h=>hbz h.2] at ex
    subst ex
    clear HC HV c0
    have hbz':z < a:=by omega
    go_enter Tryz.func77,Tryz.ntmps77
    go_wp2
    generalize hW0:World.alloc _ _=W0
    have HB0:Hid (Below w.heap.size w W0):=by rw [← hW0];exact up_alloc w _
    obtain ⟨b1,b2⟩:W0.cell? ⟨w.heap.size,1,none⟩=some (.int .i64 a)∧W0.cell? ⟨w.heap.size,2,none⟩=some (.int .i64 b):=by rw [← hW0];simp [go_sem]
    replace c1:=still_cell HB0.out c1
    clear hW0
    go_quiet (fail)
    go_wp2
    go_ret2
    exact ⟨_,rfl,rfl,below_drew HB0.out _⟩
 ·replace t0:=t0.trans (show decide ((3:Nat)=0)=false from rfl)
  replace t1:=t1.trans (show decide ((3:Nat)=1)=false from rfl)
  replace t2:=t2.trans (show decide ((3:Nat)=2)=false from rfl)
  rw [if_neg (by decide),if_neg (by decide),if_neg (by decide)] at ex
  subst ex
  clear t3 t4 k hl HC
  go_enter Tryz.func77,Tryz.ntmps77
  go_wp2_with fail
  generalize hW0:World.alloc _ _=W0
  have HB0:Hid (Below w.heap.size w W0):=by rw [← hW0];exact up_alloc w _
  clear hW0
  refine (ci.out W0 HB0.out).mono ?_
  rintro e w1 ⟨v1,rfl,ho1,hB1⟩
  obtain ⟨pa,na,ca,rfl,_⟩:=ho1.nums.lst
  have HO:Hid (OwnK .i64 3 w1 W0.heap.size (.slice pa na ca) d∧Below W0.heap.size W0 w1):=⟨ho1,hB1⟩
  clear ho1 hB1 ci
  go_wp2
  go_ret2
  exact ⟨_,rfl,⟨_,_,_,rfl,HO.out.1.low HB0.out.size⟩,bstep HB0.out HO.out.2⟩
 ·replace t0:=t0.trans (show decide ((4:Nat)=0)=false from rfl)
  replace t1:=t1.trans (show decide ((4:Nat)=1)=false from rfl)
  replace t2:=t2.trans (show decide ((4:Nat)=2)=false from rfl)
  rw [if_neg (by decide),if_neg (by decide),if_neg (by decide)] at ex
  subst ex
  clear t3 t4 k hl HC
  go_enter Tryz.func77,Tryz.ntmps77
  go_wp2_with fail
  generalize hW0:World.alloc _ _=W0
  have HB0:Hid (Below w.heap.size w W0):=by rw [← hW0];exact up_alloc w _
  clear hW0
  refine (ci.out W0 HB0.out).mono ?_
  rintro e w1 ⟨v1,rfl,ho1,hB1⟩
  obtain ⟨pa,na,ca,rfl,_⟩:=ho1.nums.lst
  have HO:Hid (OwnK .i64 3 w1 W0.heap.size (.slice pa na ca) d∧Below W0.heap.size W0 w1):=⟨ho1,hB1⟩
  clear ho1 hB1 ci
  go_wp2
  go_ret2
  exact ⟨_,rfl,⟨_,_,_,rfl,HO.out.1.low HB0.out.size⟩,bstep HB0.out HO.out.2⟩
theorem paramsOf_any (s:ByteArray) (a b:Int) (d:List Int) (hl:LayOk (s,a,b)) (hd:InOk d) (hfit:kindI s=1→d.length=2) (p:Option Addr) (n c:Nat) (w:World) (hv:Nums .i64 w (.slice p n c) d):
  Calls Tryz.prog 58 #[.agg #[.string s,.int .i64 a,.int .i64 b],.slice p n c] w fun e w'=>∃ v',e = .returned v'∧ParR (parD (s,a,b) d) v' w'∧Below w.heap.size w w':=by
 haveI:Nonempty World:=⟨w⟩
 obtain ⟨x,ex⟩:∃ x,parD (s,a,b) d=x:=⟨_,rfl⟩
 rw [ex]
 have HV:Hid (Nums .i64 w (.slice p n c) d):=hv
 obtain ⟨_,_,_,e,HC⟩:=hv.lst
 cases e
 clear hv
 unfold parD at ex
 obtain ⟨t0,t1,-,-,-⟩:=kts s
 rcases (show kindI s=0∨kindI s=1∨(kindI s≠0∧kindI s≠1) by omega) with k|k|⟨k,k'⟩
 ·rw [k] at ex t0 t1
  replace t0:=t0.trans (show decide ((0:Nat)=0)=true from rfl)
  rw [if_pos rfl] at ex
  simp only [] at ex
  obtain ⟨r,er⟩:∃ r,prodI d=r:=⟨_,rfl⟩
  have cs:Hid (∀ W,Below w.heap.size w W→Calls Tryz.prog 38 #[.slice p n c] W fun e w'=>e = .returned (.int .i64 r)∧w'=W):=fun W hW=>by
   rw [← er]
   exact csize_any _ d hd.smal W (HV.out.up hW)
  rw [er] at ex
  subst ex
  clear t1 k hl HC hfit hd er
  go_enter Tryz.func58,Tryz.ntmps58
  go_wp2
  generalize hW0:World.alloc _ _=W0
  have HB0:Hid (Below w.heap.size w W0):=by rw [← hW0];exact up_alloc w _
  have b1:W0.cell? ⟨w.heap.size,1,none⟩=some (.int .i64 a):=by rw [← hW0];simp [go_sem]
  have hz:=cell_size b1
  clear hW0
  refine rel [⟨4,13,LitO [a,r]⟩,⟨7,16,LitO [a]⟩,⟨8,17,ParR [[a,r],[a]]⟩] 9 29 (by kernel_rfl) rfl rfl (by kernel_rfl) (by rfl) ?_ ?_
  ·intro e he v W W' h hb
   simp only [List.mem_cons,List.not_mem_nil,or_false] at he
   rcases he with rfl|rfl|rfl
   ·exact LitO.up h hb
   ·exact LitO.up h hb
   ·exact ParR.up h hb
  apply Exists.intro
  refine ⟨fun x=>?_,?_,?_⟩
  ·simp only [List.take_succ_cons,List.take_zero]
   iterate 3
    refine relQuiet rfl rfl ?_
    apply Exists.intro
    refine ⟨fun F hF hf K hK=>?_,?_⟩
    ·have hFc:=hF.cell
     have hFf:=hF.frozen
     go_big_quiet_op
     first|exact hK|(apply Exists.intro;refine ⟨fun _=>?_,?_⟩;(· fail);exact hK)
    (try simp only [Act.put,List.setIfInBounds_toArray,List.set_cons_zero,List.set_cons_succ])
   refine relQuiet rfl rfl ?_
   apply Exists.intro
   refine ⟨fun F hF hf K hK=>?_,?_⟩
   ·have hFc:=hF.cell
    have hFf:=hF.frozen
    go_big_quiet_op
    first|exact hK|(apply Exists.intro;refine ⟨fun _=>?_,?_⟩;(· exact hF.same (cs.out _ (bstep HB0.out (hF.below _))));exact hK)
   (try simp only [Act.put,List.setIfInBounds_toArray,List.set_cons_zero,List.set_cons_succ])
   refine relTold rfl rfl ?_ ?_
   ·intro F hF hf d
    have hFc:=hF.cell
    have hFf:=hF.frozen
    simp [yieldsR,yieldsUpon,go_sem]
    exact ⟨LitO.new (F d) [a,r] 2 rfl (by decide),up_alloc _ _⟩
   iterate 2
    (try simp only [Act.put,List.setIfInBounds_toArray,List.set_cons_zero,List.set_cons_succ])
    refine relQuiet rfl rfl ?_
    apply Exists.intro
    refine ⟨fun F hF hf K hK=>?_,?_⟩
    ·have hFc:=hF.cell
     have hFf:=hF.frozen
     go_big_quiet_op
     first|exact hK|(apply Exists.intro;refine ⟨fun _=>?_,?_⟩;(· fail);exact hK)
   (try simp only [Act.put,List.setIfInBounds_toArray,List.set_cons_zero,List.set_cons_succ])
   refine relTold rfl rfl ?_ ?_
   ·intro F hF hf d
    have hFc:=hF.cell
    have hFf:=hF.frozen
    simp [yieldsR,yieldsUpon,go_sem]
    exact ⟨LitO.new (F d) [a] 1 rfl (by decide),up_alloc _ _⟩
   (try simp only [Act.put,List.setIfInBounds_toArray,List.set_cons_zero,List.set_cons_succ])
   refine relTold rfl rfl ?_ ?_
   ·intro F hF hf d
    have hFc:=hF.cell
    have hFf:=hF.frozen
    have h9:=hf _ List.mem_cons_self (by rfl) d
    have h8:=hf _ (List.mem_cons_of_mem _ List.mem_cons_self) (by rfl) d
    obtain ⟨g9,e9,n9⟩:=h9
    obtain ⟨g8,e8,n8⟩:=h8
    simp only [] at e9 n9 e8 n8
    rw [e9] at n9
    rw [e8] at n8
    simp [yieldsR,yieldsUpon,go_sem,e9,e8]
    exact ⟨ParR.two n9 n8,up_alloc _ _⟩
   (try simp only [Act.put,List.setIfInBounds_toArray,List.set_cons_zero,List.set_cons_succ])
   refine relEnd ?_
   exact rfl
  ·exact fun x=>rfl
  ·intro w9 xs hB9 hf
   simp only [List.drop_succ_cons,List.drop_zero]
   have h7:=hf _ (List.mem_cons_of_mem _ (List.mem_cons_of_mem _ List.mem_cons_self))
   simp only [] at h7
   have H7:Hid (ParR [[a,r],[a]] (xs 8) w9∧Below w.heap.size w w9):=⟨h7,bstep HB0.out hB9⟩
   obtain ⟨p7,c7,e7,_⟩:=h7
   generalize xs 8=v8 at H7 e7 ⊢
   subst e7
   clear hf hB9 cs b1
   go_wp2
   go_ret
   exact ⟨_,rfl,H7.out⟩
 ·rw [k] at ex t0 t1
  replace t0:=t0.trans (show decide ((1:Nat)=0)=false from rfl)
  replace t1:=t1.trans (show decide ((1:Nat)=1)=true from rfl)
  rw [if_neg (by decide),if_pos rfl] at ex
  simp only [] at ex
  obtain ⟨y,z,rfl⟩:∃ y z,d = [y,z]:=by
   have:=hfit k
   match d with
   | [y,z]=>exact ⟨y,z,rfl⟩
  have hn:n=2:=HC.out.1.symm
  subst hn
  obtain ⟨q,o,rfl,c0⟩:=HC.out.2 0 (by omega)
  simp only [List.getD_cons_zero,Nat.add_zero] at c0 ex
  subst ex
  clear HC HV hfit k hd hl
  go_enter Tryz.func58,Tryz.ntmps58
  go_wp2
  generalize hW0:World.alloc _ _=W0
  have HB0:Hid (Below w.heap.size w W0):=by rw [← hW0];exact up_alloc w _
  have b1:W0.cell? ⟨w.heap.size,1,none⟩=some (.int .i64 a):=by rw [← hW0];simp [go_sem]
  have b2:W0.cell? ⟨w.heap.size,2,none⟩=some (.int .i64 b):=by rw [← hW0];simp [go_sem]
  replace c0:=still_cell HB0.out c0
  have hz:=cell_size b1
  have hzq:=cell_size c0
  clear hW0
  refine rel [⟨7,27,LitO [a,y,b]⟩,⟨8,28,ParR [[a,y,b]]⟩] 9 29 (by kernel_rfl) rfl rfl (by kernel_rfl) (by rfl) ?_ ?_
  ·intro e he v W W' h hb
   simp only [List.mem_cons,List.not_mem_nil,or_false] at he
   rcases he with rfl|rfl
   ·exact LitO.up h hb
   ·exact ParR.up h hb
  apply Exists.intro
  refine ⟨fun x=>?_,?_,?_⟩
  ·simp only [List.take_succ_cons,List.take_zero]
   iterate 7
    refine relQuiet rfl rfl ?_
    apply Exists.intro
    refine ⟨fun F hF hf K hK=>?_,?_⟩
    ·have hFc:=hF.cell
     have hFf:=hF.frozen
     go_big_quiet_op
     first|exact hK|(apply Exists.intro;refine ⟨fun _=>?_,?_⟩;(· fail);exact hK)
    (try simp only [Act.put,List.setIfInBounds_toArray,List.set_cons_zero,List.set_cons_succ])
   refine relTold rfl rfl ?_ ?_
   ·intro F hF hf d
    have hFc:=hF.cell
    have hFf:=hF.frozen
    simp [yieldsR,yieldsUpon,go_sem]
    exact ⟨LitO.new (F d) [a,y,b] 3 rfl (by decide),up_alloc _ _⟩
   (try simp only [Act.put,List.setIfInBounds_toArray,List.set_cons_zero,List.set_cons_succ])
   refine relTold rfl rfl ?_ ?_
   ·intro F hF hf d
    have hFc:=hF.cell
    have hFf:=hF.frozen
    have h9:=hf _ List.mem_cons_self (by rfl) d
    obtain ⟨g9,e9,n9⟩:=h9
    simp only [] at e9 n9
    rw [e9] at n9
    simp [yieldsR,yieldsUpon,go_sem,e9]
    exact ⟨ParR.one n9,up_alloc _ _⟩
   (try simp only [Act.put,List.setIfInBounds_toArray,List.set_cons_zero,List.set_cons_succ])
   refine relEnd ?_
   exact rfl
  ·exact fun x=>rfl
  ·intro w9 xs hB9 hf
   simp only [List.drop_succ_cons,List.drop_zero]
   have h7:=hf _ (List.mem_cons_of_mem _ List.mem_cons_self)
   simp only [] at h7
   have H7:Hid (ParR [[a,y,b]] (xs 8) w9∧Below w.heap.size w w9):=⟨h7,bstep HB0.out hB9⟩
   obtain ⟨p7,c7,e7,_⟩:=h7
   generalize xs 8=v8 at H7 e7 ⊢
   subst e7
   clear hf hB9 b1 b2 c0
   go_wp2
   go_ret
   exact ⟨_,rfl,H7.out⟩
 ·replace t0:=t0.trans (decide_eq_false k)
  replace t1:=t1.trans (decide_eq_false k')
  rw [if_neg k,if_neg k'] at ex
  subst ex
  clear k k' hl hd hfit HC HV
  go_enter Tryz.func58,Tryz.ntmps58
  go_wp2
  go_ret
  exact ⟨_,rfl,ParR.nil _,up_alloc w _⟩
theorem canSkip_any (p2 ps:Option Addr) (n2 c2 ns cs:Nat) (ls:List Ly) (S:List (List Int)) (i:Nat) (hi:i < ns) (hi2:i < n2) (hbig:n2≤1073741824) (hin:∀ k,k < ns→(shA S k).length≤4) (w:World) (hL:LyR 0 w p2 n2 ls) (hS:RdS w ps ns S):
  Calls Tryz.prog 76 #[.slice p2 n2 c2,.slice ps ns cs,.int .i64 (i:Int)] w fun e w'=>e = .returned (.bool (decide (SkipOk ls S i)))∧∃ m,w'=w.drewN m:=by
 obtain ⟨r,er⟩:∃ r,decide (SkipOk ls S i)=r:=⟨_,rfl⟩
 have HR:Hid (decide (SkipOk ls S i)=r):=er
 rw [er]
 clear er
 cases i with
 | zero=>
  have e:r=false:=by rw [← HR.out];exact decide_eq_false fun h=>absurd h.1 (by omega)
  subst e
  clear hL hS hin HR
  rw [show ((0:Nat):Int)=0 from rfl]
  go_enter Tryz.func76,Tryz.ntmps76
  go_wp2
  go_quiet (fail)
  go_wp2
  go_ret
  exact ⟨rfl,_,rfl⟩
 | succ j=>
  rw [show ((j+1:Nat):Int)=(j:Int)+1 by omega]
  obtain ⟨q,o,rfl,c0,-,-⟩:=hL.2 j (by omega)
  obtain ⟨x,ex⟩:∃ x,(lyA ls j).1=x:=⟨_,rfl⟩
  rw [ex] at c0
  obtain ⟨-,-,-,-,t4⟩:=kts x
  have hj0:(0:Int) < (j:Int)+1:=by omega
  have hj2:(j:Int) < (n2:Int):=by omega
  have hjs:(j:Int)+1 < (ns:Int):=by omega
  have hjs':(j:Int) < (ns:Int):=by omega
  have hjr:(j:Int)+1≤9223372036854775807:=by omega
  have hjw:IntKind.i64.wrap (j:Int)=(j:Int):=by rw [IntKind.wrap_i64];omega
  by_cases hk:kindI x=4
  ·have e:r=false:=by rw [← HR.out];exact decide_eq_false fun h=>h.2.1 (by simp only [Nat.add_sub_cancel];rw [ex];exact (kskip x).2 hk)
   subst e
   replace t4:=t4.trans (decide_eq_true hk)
   have t5:(x.toList != [115,107,105,112])=false:=by rw [bne,t4];rfl
   clear hL hS hin HR ex hk
   go_enter Tryz.func76,Tryz.ntmps76
   go_wp2
   go_quiet (fail)
   go_wp2
   go_ret
   exact ⟨rfl,_,rfl⟩
  ·replace t4:=t4.trans (decide_eq_false hk)
   have t5:(x.toList != [115,107,105,112])=true:=by rw [bne,t4];rfl
   obtain ⟨q1,o1,a1,b1,d1,rfl,s1,m1⟩:=hS.2 j (by omega)
   obtain ⟨q2,o2,a2,b2,d2,e2,s2,m2⟩:=hS.2 (j+1) hi
   cases e2
   have ce:Hid (∀ m,Calls Tryz.prog 94 #[.slice a1 b1 d1,.slice a2 b2 d2] (w.drewN m) fun e w'=>e = .returned (.bool r)∧∃ m',w'=w.drewN m'):=fun m=>by
    have hB:Below w.heap.size w (w.drewN m):=below_drew (Below.refl _ _) m
    have hr:decide (shA S j=shA S (j+1))=r:=by
     rw [← HR.out]
     exact decide_eq_decide.2 ⟨fun h=>⟨by omega,by simp only [Nat.add_sub_cancel];rw [ex];exact fun h=>hk ((kskip x).1 h),h⟩,fun h=>h.2.2⟩
    have:=equal_any _ _ (shA S j) (shA S (j+1)) (by have:=hin j (by omega);omega) _ (m1.up hB) (m2.up hB)
    rw [hr] at this
    exact this.mono fun e w' ⟨h1,m',h2⟩=>⟨h1,m+m',by rw [h2,drewN_add]⟩
   clear hL hS hin HR ex hk m1 m2
   go_enter Tryz.func76,Tryz.ntmps76
   go_wp2
   go_quiet (with_reducible exact ce.out _)
   go_wp2
   go_ret
   exact ⟨rfl,_,rfl⟩
/-- Is a shape of a row of them too great? -/
theorem bigS_all {S:List (List Int)} {n:Nat} (hn:S.length=n) (h:∀ i,i < n→decide (4096 < prodI (shA S i))=false):bigS S=false:=by
 unfold bigS
 rw [List.any_eq_false]
 intro s hs
 obtain ⟨i,hi,rfl⟩:=List.getElem_of_mem hs
 have:=h i (by omega)
 unfold shA at this
 rw [List.getD_eq_getElem?_getD,List.getElem?_eq_getElem hi] at this
 simpa using this
theorem shA_mem {S:List (List Int)} {i:Nat} (h:i < S.length):shA S i∈S:=by
 unfold shA
 rw [List.getD_eq_getElem?_getD,List.getElem?_eq_getElem h]
 exact List.getElem_mem _
theorem bigS_at {S:List (List Int)} {i:Nat} (hi:i < S.length) (h:decide (4096 < prodI (shA S i))=true):bigS S=true:=by
 unfold bigS
 rw [List.any_eq_true]
 exact ⟨_,shA_mem hi,h⟩
theorem indexF_any (p:Option Addr) (n c:Nat) (S:List (List Int)) (hsm:∀ i,i < n→Smal (shA S i)) (hn:n≤2147483648) (w:World) (hS:RdS w p n S):
  Calls Tryz.prog 95 #[.slice p n c,.func (.func 79) #[] #[]] w fun e w'=>∃ x:Int,e = .returned (.int .i64 x)∧decide (0≤x)=bigS S∧w'=w:=by
 have hEnt:∀ args W,(callFunc 79 args).run Tryz.prog W = .ok (.enter 79 args) W:=by intro args W;kernel_rfl
 have HS:Hid (RdS w p n S):=hS
 have HM:Hid (∀ i,i < n→Smal (shA S i)):=hsm
 clear hS hsm
 go_enter Tryz.func95,Tryz.ntmps95
 go_wp2_with fail
 go_loopg [8] n (fun gg v wr=>∃ (k:Nat),k≤n∧gg=n - k∧v = .int .i64 (k:Int)∧Hid (∀ i,i < k→decide (4096 < prodI (shA S i))=false)∧wr=w)
 case atStart=>exact ⟨0,by omega,by omega,rfl,fun i hi=>by omega,rfl⟩
 case round=>
  obtain ⟨k,hk,hg,rfl,Hx,rfl⟩:=hrel
  by_cases hkn:k < n
  ·have hk':(k:Int) < (n:Int):=by omega
   obtain ⟨q,o,a,b,d,rfl,s1,m1⟩:=HS.out.2 k hkn
   obtain ⟨qb,eqb⟩:∃ qb,decide (4096 < prodI (shA S k))=qb:=⟨_,rfl⟩
   have ct:=ctoo_any _ _ (HM.out k hkn) wr m1
   rw [eqb] at ct
   clear m1
   go_wp2_with fail
   refine ct.mono ?_
   rintro e w1 ⟨rfl,rfl⟩
   clear ct
   cases qb with
   | true=>
    have Hb:Hid (bigS S=true):=bigS_at (by rw [HS.out.1];exact hkn) eqb
    clear eqb
    go_wp2
    go_ret
    exact ⟨_,rfl,by rw [Hb.out];simp,rfl⟩
   | false=>
    have HN:Hid (∀ i,i < k+1→decide (4096 < prodI (shA S i))=false):=fun i hi=>by
     rcases Nat.lt_succ_iff_lt_or_eq.1 hi with h2|rfl
     ·exact Hx.out i h2
     ·exact eqb
    clear eqb
    go_wp2
    go_roundg (n - (k+1))
    case measure=>omega
    case rel=>exact ⟨k+1,by omega,rfl,by first|rfl|simp,HN,rfl⟩
  ·obtain rfl:k=n:=by omega
   have Hb:Hid (bigS S=false):=bigS_all HS.out.1 Hx.out
   go_wp2
   go_ret
   exact ⟨_,rfl,by rw [Hb.out];rfl,rfl⟩
theorem containsF_any (p:Option Addr) (n c:Nat) (S:List (List Int)) (hsm:∀ i,i < n→Smal (shA S i)) (hn:n≤2147483648) (w:World) (hS:RdS w p n S):
  Calls Tryz.prog 78 #[.slice p n c,.func (.func 79) #[] #[]] w fun e w'=>e = .returned (.bool (bigS S))∧w'=w:=by
 have ci:=indexF_any p n c S hsm hn w hS
 obtain ⟨r,er⟩:∃ r,bigS S=r:=⟨_,rfl⟩
 rw [er] at ci ⊢
 clear hS hsm er
 go_enter Tryz.func78,Tryz.ntmps78
 go_wp2_with fail
 refine ci.mono ?_
 rintro e w1 ⟨x,rfl,hx,rfl⟩
 have HX:Hid (decide (0≤x)=r):=hx
 clear ci hx
 go_wp2
 go_ret
 rw [← HX.out]
 exact ⟨rfl,rfl⟩
/-- What a good net's shapes are, as the walks below want them. -/
structure NetOk (d:List Int) (ls:List Ly) (S:List (List Int)):Prop where
 lay:∀ k,k < ls.length→LayOk (lyA ls k)
 inn:∀ k,k < ls.length→InOk (shA S k)
 fit:∀ k,k < ls.length→kindI (lyA ls k).1=1→(shA S k).length=2
 len:S.length=ls.length+1
theorem out_fit {l:Ly} {d o:List Int} (h:outD l d=some o) (hk:kindI l.1=1):d.length=2:=by
 unfold outD at h
 rw [hk] at h
 simp at h
 exact h.1.1
theorem shN_pre {d:List Int} {ls:List Ly}:∀ {n i:Nat} {S:List (List Int)},shN d ls n=some S→i≤n→∃ S',shN d ls i=some S'∧∀ k,k < i+1→shA S k=shA S' k
 | 0,i,S,h,hi=>by
  obtain rfl:i=0:=by omega
  exact ⟨S,h,fun _ _=>rfl⟩
 | n+1,i,S,h,hi=>by
  rcases Nat.lt_or_ge i (n+1) with h1|h1
  ·cases hs:shN d ls n with
   | none=>rw [shN_stop hs (Nat.le_succ n)] at h;cases h
   | some S0=>
    rw [shN_succ hs] at h
    obtain ⟨o,rfl,_⟩:=stepS_pre h
    obtain ⟨S',h2,h3⟩:=shN_pre hs (show i≤n by omega)
    exact ⟨S',h2,fun k hk=>by rw [shA_app _ (by rw [shN_len hs];omega)];exact h3 k hk⟩
  ·obtain rfl:i=n+1:=by omega
   exact ⟨S,h,fun _ _=>rfl⟩
theorem NetOk.of {d:List Int} {ls:List Ly} {S:List (List Int)} (hf:formB d ls=true) (h:shN d ls ls.length=some S):NetOk d ls S:=by
 obtain ⟨h1,h2⟩:=(formB_iff d ls).1 hf
 refine ⟨fun k hk=>h2 _ (lyA_mem hk),fun k hk=>shN_in h1 h2 (Nat.le_refl _) h k (by omega),fun k hk hc=>?_,shN_len h⟩
 obtain ⟨S1,e1,g1⟩:=shN_pre h (show k+1≤ls.length by omega)
 obtain ⟨S0,e0,g0⟩:=shN_pre e1 (show k≤k+1 by omega)
 rw [shN_succ e0] at e1
 obtain ⟨o,_,ho⟩:=stepS_pre e1
 rw [g1 k (by omega),g0 k (by omega)]
 exact out_fit ho hc
theorem parD_smal {l:Ly} {d:List Int} (hl:LayOk l) (hd:InOk d):∀ i,i < (parD l d).length→Smal (shA (parD l d) i):=by
 have hp:=hd.prod
 unfold parD
 rcases layOk_cases hl with ⟨-,k,h1,h2⟩|⟨-,k,h1,h2⟩|⟨-,k,h1,h2⟩|⟨-,k,h1,h2⟩|⟨-,k,h1,h2⟩ <;> rw [k] <;> intro i hi <;> simp at hi
 ·have:=mprod_rng h1 hp
  rcases (show i=0∨i=1 by omega) with rfl|rfl
  ·refine ⟨by simp [shA],fun k hk=>?_⟩
   rcases (show k=0∨k=1∨k=2 by simp [shA] at hk;omega) with rfl|rfl|rfl <;> simp [shA,prodI] <;> (try change _≤l.2.1*prodI d∧l.2.1*prodI d≤_) <;> omega
  ·refine ⟨by simp [shA],fun k hk=>?_⟩
   rcases (show k=0∨k=1 by simp [shA] at hk;omega) with rfl|rfl <;> simp [shA,prodI] <;> omega
 ·subst hi
  have h0:0≤d.getD 0 0∧d.getD 0 0≤1024:=by rcases hd with ⟨x,rfl,h⟩|⟨x,y,rfl,hx,hy⟩ <;> simp <;> omega
  have h01:0≤l.2.1*d.getD 0 0∧l.2.1*d.getD 0 0≤16*1024:=⟨Int.mul_nonneg (by omega) (by omega),Int.mul_le_mul h1.2 h0.2 h0.1 (by omega)⟩
  have h02:0≤l.2.1*d.getD 0 0*l.2.2∧l.2.1*d.getD 0 0*l.2.2≤16*1024*16:=⟨Int.mul_nonneg h01.1 (by omega),Int.mul_le_mul h01.2 h2.2 (by omega) (by omega)⟩
  simp only [if_neg (show ¬ (1:Nat)=0 by omega),if_true]
  refine ⟨by simp [shA],fun k hk=>?_⟩
  generalize d.getD 0 0=e at h0 h01 h02 hk ⊢
  rcases (show k=0∨k=1∨k=2∨k=3 by simp [shA] at hk;omega) with rfl|rfl|rfl|rfl <;> simp [shA,prodI] <;> omega
end Go.Proofs.YtjlofobnmjompaaGreatDoor.Wd
