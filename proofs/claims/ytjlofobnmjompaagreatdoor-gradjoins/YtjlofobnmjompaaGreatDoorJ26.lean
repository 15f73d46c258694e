/- The code's nets: layers and nets as a walk reads them; kinds, and whether numbers may be. · The code's inFits, layerFits, numbersFit. -/
import Derived.Test.YtjlofobnmjompaaGreatDoorJ25
import Derived.Test.YtjlofobnmjompaaGreatDoorJ02
import Derived.Test.YtjlofobnmjompaaGreatDoorJ00
import Derived.Deep.MidRow
import Derived.Lib.SlicesS
set_option linter.unusedVariables false
set_option linter.unusedSimpArgs false
set_option maxHeartbeats 16000000
set_option maxRecDepth 16000
namespace Go.Proofs.YtjlofobnmjompaaGreatDoor.Wd
open Go.RowKit
/-- A slice of layers. -/
def LyR (L:TypeId) (W:World) (p:Option Addr) (n:Nat) (ls:List Ly):Prop:=ls.length=n∧∀ i,i < n→∃ q o,p=some ⟨q,o,none⟩∧W.cell? ⟨q,o+i*3,none⟩=some (.string (lyA ls i).1)∧W.cell? ⟨q,o+i*3+1,none⟩=some (.int .i64 (lyA ls i).2.1)∧W.cell? ⟨q,o+i*3+2,none⟩=some (.int .i64 (lyA ls i).2.2)
theorem LyR.up {L:TypeId} {W W':World} {p:Option Addr} {n:Nat} {ls:List Ly} (h:LyR L W p n ls) (hB:Below W.heap.size W W'):LyR L W' p n ls:=⟨h.1,fun i hi=>by
 obtain ⟨q,o,e,h1,h2,h3⟩:=h.2 i hi
 exact ⟨q,o,e,still_cell hB h1,still_cell hB h2,still_cell hB h3⟩⟩
def Kz (w:World):Prop:=∀ i,i < 5→w.cell? ⟨0,i*4,none⟩=some (.string (kName i))∧w.cell? ⟨0,i*4+1,none⟩=some (.int .i64 (kCnt i))∧w.cell? ⟨0,i*4+2,none⟩=some (.int .i64 (kTopA i))∧w.cell? ⟨0,i*4+3,none⟩=some (.int .i64 (kTopB i))
theorem Hid.up_kz {w w1:World} (h:Hid (Kz w)) (hb:Below w.heap.size w w1):Hid (Kz w1):=fun i hi=>by
 obtain ⟨h1,h2,h3,h4⟩:=h.out i hi
 exact ⟨still_cell hb h1,still_cell hb h2,still_cell hb h3,still_cell hb h4⟩
theorem within_any (v t:Int) (w:World):Calls Tryz.prog 92 #[.int .i64 v,.int .i64 t] w fun e w'=>e = .returned (.bool (decide (1≤v∧v≤t)))∧w'=w:=by
 obtain ⟨z,ez⟩:∃ z,decide (1≤v∧v≤t)=z:=⟨_,rfl⟩
 have HZ:Hid (decide (1≤v∧v≤t)=z):=ez
 rw [ez]
 clear ez
 go_enter Tryz.func92,Tryz.ntmps92
 by_cases h1:1≤v
 ·by_cases h2:v≤t
  ·go_wp2
   go_ret
   exact ⟨by rw [← HZ.out,decide_eq_true ⟨h1,h2⟩];rfl,rfl⟩
  ·have h2':t < v:=by omega
   go_wp2
   go_ret
   exact ⟨by rw [← HZ.out,decide_eq_false fun h=>by omega];rfl,rfl⟩
 ·have h1':v < 1:=by omega
  go_wp2
  go_ret
  exact ⟨by rw [← HZ.out,decide_eq_false fun h=>by omega];rfl,rfl⟩
theorem prodI_snoc (l:List Int) (x:Int):prodI (l++[x])=prodI l*x:=by simp [prodI]
/-- Sides so small that their product can't run over. -/
def Smal (l:List Int):Prop:=l.length≤4∧∀ k,k≤l.length→-9223372036854775808≤prodI (l.take k)∧prodI (l.take k)≤9223372036854775807
theorem csize_any (v:Value) (l:List Int) (hl:Smal l) (w:World) (hv:Nums .i64 w v l):
  Calls Tryz.prog 38 #[v] w fun e w'=>e = .returned (.int .i64 (prodI l))∧w'=w:=by
 obtain ⟨p,n,c,rfl,HC⟩:=hv.lst
 have HL:Hid (Smal l):=hl
 have hn4:(n:Int)≤4:=by have:=hl.1;rw [HC.out.1] at this;omega
 obtain ⟨r,er⟩:∃ r:Int,prodI l=r:=⟨_,rfl⟩
 have HR:Hid (prodI l=r):=er
 rw [er]
 clear er hv hl
 go_enter Tryz.func38,Tryz.ntmps38
 go_wp2_with fail
 go_loopg [3,8] n (fun gg u v wr=>∃ (k:Nat) (x:Int),k≤n∧gg=n - k∧u = .int .i64 x∧v = .int .i64 (k:Int)∧Hid (x=prodI (l.take k))∧wr=w)
 case atStart=>exact ⟨0,1,by omega,by omega,rfl,rfl,rfl,rfl⟩
 case round=>
  obtain ⟨k,x,hk,hg,rfl,rfl,Hx,rfl⟩:=hrel
  by_cases hkn:k < n
  ·have hk':(k:Int) < (n:Int):=by omega
   obtain ⟨q,o,rfl,hcell⟩:=HC.out.2 k hkn
   have hkl:k < l.length:=by rw [HC.out.1];exact hkn
   obtain ⟨y,ey⟩:∃ y,l.getD k 0=y:=⟨_,rfl⟩
   rw [ey] at hcell
   have e1:x*y=prodI (l.take (k+1)):=by
    rw [List.take_add_one,List.getElem?_eq_getElem hkl,Option.toList_some,prodI_snoc,Hx.out,← ey,List.getD_eq_getElem?_getD,List.getElem?_eq_getElem hkl]
    rfl
   have hm:=HL.out.2 (k+1) (by omega)
   rw [← e1] at hm
   obtain ⟨m,em⟩:∃ m,x*y=m:=⟨_,rfl⟩
   rw [em] at hm e1
   have Hn:Hid (m=prodI (l.take (k+1))):=e1
   clear ey hkl e1
   go_wp2
   go_roundg (n - (k+1))
   case measure=>omega
   case rel=>exact ⟨k+1,m,by omega,rfl,by first|rfl|simp [em],by first|rfl|simp,Hn,rfl⟩
  ·obtain rfl:k=n:=by omega
   go_wp2
   go_ret
   rw [← HR.out,Hx.out,List.take_of_length_le (by rw [HC.out.1];exact Nat.le_refl _)]
   exact ⟨rfl,rfl⟩
theorem ctoo_any (v:Value) (l:List Int) (hl:Smal l) (w:World) (hv:Nums .i64 w v l):
  Calls Tryz.prog 79 #[v] w fun e w'=>e = .returned (.bool (decide (4096 < prodI l)))∧w'=w:=by
 have cs:=csize_any v l hl w hv
 obtain ⟨r,er⟩:∃ r:Int,prodI l=r:=⟨_,rfl⟩
 rw [er] at cs ⊢
 clear er hv
 go_enter Tryz.func79,Tryz.ntmps79
 go_wp2_with fail
 refine cs.mono ?_
 rintro e w1 ⟨rfl,rfl⟩
 go_wp2
 go_ret
 exact ⟨rfl,rfl⟩
theorem InOk.smal {d:List Int} (h:InOk d):Smal d:=by
 refine ⟨by rcases h with ⟨x,rfl,h⟩|⟨x,y,rfl,hx,hy⟩ <;> simp,fun k hk=>?_⟩
 rcases h with ⟨x,rfl,h⟩|⟨x,y,rfl,hx,hy⟩
 ·rcases (show k=0∨k=1 by simp at hk;omega) with rfl|rfl <;> simp [prodI] <;> omega
 ·have:=mprod_rng hx hy
  rcases (show k=0∨k=1∨k=2 by simp at hk;omega) with rfl|rfl|rfl <;> simp [prodI] <;> omega
theorem kind_at (s:ByteArray) (k:Nat) (hk:k < 5) (h:kName k=s):kindI s=k:=by
 subst h
 rcases (show k=0∨k=1∨k=2∨k=3∨k=4 by omega) with rfl|rfl|rfl|rfl|rfl <;> decide +kernel
theorem kind_no (s:ByteArray) (h:∀ k,k < 5→kName k≠s):kindI s=5:=by
 rcases kind_cases s with ⟨e,_⟩|⟨e,_⟩|⟨e,_⟩|⟨e,_⟩|⟨e,_⟩|⟨_,e⟩
 ·exact absurd e.symm (h 0 (by omega))
 ·exact absurd e.symm (h 1 (by omega))
 ·exact absurd e.symm (h 2 (by omega))
 ·exact absurd e.symm (h 3 (by omega))
 ·exact absurd e.symm (h 4 (by omega))
 ·exact e
def kArr:Array Value:=#[.string (kName 0),.int .i64 (kCnt 0:Nat),.int .i64 (kTopA 0),.int .i64 (kTopB 0),.string (kName 1),.int .i64 (kCnt 1:Nat),.int .i64 (kTopA 1),.int .i64 (kTopB 1),.string (kName 2),.int .i64 (kCnt 2:Nat),.int .i64 (kTopA 2),.int .i64 (kTopB 2),.string (kName 3),.int .i64 (kCnt 3:Nat),.int .i64 (kTopA 3),.int .i64 (kTopB 3),.string (kName 4),.int .i64 (kCnt 4:Nat),.int .i64 (kTopA 4),.int .i64 (kTopB 4)]
theorem kz_range {w:World} (h:Kz w):w.rangeAt 0 0 kArr.toList:=by
 intro j v hj
 have hl:j < 20:=(List.getElem?_eq_some_iff.1 hj).1
 rw [Nat.zero_add]
 have hq:∃ i,i < 5∧(j=i*4∨j=i*4+1∨j=i*4+2∨j=i*4+3):=⟨j / 4,by omega,by omega⟩
 obtain ⟨i,hi,hji⟩:=hq
 obtain ⟨h0,h1,h2,h3⟩:=h i hi
 rcases (show i=0∨i=1∨i=2∨i=3∨i=4 by omega) with rfl|rfl|rfl|rfl|rfl <;> rcases hji with rfl|rfl|rfl|rfl <;> first|exact h0.trans hj|exact h1.trans hj|exact h2.trans hj|exact h3.trans hj
theorem str_ne {x y:ByteArray} (h:x≠y):(x.toList==y.toList)=false:=(Lib.bytes_beq_false_iff x y).2 h
theorem kArr_at (k:Nat) (hk:k < 5):∀ W,(Instr.index 183 (.agg kArr) (.int .i64 (k:Int))).run Tryz.prog W = .ok (.agg #[.string (kName k),.int .i64 (kCnt k:Nat),.int .i64 (kTopA k),.int .i64 (kTopB k)]) W:=by
 intro W
 rcases (show k=0∨k=1∨k=2∨k=3∨k=4 by omega) with rfl|rfl|rfl|rfl|rfl <;> kernel_rfl
theorem four_set {W U:World} {b:Nat} {t:TypeId} {a0 a1 a2 a3 x0 x1 x2 x3:Value} (h:W.heap[b]?=some (.cells #[a0,a1,a2,a3] t (0,0))) (e:(((W.setCell ⟨b,0,none⟩ x0).setCell ⟨b,1,none⟩ x1).setCell ⟨b,2,none⟩ x2).setCell ⟨b,3,none⟩ x3=U):
  U.cell? ⟨b,0,none⟩=some x0∧U.cell? ⟨b,1,none⟩=some x1∧U.cell? ⟨b,2,none⟩=some x2∧U.cell? ⟨b,3,none⟩=some x3∧∀ w,Below b w W→Below b w U:=by
 have h4:U.heap[b]?=some (.cells #[x0,x1,x2,x3] t (0,0)):=by
  rw [← e,heap_setat (heap_setat (heap_setat (heap_setat h)))]
  rfl
 refine ⟨by simp [World.cell?,h4],by simp [World.cell?,h4],by simp [World.cell?,h4],by simp [World.cell?,h4],fun w hB=>?_⟩
 rw [← e]
 exact (((hB.setCell (Nat.le_refl _) _).setCell (Nat.le_refl _) _).setCell (Nat.le_refl _) _).setCell (Nat.le_refl _) _
theorem kindOf_any (s:ByteArray) (w:World) (hK:Hid (Kz w)):
  Calls Tryz.prog 93 #[.string s] w fun e w'=>e = .returned (.tuple #[.agg #[.string (kName (kindI s)),.int .i64 (kCnt (kindI s)),.int .i64 (kTopA (kindI s)),.int .i64 (kTopB (kindI s))],.bool (decide (kindI s < 5))])∧Below w.heap.size w w':=by
 obtain ⟨z,ez⟩:∃ z,kindI s=z:=⟨_,rfl⟩
 have HZ:Hid (kindI s=z):=ez
 obtain ⟨zb,eb⟩:∃ zb,decide (z < 5)=zb:=⟨_,rfl⟩
 have HZB:Hid (decide (z < 5)=zb):=eb
 rw [ez,eb]
 clear ez eb
 go_enter Tryz.func93,Tryz.ntmps93
 have hz:=cell_size (hK.out 0 (by omega)).1
 have hrg:(w.alloc (.cells #[.string ⟨#[]⟩,.int .i64 0,.int .i64 0,.int .i64 0] 163)).rangeAt 0 0 kArr.toList:=kz_range (Hid.up_kz hK (up_alloc w _)).out
 have HRG:Hid ((w.alloc (.cells #[.string ⟨#[]⟩,.int .i64 0,.int .i64 0,.int .i64 0] 163)).rangeAt 0 0 kArr.toList):=hrg
 clear hrg
 obtain ⟨KA,eKA⟩:∃ KA:Array Value,kArr.toList.toArray=KA:=⟨_,rfl⟩
 have HQ:Hid (kArr=KA):=eKA
 go_wp2_with (refine wpList_load_mid rfl 183 (.global 0) rfl _ 0 rfl _ _ HRG.out Tryz.underlying183 rfl (by kernel_rfl) ?_;rw [eKA];clear eKA)
 generalize hW0:World.alloc _ _=W0
 have HB0:Hid (Below w.heap.size w W0):=by rw [← hW0];exact up_alloc w _
 have HC0:Hid (W0.heap[w.heap.size]?=some (.cells #[.string ⟨#[]⟩,.int .i64 0,.int .i64 0,.int .i64 0] 163 (0,0))∧w.heap.size < W0.heap.size):=by
  show _∧_
  rw [← hW0]
  exact ⟨Array.getElem?_push_size,by simp⟩
 clear hW0 HRG
 go_loopg [7] 5 (fun gg v wr=>∃ (k:Nat),k≤5∧gg=5 - k∧v = .int .i64 (k:Int)∧Hid (∀ i,i < k→kName i≠s)∧Hid (Below W0.heap.size W0 wr))
 case atStart=>exact ⟨0,by omega,by omega,rfl,fun i hi=>by omega,Below.refl _ _⟩
 case round=>
  obtain ⟨k,hk,hg,rfl,Hx,HB⟩:=hrel
  have H2:=HC0.out.1
  rw [← HB.out.block _ HC0.out.2] at H2
  obtain ⟨⟨c0,f0⟩,⟨c1,f1⟩,⟨c2,f2⟩,⟨c3,f3⟩⟩:(wr.cell? ⟨w.heap.size,0,none⟩=some (.string ⟨#[]⟩)∧wr.frozen? ⟨w.heap.size,0,none⟩=false)∧(wr.cell? ⟨w.heap.size,1,none⟩=some (.int .i64 0)∧wr.frozen? ⟨w.heap.size,1,none⟩=false)∧(wr.cell? ⟨w.heap.size,2,none⟩=some (.int .i64 0)∧wr.frozen? ⟨w.heap.size,2,none⟩=false)∧(wr.cell? ⟨w.heap.size,3,none⟩=some (.int .i64 0)∧wr.frozen? ⟨w.heap.size,3,none⟩=false):=by
   simp [World.cell?,World.frozen?,H2]
  have hlt:=cell_size c0
  have HBW:Hid (Below w.heap.size w wr):=bstep HB0.out HB.out
  have H3:Hid (wr.heap[w.heap.size]?=some (.cells #[.string ⟨#[]⟩,.int .i64 0,.int .i64 0,.int .i64 0] 163 (0,0))):=H2
  clear H2
  by_cases h5:k=5
  ·subst h5
   have ez:=kind_no s fun k hk=>Hx.out k hk
   rw [HZ.out] at ez
   subst ez
   have ebz:=HZB.out
   subst ebz
   go_wp2
   generalize hU:World.setCell _ _ _=U
   obtain ⟨u0,u1,u2,u3,hBU⟩:=four_set H3.out hU
   exact bodyPost_ret (v:=.tuple #[.agg #[.string ⟨#[]⟩,.int .i64 0,.int .i64 0,.int .i64 0],.bool false]) (by simp [results,Tryz.results93,go_sem,u0,u1,u2,u3]) rfl ⟨rfl,hBU w HBW.out⟩
  have hix:=kArr_at k (by omega)
  rw [HQ.out] at hix
  have hk5:(k:Int) < 5:=by omega
  by_cases hs:kName k=s
  ·subst hs
   have ez:=kind_at _ k (by omega) rfl
   have hz5:k < 5:=by omega
   rw [HZ.out] at ez
   subst ez
   have ebz:true=zb:=(decide_eq_true hz5).symm.trans HZB.out
   subst ebz
   clear HZ HZB
   go_wp2
   generalize hV:World.setCell _ _ _=V
   obtain ⟨u0,u1,u2,u3,hBV⟩:=four_set H3.out hV
   have hlV:=cell_size u0
   exact bodyPost_ret (v:=.tuple #[.agg #[.string (kName z),.int .i64 (kCnt z:Nat),.int .i64 (kTopA z),.int .i64 (kTopB z)],.bool true]) (by simp [results,Tryz.results93,go_sem,u0,u1,u2,u3,hlV]) rfl ⟨rfl,(hBV w HBW.out).alloc (Nat.le_of_lt hlV) _⟩
  ·have hs':=str_ne hs
   have Hn:Hid (∀ i,i < k+1→kName i≠s):=fun i hi=>by
    rcases Nat.lt_succ_iff_lt_or_eq.1 hi with h|rfl
    ·exact Hx.out i h
    ·exact hs
   go_wp2
   go_roundg (5 - (k+1))
   case measure=>omega
   case rel=>exact ⟨k+1,by omega,rfl,by first|rfl|simp,Hn,blit HB.out _⟩
theorem inOkB_not {d:List Int} (h1:d.length≠1) (h2:d.length≠2):inOkB d=false:=by
 match d with
 | []=>rfl
 | [x]=>simp at h1
 | [x,y]=>simp at h2
 | x :: y :: z :: r=>rfl
theorem within_q (v t:Int) (q:Bool) (hq:decide (1≤v∧v≤t)=q) (w:World):Calls Tryz.prog 92 #[.int .i64 v,.int .i64 t] w fun e w'=>e = .returned (.bool q)∧w'=w:=by
 rw [← hq]
 exact within_any v t w
theorem inFits_any (v:Value) (d:List Int) (w:World) (hv:Nums .i64 w v d):
  Calls Tryz.prog 73 #[v] w fun e w'=>e = .returned (.bool (inOkB d))∧w'=w:=by
 obtain ⟨p,n,c,rfl,HC⟩:=hv.lst
 obtain ⟨r,er⟩:∃ r:Bool,inOkB d=r:=⟨_,rfl⟩
 have HR:Hid (inOkB d=r):=er
 rw [er]
 clear er hv
 go_enter Tryz.func73,Tryz.ntmps73
 by_cases h1:n=1
 ·subst h1
  obtain ⟨q,o,rfl,c0⟩:=HC.out.2 0 (by omega)
  obtain ⟨x,rfl⟩:∃ x,d = [x]:=by
   have:=HC.out.1
   match d with
   | [x]=>exact ⟨x,rfl⟩
  simp only [List.getD_cons_zero,Nat.add_zero] at c0
  go_wp2_with fail
  refine (within_q _ _ r HR.out _).mono ?_
  rintro e w1 ⟨rfl,rfl⟩
  go_wp2
  go_ret
  exact ⟨rfl,rfl⟩
 have g1:((n:Int)==1)=false:=by simpa using (show (n:Int)≠1 by omega)
 by_cases h2:n=2
 ·subst h2
  obtain ⟨q,o,rfl,c0⟩:=HC.out.2 0 (by omega)
  obtain ⟨q',o',e,c1⟩:=HC.out.2 1 (by omega)
  cases e
  obtain ⟨x,y,rfl⟩:∃ x y,d = [x,y]:=by
   have:=HC.out.1
   match d with
   | [x,y]=>exact ⟨x,y,rfl⟩
  simp only [List.getD_cons_zero,List.getD_cons_succ,Nat.add_zero] at c0 c1
  go_wp2_with fail
  refine (within_any _ _ _).mono ?_
  rintro e w1 ⟨rfl,rfl⟩
  by_cases hx:1≤x∧x≤64
  ·rw [decide_eq_true hx]
   go_wp2_with fail
   refine (within_any _ _ _).mono ?_
   rintro e w1 ⟨rfl,rfl⟩
   obtain ⟨qb,eqb⟩:∃ qb,decide (1≤y∧y≤64)=qb:=⟨_,rfl⟩
   have HQ:Hid (decide (1≤y∧y≤64)=qb):=eqb
   rw [eqb]
   clear eqb
   go_wp2
   go_ret
   refine ⟨?_,rfl⟩
   rw [← HR.out]
   show _=Ending.returned (Value.bool (decide ((1≤x∧x≤64)∧1≤y∧y≤64)))
   rw [show decide ((1≤x∧x≤64)∧1≤y∧y≤64)=qb by rw [← HQ.out];exact decide_eq_decide.2 ⟨fun h=>h.2,fun h=>⟨hx,h⟩⟩]
   rfl
  ·rw [decide_eq_false hx]
   have HX:Hid (¬ (1≤x∧x≤64)):=hx
   clear hx
   go_wp2
   go_ret
   refine ⟨?_,rfl⟩
   rw [← HR.out]
   show _=Ending.returned (Value.bool (decide ((1≤x∧x≤64)∧1≤y∧y≤64)))
   rw [decide_eq_false fun h=>HX.out h.1]
   rfl
 have g2:((n:Int)==2)=false:=by simpa using (show (n:Int)≠2 by omega)
 go_wp2
 go_ret
 refine ⟨?_,rfl⟩
 rw [← HR.out,inOkB_not (by rw [HC.out.1];exact h1) (by rw [HC.out.1];exact h2)]
 rfl
/-- Is one of a layer's two numbers as its kind asks? -/
def chk (kd:Nat) (a b:Int) (k:Nat):Bool:=if k < kCnt kd then decide (1≤(if k=0 then a else b)∧(if k=0 then a else b)≤(if k=0 then kTopA kd else kTopB kd)) else decide ((if k=0 then a else b)=0)
theorem chk_lay (l:Ly):decide (LayOk l)=(decide (kindI l.1 < 5) && chk (kindI l.1) l.2.1 l.2.2 0 && chk (kindI l.1) l.2.1 l.2.2 1):=by
 unfold chk
 rw [Bool.eq_iff_iff]
 simp only [decide_eq_true_eq,Bool.and_eq_true,if_true,if_neg (show ¬ (1:Nat)=0 by omega)]
 unfold LayOk
 split <;> split <;> simp [and_assoc]
theorem layerFits_any (s:ByteArray) (a b:Int) (w:World) (hK:Hid (Kz w)):
  Calls Tryz.prog 74 #[.agg #[.string s,.int .i64 a,.int .i64 b]] w fun e w'=>e = .returned (.bool (decide (LayOk (s,a,b))))∧Below w.heap.size w w':=by
 obtain ⟨r,er⟩:∃ r:Bool,decide (LayOk (s,a,b))=r:=⟨_,rfl⟩
 have HR:Hid ((decide (kindI s < 5) && chk (kindI s) a b 0 && chk (kindI s) a b 1)=r):=(chk_lay (s,a,b)).symm.trans er
 rw [er]
 clear er
 go_enter Tryz.func74,Tryz.ntmps74
 go_wp2_with fail
 generalize hW0:World.alloc _ _=W0
 have HB0:Hid (Below w.heap.size w W0):=by rw [← hW0];exact up_alloc w _
 have HC0:Hid (W0.cell? ⟨w.heap.size,1,none⟩=some (.int .i64 a)∧W0.cell? ⟨w.heap.size,2,none⟩=some (.int .i64 b)):=by show _∧_;rw [← hW0];simp [go_sem]
 clear hW0
 refine (kindOf_any s W0 (Hid.up_kz hK HB0.out)).mono ?_
 rintro e w1 ⟨rfl,hB1⟩
 obtain ⟨z,ez⟩:∃ z,kindI s=z:=⟨_,rfl⟩
 rw [ez] at HR ⊢
 have HB1:Hid (Below w.heap.size w w1):=bstep HB0.out hB1
 have C1:=still_cell hB1 HC0.out.1
 have C2:=still_cell hB1 HC0.out.2
 have hlt:=cell_size C1
 by_cases h5:z < 5
 case neg=>
  rw [decide_eq_false h5]
  rw [decide_eq_false h5] at HR
  go_wp2
  go_ret
  rw [← HR.out]
  exact ⟨rfl,blit HB1.out _⟩
 rw [decide_eq_true h5]
 rw [decide_eq_true h5] at HR
 obtain ⟨cn,ecn⟩:∃ cn,kCnt z=cn:=⟨_,rfl⟩
 obtain ⟨tA,eA⟩:∃ x,kTopA z=x:=⟨_,rfl⟩
 obtain ⟨tB,eB⟩:∃ x,kTopB z=x:=⟨_,rfl⟩
 have HZ:Hid (kCnt z=cn∧kTopA z=tA∧kTopB z=tB):=⟨ecn,eA,eB⟩
 rw [ecn,eA,eB]
 clear ecn eA eB ez hB1
 go_wp2_with fail
 generalize hW2:World.alloc _ _=W2
 have HB2:Hid (Below w.heap.size w W2):=by rw [← hW2];exact blit HB1.out _
 obtain ⟨d1,d2,d3,d4⟩:W2.cell? ⟨w1.heap.size,0,none⟩=some (.string (kName z))∧W2.cell? ⟨w1.heap.size,1,none⟩=some (.int .i64 (cn:Int))∧W2.cell? ⟨w1.heap.size,2,none⟩=some (.int .i64 tA)∧W2.cell? ⟨w1.heap.size,3,none⟩=some (.int .i64 tB):=by rw [← hW2];simp [go_sem]
 clear hW2 C1 C2 HC0 HB0 d1
 go_loopg [20] 2 (fun gg v wr=>∃ (k:Nat),k≤2∧gg=2 - k∧v = .int .i64 (k:Int)∧Hid (∀ i,i < k→chk z a b i=true)∧wr=W2)
 case atStart=>exact ⟨0,by omega,by omega,rfl,fun i hi=>by omega,rfl⟩
 case round=>
  obtain ⟨k,hk,hg,rfl,Hx,rfl⟩:=hrel
  rcases (show k=2∨k=0∨k=1 by omega) with rfl|hk01
  ·go_wp2
   go_ret
   rw [← HR.out,Hx.out 0 (by omega),Hx.out 1 (by omega)]
   exact ⟨rfl,HB2.out⟩
  obtain ⟨x,ex⟩:∃ x,(if k=0 then a else b)=x:=⟨_,rfl⟩
  obtain ⟨t,et⟩:∃ x,(if k=0 then tA else tB)=x:=⟨_,rfl⟩
  have HCk:Hid (chk z a b k=if k < cn then decide (1≤x∧x≤t) else decide (x=0)):=by
   show _=_
   unfold chk
   rw [HZ.out.1,HZ.out.2.1,HZ.out.2.2,ex,et]
  have hix:∀ W,(Instr.index 161 (.agg #[.int .i64 a,.int .i64 b]) (.int .i64 (k:Int))).run Tryz.prog W = .ok (.int .i64 x) W:=by
   intro W
   rcases hk01 with rfl|rfl
   ·rw [if_pos rfl] at ex;subst ex;kernel_rfl
   ·rw [if_neg (by omega)] at ex;subst ex;kernel_rfl
  have dk:wr.cell? ⟨w1.heap.size,2+k,none⟩=some (.int .i64 t):=by
   rcases hk01 with rfl|rfl
   ·rw [if_pos rfl] at et;subst et;exact d3
   ·rw [if_neg (by omega)] at et;subst et;exact d4
  have hk2:(k:Int) < 2:=by omega
  have Hdone:Hid (chk z a b k=true→∀ i,i < k+1→chk z a b i=true):=fun h i hi=>by
   rcases Nat.lt_succ_iff_lt_or_eq.1 hi with h2|rfl
   ·exact Hx.out i h2
   ·exact h
  have Hbad:Hid (chk z a b k=false→r=false):=fun h=>by
   rw [← HR.out]
   rcases hk01 with rfl|rfl <;> simp [h]
  have HK01:Hid (k=0∨k=1):=hk01
  clear ex et d3 d4 hk01 HZ
  by_cases hc:k < cn
  ·have hc':(k:Int) < (cn:Int):=by omega
   rw [if_pos hc] at HCk
   go_wp2_with fail
   obtain ⟨qb,eqb⟩:∃ qb,decide (1≤x∧x≤t)=qb:=⟨_,rfl⟩
   refine (within_q _ _ qb eqb _).mono ?_
   rintro e w2 ⟨rfl,rfl⟩
   rw [eqb] at HCk
   clear eqb
   cases qb with
   | false=>
    have er:=Hbad.out HCk.out
    subst er
    go_wp2
    go_ret
    exact ⟨rfl,HB2.out⟩
   | true=>
    have Hn:=Hdone.out HCk.out
    have HN:Hid (∀ i,i < k+1→chk z a b i=true):=Hn
    clear Hn Hdone
    go_wp2
    go_roundg (2 - (k+1))
    case measure=>omega
    case rel=>exact ⟨k+1,by omega,rfl,by first|rfl|simp,HN,rfl⟩
  ·have hc':(cn:Int)≤(k:Int):=by omega
   rw [if_neg hc] at HCk
   by_cases hx0:x=0
   ·rw [decide_eq_true hx0] at HCk
    have HN:Hid (∀ i,i < k+1→chk z a b i=true):=Hdone.out HCk.out
    clear Hdone
    subst hx0
    go_wp2
    go_roundg (2 - (k+1))
    case measure=>omega
    case rel=>exact ⟨k+1,by omega,rfl,by first|rfl|simp,HN,rfl⟩
   ·rw [decide_eq_false hx0] at HCk
    have er:=Hbad.out HCk.out
    subst er
    have hx0':(x != 0)=true:=by simpa using hx0
    go_wp2
    go_ret
    exact ⟨rfl,HB2.out⟩
theorem all_upto {ls:List Ly} {f:Ly→Bool} {n:Nat} (hn:ls.length=n) (h:∀ i,i < n→f (lyA ls i)=true):ls.all f=true:=by
 rw [List.all_eq_true]
 intro l hl
 obtain ⟨i,hi,rfl⟩:=List.getElem_of_mem hl
 have:=h i (by omega)
 unfold lyA at this
 rw [List.getD_eq_getElem?_getD,List.getElem?_eq_getElem hi] at this
 exact this
theorem all_not {ls:List Ly} {f:Ly→Bool} {i:Nat} (hi:i < ls.length) (h:f (lyA ls i)=false):ls.all f=false:=by
 rw [List.all_eq_false]
 exact ⟨_,lyA_mem hi,by rw [h];simp⟩
theorem numbersFit_any (p p2:Option Addr) (n c n2 c2:Nat) (d:List Int) (ls:List Ly) (hbig:n2≤1073741824) (w:World) (hK:Hid (Kz w)) (h1:Nums .i64 w (.slice p n c) d) (h2:LyR 0 w p2 n2 ls):
  Calls Tryz.prog 55 #[.agg #[.slice p n c,.slice p2 n2 c2]] w fun e w'=>e = .returned (.bool (formB d ls))∧Below w.heap.size w w':=by
 obtain ⟨r,er⟩:∃ r:Bool,formB d ls=r:=⟨_,rfl⟩
 have HR:Hid (formB d ls=r):=er
 rw [er]
 clear er
 have HL:Hid (LyR 0 w p2 n2 ls):=h2
 clear h2
 go_enter Tryz.func55,Tryz.ntmps55
 go_wp2_with fail
 generalize hW0:World.alloc _ _=W0
 have HB0:Hid (Below w.heap.size w W0):=by rw [← hW0];exact up_alloc w _
 have C1:W0.cell? ⟨w.heap.size,1,none⟩=some (.slice p2 n2 c2):=by rw [← hW0];simp [go_sem]
 clear hW0
 obtain ⟨qi,eqi⟩:∃ q,inOkB d=q:=⟨_,rfl⟩
 have ci:=inFits_any _ d W0 (h1.up HB0.out)
 rw [eqi] at ci
 refine ci.mono ?_
 rintro e w1 ⟨rfl,rfl⟩
 cases qi with
 | false=>
  have er:r=false:=by rw [← HR.out];unfold formB;rw [eqi];rfl
  subst er
  clear eqi ci h1
  go_wp2
  go_ret
  exact ⟨rfl,HB0.out⟩
 | true=>
  have HF:Hid (formB d ls=ls.all fun l=>decide (LayOk l)):=by show _=_;unfold formB;rw [eqi];rfl
  clear eqi ci h1
  go_wp2_with fail
  go_loopg [12] n2 (fun gg v wr=>∃ (k:Nat),k≤n2∧gg=n2 - k∧v = .int .i64 (k:Int)∧Hid (∀ i,i < k→decide (LayOk (lyA ls i))=true)∧Hid (Below w.heap.size w wr))
  case atStart=>exact ⟨0,by omega,by omega,rfl,fun i hi=>by omega,HB0⟩
  case round=>
   obtain ⟨k,hk,hg,rfl,Hx,HB⟩:=hrel
   by_cases hkn:k < n2
   ·have hk':(k:Int) < (n2:Int):=by omega
    obtain ⟨q,o,rfl,c0,c1,c2⟩:=(HL.out.up HB.out).2 k hkn
    obtain ⟨l,el⟩:∃ l,lyA ls k=l:=⟨_,rfl⟩
    obtain ⟨s,a,b⟩:=l
    rw [el] at c0 c1 c2
    have hlt:=cell_size c0
    go_wp2_with fail
    generalize hW2:World.alloc _ _=W2
    have HB2:Hid (Below w.heap.size w W2):=by rw [← hW2];exact blit HB.out _
    clear hW2
    obtain ⟨ql,eql⟩:∃ q,decide (LayOk (s,a,b))=q:=⟨_,rfl⟩
    have cl:=layerFits_any s a b W2 (Hid.up_kz hK HB2.out)
    rw [eql] at cl
    refine cl.mono ?_
    rintro e w3 ⟨rfl,hB3⟩
    have HB3:Hid (Below w.heap.size w w3):=bstep HB2.out hB3
    clear cl hB3 c0 c1 c2 hlt
    cases ql with
    | false=>
     have er:r=false:=by rw [← HR.out,HF.out];exact all_not (i:=k) (by rw [HL.out.1];exact hkn) (by rw [el];exact eql)
     subst er
     clear el eql
     go_wp2
     go_ret
     exact ⟨rfl,HB3.out⟩
    | true=>
     have HN:Hid (∀ i,i < k+1→decide (LayOk (lyA ls i))=true):=fun i hi=>by
      rcases Nat.lt_succ_iff_lt_or_eq.1 hi with h2|rfl
      ·exact Hx.out i h2
      ·rw [el];exact eql
     clear el eql
     go_wp2
     go_roundg (n2 - (k+1))
     case measure=>omega
     case rel=>exact ⟨k+1,by omega,rfl,by first|rfl|simp,HN,HB3⟩
   ·obtain rfl:k=n2:=by omega
    have er:r=true:=by rw [← HR.out,HF.out];exact all_upto HL.out.1 Hx.out
    subst er
    go_wp2
    go_ret
    exact ⟨rfl,HB.out⟩
end Go.Proofs.YtjlofobnmjompaaGreatDoor.Wd
