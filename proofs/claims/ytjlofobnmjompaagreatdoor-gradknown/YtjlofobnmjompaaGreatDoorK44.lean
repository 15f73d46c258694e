/- What grad's calls and rows are told as, in regions whose order is drawn. · GradKnown: what the chapter says of what is none. · GradKnown's walk. · The listed tables, as the walks ask for them: the kinds of layers, the powers of ten. -/
import Derived.Test.YtjlofobnmjompaaGreatDoorK40
import Derived.Test.YtjlofobnmjompaaGreatDoorK43
import Derived.BigQuiet
import Derived.Test.YtjlofobnmjompaaGreatDoorRows
import Derived.Test.YtjlofobnmjompaaGreatDoorK26
import Derived.Lib.LaidTab
set_option linter.unusedVariables false
set_option linter.unusedSimpArgs false
set_option maxHeartbeats 16000000
set_option maxRecDepth 16000
namespace Go.Proofs.YtjlofobnmjompaaGreatDoor.Wd
open Go.RowKit Fx
def LineV (v:Value) (W:World):Prop:=∃ q r,v = .agg #[.slice (some ⟨q,0,none⟩) 1 1,.slice (some ⟨r,0,none⟩) 1 1]∧Nums .i64 W (.slice (some ⟨q,0,none⟩) 1 1) [1]∧LyR 0 W (some ⟨r,0,none⟩) 1 liL
theorem LineV.up {v:Value} {W W':World} (h:LineV v W) (hB:Below W.heap.size W W'):LineV v W':=by
 obtain ⟨q,r,e,a,b⟩:=h
 exact ⟨q,r,e,a.up hB,b.up hB⟩
def TupO (a e:Int) (v:Value) (W:World):Prop:=∃ u,v = .tuple #[u,.int .i64 a,.int .i64 e]
def TupE (e:Int) (v:Value) (W:World):Prop:=∃ u,v = .tuple #[u,.int .i64 e]
def AnyV (v:Value) (W:World):Prop:=True
def MadeW (n:Nat) (v:Value) (W:World):Prop:=∃ g,v = .slice (some ⟨g,0,none⟩) n n∧WdR W (some ⟨g,0,none⟩) n (List.replicate n 0)
theorem MadeW.up {n:Nat} {v:Value} {W W':World} (h:MadeW n v W) (hB:Below W.heap.size W W'):MadeW n v W':=by
 obtain ⟨g,e,a⟩:=h
 exact ⟨g,e,a.up hB⟩
theorem mkw_run (n:Nat) (hn:n≤100000) (W:World):(Instr.makeSlice 35 (.int .i64 (n:Int)) (.int .i64 (n:Int))).run Tryz.prog W = .ok (.slice (some ⟨W.heap.size,0,none⟩) n n) (W.alloc (.cells (madeCells (Value.agg #[.int .i64 0,.int .u64 0]).cells (n*2)) 45)):=by
 obtain ⟨i,h0,h1,h2,h3⟩:=wide_info
 have hb':(i.bytes:Int)*(n:Int)≤281474976710656:=by
  rw [h3]
  omega
 have hr:=run_make (P:=Tryz.prog) W 35 45 i _ Tryz.underlying35 h0 h1 .i64 .i64 n n (by omega) (Int.le_refl _) hb' (by omega)
 simp only [Int.toNat_natCast] at hr
 rw [hr,h2]
theorem made_rd (n:Nat) (W:World):WdR (W.alloc (.cells (madeCells (Value.agg #[.int .i64 0,.int .u64 0]).cells (n*2)) 45)) (some ⟨W.heap.size,0,none⟩) n (List.replicate n 0):=by
 refine ⟨by simp,fun y hy=>?_,fun i hi=>⟨W.heap.size,0,rfl,?_⟩⟩
 ·rw [(List.mem_replicate.1 hy).2]
  unfold InW
  omega
 have e:(List.replicate n (0:Int)).getD i 0=0:=by
  rw [List.getD_eq_getElem?_getD,List.getElem?_replicate]
  split <;> rfl
 have hz:∀ r,r < 2→(madeCells (Value.agg #[.int .i64 0,.int .u64 0]).cells (n*2))[i*2+r]?=(#[Value.int .i64 0,.int .u64 0]:Array Value)[r]?:=by
  intro r hr
  have e0:(Value.agg #[.int .i64 0,.int .u64 0]).cells=#[Value.int .i64 0,.int .u64 0]:=rfl
  unfold madeCells
  rw [e0,Array.getElem?_map,Array.getElem?_range]
  rw [if_pos (by omega)]
  have e1:(i*2+r) % 2=r:=by omega
  simp only [Option.map_some]
  match r,hr with
  | 0,_=>rw [show (#[Value.int .i64 0,.int .u64 0]:Array Value).size=2 from rfl,e1];rfl
  | 1,_=>rw [show (#[Value.int .i64 0,.int .u64 0]:Array Value).size=2 from rfl,e1];rfl
 rw [e,Nat.zero_add]
 have h:=heap_alloc_new W (.cells (madeCells (Value.agg #[.int .i64 0,.int .u64 0]).cells (n*2)) 45)
 have a0:=hz 0 (by omega)
 have a1:=hz 1 (by omega)
 refine ⟨(box_cell h a0).1,(box_cell h a1).1⟩
theorem gknown_of (hS:SumC [1] liL [0,0]) (hO:OfC [1] liL [0,0]) (hO1:OfC [1] liL [0]) (hO2:OfC [] [] []) (hJ:JoinC) (w:World) (hT:Hid (Tz w)) (hK:Hid (Kz w)):
  Calls Tryz.prog 3 #[] w fun e w'=>e = .returned (.bool true)∧Below w.heap.size w w':=by
 haveI:Nonempty World:=⟨w⟩
 have CO:Hid (OfC [1] liL [0,0]∧OfC [1] liL [0]∧OfC [] [] []):=⟨hO,hO1,hO2⟩
 have CJ:Hid JoinC:=hJ
 go_enter Tryz.func3,Tryz.ntmps3
 go_wp2_with fail
 refine (awake14_any hS hO w hT hK).mono ?_
 rintro e w1 ⟨rfl,hB1⟩
 have HB1:Hid (Below w.heap.size w w1):=hB1
 clear hB1 hS hO hO1 hO2 hJ
 obtain ⟨g,eg⟩:∃ g,w1.heap.size=g:=⟨_,rfl⟩
 go_wp2_with fail
 generalize hK1:World.alloc _ _=K1
 have HK1:Hid (RowI K1 (some ⟨g,0,none⟩) 1 1 [1]∧RowI K1 (some ⟨g+1,0,none⟩) 1 1 [1]∧Below w.heap.size w K1):=by
  rw [← hK1,← eg]
  refine ⟨⟨((nums_lit (k:=.i64) w1 [1] 1 (0,0) rfl).up (up_alloc _ _)).up (up_alloc _ _),fun y hy=>by simp at hy;subst hy;omega,by omega⟩,⟨(nums_lit2 (k:=.i64) w1 _ [1] 1 (0,0) rfl).up (up_alloc _ _),fun y hy=>by simp at hy;subst hy;omega,by omega⟩,bstep HB1.out (blit (blit (up_alloc w1 _) _) _)⟩
 obtain ⟨x0,x1,x2⟩:K1.cell? ⟨g+1+1,0,none⟩=some (.slice (some ⟨g,0,none⟩) 1 1)∧K1.cell? ⟨g+1+1,1,none⟩=some (.slice (some ⟨g+1,0,none⟩) 1 1)∧K1.cell? ⟨g+1+1,2,none⟩=some (.int .i64 0):=by rw [← hK1,← eg];simp [go_sem]
 have HX:Hid (K1.cell? ⟨g+1+1,0,none⟩=some (.slice (some ⟨g,0,none⟩) 1 1)∧K1.cell? ⟨g+1+1,1,none⟩=some (.slice (some ⟨g+1,0,none⟩) 1 1)∧K1.cell? ⟨g+1+1,2,none⟩=some (.int .i64 0)):=⟨x0,x1,x2⟩
 (try rw [eg])
 have kx:=cell_lt x0
 clear hK1 eg HB1
 obtain ⟨a1,ea1⟩:∃ a,(gof [1] liL 4 [0,0] [1] [1] 0).2.2=a:=⟨_,rfl⟩
 have c1:Hid (∀ W q r h,Below K1.heap.size K1 W→Nums .i64 W (.slice (some ⟨q,0,none⟩) 1 1) [1]→LyR 0 W (some ⟨r,0,none⟩) 1 liL→Nums .i64 W (.slice (some ⟨h,0,none⟩) 2 2) [0,0]→Calls Tryz.prog 9 #[.agg #[.slice (some ⟨q,0,none⟩) 1 1,.slice (some ⟨r,0,none⟩) 1 1],.int .i64 4,.slice (some ⟨h,0,none⟩) 2 2,.agg #[.slice (some ⟨g,0,none⟩) 1 1,.slice (some ⟨g+1,0,none⟩) 1 1,.int .i64 0]] W fun e w'=>∃ v,e = .returned (.tuple #[v,.int .i64 a1,.int .i64 1])∧Below W.heap.size W w'):=fun W q r h hW h1 h2 h3=>by
  have hW':=bstep HK1.out.2.2 hW
  have cc:=CO.out.1 4 [1] [1] 0 (some ⟨q,0,none⟩) (some ⟨r,0,none⟩) (some ⟨h,0,none⟩) (some ⟨g,0,none⟩) (some ⟨g+1,0,none⟩) 1 1 1 1 2 2 1 1 1 1 (by omega) (by omega) W (Hid.up_tz hT hW') (Hid.up_kz hK hW') h1 h2 ⟨h3,fun y hy=>by simp at hy;subst hy;omega,Nat.le_refl _⟩ (HK1.out.1.up hW) (HK1.out.2.1.up hW)
  rw [kn_a,ea1] at cc
  refine cc.mono ?_
  rintro e' w8 ⟨v8,rfl,_,hb8⟩
  exact ⟨_,rfl,hb8⟩
 refine relM [⟨0,25,LineV⟩,⟨1,26,LitN [0,0]⟩,⟨3,28,TupO a1 1⟩,⟨4,24,TupO a1 1⟩,⟨5,29,AnyV⟩] 8 93 (by kernel_rfl) rfl rfl [6,7] (by kernel_rfl) (by kernel_rfl) (fun i0 hi o0 ho c a w v h=>?_) (by rfl) ?_ ?_
 ·simp only [List.mem_cons,List.not_mem_nil,or_false] at hi
  rcases hi with rfl|rfl
  ·cases ho
   exact h
  ·cases ho
   exact h
 ·intro e he v W W' h hb
  simp only [List.mem_cons,List.not_mem_nil,or_false] at he
  rcases he with rfl|rfl|rfl|rfl|rfl
  ·exact LineV.up h hb
  ·exact LitN.up h hb
  ·exact h
  ·exact h
  ·exact trivial
 apply Exists.intro
 refine ⟨?yt1,?yl1,?wk1,?pk1,?rest1⟩
 case wk1=>
  intro x
  simp only [List.take_succ_cons,List.take_zero]
  refine relTold rfl rfl ?_ ?_
  ·intro F hF hf d
   have hFc:=hF.cell
   have hFf:=hF.frozen
   simp [yieldsR,yieldsUpon,go_sem]
   refine (line_any (F d)).mono ?_
   rintro e' w8 ⟨q8,r8,rfl,n8,l8,hb8⟩
   exact ⟨_,rfl,⟨q8,r8,rfl,n8,l8⟩,hb8⟩
  (try simp only [Act.put,List.setIfInBounds_toArray,List.set_cons_zero,List.set_cons_succ])
  refine relTold rfl rfl ?_ ?_
  ·intro F hF hf d
   have hFc:=hF.cell
   have hFf:=hF.frozen
   simp [yieldsR,yieldsUpon,go_sem]
   exact ⟨⟨(F d).heap.size,rfl,nums_lit (k:=.i64) (F d) [0,0] 2 (0,0) rfl⟩,up_alloc _ _⟩
  (try simp only [Act.put,List.setIfInBounds_toArray,List.set_cons_zero,List.set_cons_succ])
  refine relQuiet rfl rfl ?_
  apply Exists.intro
  refine ⟨fun F hF hf K hK=>?_,?_⟩
  ·have hFc:=hF.cell
   have hFf:=hF.frozen
   go_big_quiet_op
   first|exact hK|(apply Exists.intro;refine ⟨fun _=>?_,?_⟩;(· fail);exact hK)
  (try simp only [Act.put,List.setIfInBounds_toArray,List.set_cons_zero,List.set_cons_succ])
  refine relTold rfl rfl ?_ ?_
  ·intro F hF hf d
   have hFc:=hF.cell
   have hFf:=hF.frozen
   have h8:=hf _ List.mem_cons_self (by rfl) d
   have h9:=hf _ (List.mem_cons_of_mem _ List.mem_cons_self) (by rfl) d
   obtain ⟨q8,r8,e8,n8,l8⟩:=h8
   obtain ⟨g9,e9,n9⟩:=h9
   simp only [] at e8 e9 n9
   rw [e9] at n9
   simp [yieldsR,yieldsUpon,go_sem,e8,e9]
   refine (c1.out (F d) q8 r8 g9 (hF.below d) n8 l8 n9).mono ?_
   rintro e' w8 ⟨v8,rfl,hb8⟩
   exact ⟨_,rfl,⟨v8,rfl⟩,hb8⟩
  (try simp only [Act.put,List.setIfInBounds_toArray,List.set_cons_zero,List.set_cons_succ])
  refine relTold rfl rfl ?_ ?_
  ·intro F hF hf d
   have hFc:=hF.cell
   have hFf:=hF.frozen
   have h9:=hf _ (List.mem_cons_of_mem _ (List.mem_cons_of_mem _ List.mem_cons_self)) (by rfl) d
   simp [yieldsR,yieldsUpon,go_sem]
   exact ⟨h9,Below.refl _ _⟩
  (try simp only [Act.put,List.setIfInBounds_toArray,List.set_cons_zero,List.set_cons_succ])
  refine relTold rfl rfl ?_ ?_
  ·intro F hF hf d
   have hFc:=hF.cell
   have hFf:=hF.frozen
   have h9:=hf _ (List.mem_cons_of_mem _ (List.mem_cons_of_mem _ (List.mem_cons_of_mem _ List.mem_cons_self))) (by rfl) d
   obtain ⟨u9,e9⟩:=h9
   simp only [] at e9
   simp [yieldsR,yieldsUpon,go_sem,e9]
   exact ⟨trivial,Below.refl _ _⟩
  iterate 2
   (try simp only [Act.put,List.setIfInBounds_toArray,List.set_cons_zero,List.set_cons_succ])
   refine relQuiet rfl rfl ?_
   apply Exists.intro
   refine ⟨fun F hF hf K hK=>?_,?_⟩
   ·have hFc:=hF.cell
    have hFf:=hF.frozen
    have h9:=hf _ (List.mem_cons_of_mem _ (List.mem_cons_of_mem _ (List.mem_cons_of_mem _ List.mem_cons_self))) (by rfl)
    obtain ⟨u9,e9⟩:=h9 K1
    simp only [] at e9
    go_big_quiet_op
    first|exact hK|(apply Exists.intro;refine ⟨fun _=>?_,?_⟩;(· fail);exact hK)
  (try simp only [Act.put,List.setIfInBounds_toArray,List.set_cons_zero,List.set_cons_succ])
  refine relEnd ?_
  exact rfl
 case pk1=>
  intro x
  simp only [putsK,List.foldl_cons,List.foldl_nil,Act.put,List.setIfInBounds_toArray,List.set_cons_zero,List.set_cons_succ]
 case yt1=>
  intro i0 hi o0 ho e he W x hx
  simp only [List.mem_cons,List.not_mem_nil,or_false] at hi
  rcases hi with rfl|rfl
  ·cases he
  ·cases he
 case yl1=>
  intro i0 hi o0 ho hn x hx
  simp only [List.mem_cons,List.not_mem_nil,or_false] at hi
  rcases hi with rfl|rfl
  ·cases ho
   obtain ⟨W9,u9,e9⟩:=hx _ (List.mem_cons_of_mem _ (List.mem_cons_of_mem _ (List.mem_cons_of_mem _ List.mem_cons_self))) (by rfl)
   simp only [] at e9
   refine ⟨.int .i64 a1,fun t ht=>?_,.inl ⟨by rfl,fun w=>?_⟩⟩
   ·cases ht
    rfl
   ·simp [execOp,Act.eval,e9,go_sem]
  ·cases ho
   obtain ⟨W9,u9,e9⟩:=hx _ (List.mem_cons_of_mem _ (List.mem_cons_of_mem _ (List.mem_cons_of_mem _ List.mem_cons_self))) (by rfl)
   simp only [] at e9
   refine ⟨.int .i64 1,fun t ht=>?_,.inl ⟨by rfl,fun w=>?_⟩⟩
   ·cases ht
    rfl
   ·simp [execOp,Act.eval,e9,go_sem]
 intro w9 xs hB9 hf
 simp only [List.drop_succ_cons,List.drop_zero]
 obtain ⟨z10,ez0⟩:∃ q,xs 0=q:=⟨_,rfl⟩
 obtain ⟨z11,ez1⟩:∃ q,xs 1=q:=⟨_,rfl⟩
 obtain ⟨z13,ez3⟩:∃ q,xs 3=q:=⟨_,rfl⟩
 obtain ⟨z14,ez4⟩:∃ q,xs 4=q:=⟨_,rfl⟩
 obtain ⟨z15,ez5⟩:∃ q,xs 5=q:=⟨_,rfl⟩
 simp only [ez0,ez1,ez3,ez4,ez5]
 have HK2:Hid (RowI w9 (some ⟨g,0,none⟩) 1 1 [1]∧RowI w9 (some ⟨g+1,0,none⟩) 1 1 [1]∧Below w.heap.size w w9):=⟨HK1.out.1.up hB9,HK1.out.2.1.up hB9,bstep HK1.out.2.2 hB9⟩
 have HX2:Hid (w9.cell? ⟨g+1+1,0,none⟩=some (.slice (some ⟨g,0,none⟩) 1 1)∧w9.cell? ⟨g+1+1,1,none⟩=some (.slice (some ⟨g+1,0,none⟩) 1 1)∧w9.cell? ⟨g+1+1,2,none⟩=some (.int .i64 0)):=⟨cell_low x0 hB9,cell_low x1 hB9,cell_low x2 hB9⟩
 clear x0 x1 x2 kx
 obtain ⟨x0,x1,x2⟩:=HX2.out
 have kx:=cell_lt x0
 obtain ⟨K2,eK2⟩:∃ K:World,K=w9:=⟨_,rfl⟩
 subst eK2
 clear hf hB9 c1 ez0 ez1 ez3 ez4 ez5 ea1 HK1
 go_wp2_with fail
 obtain ⟨a2,ea2⟩:∃ a,(gof [1] liL 1 [0] [1] [1] 0).2.2=a:=⟨_,rfl⟩
 have c2:Hid (∀ W q r h,Below K2.heap.size K2 W→Nums .i64 W (.slice (some ⟨q,0,none⟩) 1 1) [1]→LyR 0 W (some ⟨r,0,none⟩) 1 liL→Nums .i64 W (.slice (some ⟨h,0,none⟩) 1 1) [0]→Calls Tryz.prog 9 #[.agg #[.slice (some ⟨q,0,none⟩) 1 1,.slice (some ⟨r,0,none⟩) 1 1],.int .i64 1,.slice (some ⟨h,0,none⟩) 1 1,.agg #[.slice (some ⟨g,0,none⟩) 1 1,.slice (some ⟨g+1,0,none⟩) 1 1,.int .i64 0]] W fun e w'=>∃ v,e = .returned (.tuple #[v,.int .i64 a2,.int .i64 1])∧Below W.heap.size W w'):=fun W q r h hW h1 h2 h3=>by
  have hW':=bstep HK2.out.2.2 hW
  have cc:=CO.out.2.1 1 [1] [1] 0 (some ⟨q,0,none⟩) (some ⟨r,0,none⟩) (some ⟨h,0,none⟩) (some ⟨g,0,none⟩) (some ⟨g+1,0,none⟩) 1 1 1 1 1 1 1 1 1 1 (by omega) (by omega) W (Hid.up_tz hT hW') (Hid.up_kz hK hW') h1 h2 ⟨h3,fun y hy=>by simp at hy;subst hy;omega,Nat.le_refl _⟩ (HK2.out.1.up hW) (HK2.out.2.1.up hW)
  rw [kn_b,ea2] at cc
  refine cc.mono ?_
  rintro e' w8 ⟨v8,rfl,_,hb8⟩
  exact ⟨_,rfl,hb8⟩
 refine relM [⟨0,33,LineV⟩,⟨1,34,LitN [0]⟩,⟨3,36,TupO a2 1⟩,⟨4,32,TupO a2 1⟩,⟨5,37,AnyV⟩] 8 93 (by kernel_rfl) rfl rfl [6,7] (by kernel_rfl) (by kernel_rfl) (fun i0 hi o0 ho c a w v h=>?_) (by rfl) ?_ ?_
 ·simp only [List.mem_cons,List.not_mem_nil,or_false] at hi
  rcases hi with rfl|rfl
  ·cases ho
   exact h
  ·cases ho
   exact h
 ·intro e he v W W' h hb
  simp only [List.mem_cons,List.not_mem_nil,or_false] at he
  rcases he with rfl|rfl|rfl|rfl|rfl
  ·exact LineV.up h hb
  ·exact LitN.up h hb
  ·exact h
  ·exact h
  ·exact trivial
 apply Exists.intro
 refine ⟨?yt2,?yl2,?wk2,?pk2,?rest2⟩
 case wk2=>
  intro x
  simp only [List.take_succ_cons,List.take_zero]
  refine relTold rfl rfl ?_ ?_
  ·intro F hF hf d
   have hFc:=hF.cell
   have hFf:=hF.frozen
   simp [yieldsR,yieldsUpon,go_sem]
   refine (line_any (F d)).mono ?_
   rintro e' w8 ⟨q8,r8,rfl,n8,l8,hb8⟩
   exact ⟨_,rfl,⟨q8,r8,rfl,n8,l8⟩,hb8⟩
  (try simp only [Act.put,List.setIfInBounds_toArray,List.set_cons_zero,List.set_cons_succ])
  refine relTold rfl rfl ?_ ?_
  ·intro F hF hf d
   have hFc:=hF.cell
   have hFf:=hF.frozen
   simp [yieldsR,yieldsUpon,go_sem]
   exact ⟨⟨(F d).heap.size,rfl,nums_lit (k:=.i64) (F d) [0] 1 (0,0) rfl⟩,up_alloc _ _⟩
  (try simp only [Act.put,List.setIfInBounds_toArray,List.set_cons_zero,List.set_cons_succ])
  refine relQuiet rfl rfl ?_
  apply Exists.intro
  refine ⟨fun F hF hf K hK=>?_,?_⟩
  ·have hFc:=hF.cell
   have hFf:=hF.frozen
   go_big_quiet_op
   first|exact hK|(apply Exists.intro;refine ⟨fun _=>?_,?_⟩;(· fail);exact hK)
  (try simp only [Act.put,List.setIfInBounds_toArray,List.set_cons_zero,List.set_cons_succ])
  refine relTold rfl rfl ?_ ?_
  ·intro F hF hf d
   have hFc:=hF.cell
   have hFf:=hF.frozen
   have h8:=hf _ List.mem_cons_self (by rfl) d
   have h9:=hf _ (List.mem_cons_of_mem _ List.mem_cons_self) (by rfl) d
   obtain ⟨q8,r8,e8,n8,l8⟩:=h8
   obtain ⟨g9,e9,n9⟩:=h9
   simp only [] at e8 e9 n9
   rw [e9] at n9
   simp [yieldsR,yieldsUpon,go_sem,e8,e9]
   refine (c2.out (F d) q8 r8 g9 (hF.below d) n8 l8 n9).mono ?_
   rintro e' w8 ⟨v8,rfl,hb8⟩
   exact ⟨_,rfl,⟨v8,rfl⟩,hb8⟩
  (try simp only [Act.put,List.setIfInBounds_toArray,List.set_cons_zero,List.set_cons_succ])
  refine relTold rfl rfl ?_ ?_
  ·intro F hF hf d
   have hFc:=hF.cell
   have hFf:=hF.frozen
   have h9:=hf _ (List.mem_cons_of_mem _ (List.mem_cons_of_mem _ List.mem_cons_self)) (by rfl) d
   simp [yieldsR,yieldsUpon,go_sem]
   exact ⟨h9,Below.refl _ _⟩
  (try simp only [Act.put,List.setIfInBounds_toArray,List.set_cons_zero,List.set_cons_succ])
  refine relTold rfl rfl ?_ ?_
  ·intro F hF hf d
   have hFc:=hF.cell
   have hFf:=hF.frozen
   have h9:=hf _ (List.mem_cons_of_mem _ (List.mem_cons_of_mem _ (List.mem_cons_of_mem _ List.mem_cons_self))) (by rfl) d
   obtain ⟨u9,e9⟩:=h9
   simp only [] at e9
   simp [yieldsR,yieldsUpon,go_sem,e9]
   exact ⟨trivial,Below.refl _ _⟩
  iterate 2
   (try simp only [Act.put,List.setIfInBounds_toArray,List.set_cons_zero,List.set_cons_succ])
   refine relQuiet rfl rfl ?_
   apply Exists.intro
   refine ⟨fun F hF hf K hK=>?_,?_⟩
   ·have hFc:=hF.cell
    have hFf:=hF.frozen
    have h9:=hf _ (List.mem_cons_of_mem _ (List.mem_cons_of_mem _ (List.mem_cons_of_mem _ List.mem_cons_self))) (by rfl)
    obtain ⟨u9,e9⟩:=h9 K2
    simp only [] at e9
    go_big_quiet_op
    first|exact hK|(apply Exists.intro;refine ⟨fun _=>?_,?_⟩;(· fail);exact hK)
  (try simp only [Act.put,List.setIfInBounds_toArray,List.set_cons_zero,List.set_cons_succ])
  refine relEnd ?_
  exact rfl
 case pk2=>
  intro x
  simp only [putsK,List.foldl_cons,List.foldl_nil,Act.put,List.setIfInBounds_toArray,List.set_cons_zero,List.set_cons_succ]
 case yt2=>
  intro i0 hi o0 ho e he W x hx
  simp only [List.mem_cons,List.not_mem_nil,or_false] at hi
  rcases hi with rfl|rfl
  ·cases he
  ·cases he
 case yl2=>
  intro i0 hi o0 ho hn x hx
  simp only [List.mem_cons,List.not_mem_nil,or_false] at hi
  rcases hi with rfl|rfl
  ·cases ho
   obtain ⟨W9,u9,e9⟩:=hx _ (List.mem_cons_of_mem _ (List.mem_cons_of_mem _ (List.mem_cons_of_mem _ List.mem_cons_self))) (by rfl)
   simp only [] at e9
   refine ⟨.int .i64 a2,fun t ht=>?_,.inl ⟨by rfl,fun w=>?_⟩⟩
   ·cases ht
    rfl
   ·simp [execOp,Act.eval,e9,go_sem]
  ·cases ho
   obtain ⟨W9,u9,e9⟩:=hx _ (List.mem_cons_of_mem _ (List.mem_cons_of_mem _ (List.mem_cons_of_mem _ List.mem_cons_self))) (by rfl)
   simp only [] at e9
   refine ⟨.int .i64 1,fun t ht=>?_,.inl ⟨by rfl,fun w=>?_⟩⟩
   ·cases ht
    rfl
   ·simp [execOp,Act.eval,e9,go_sem]
 intro w9 xs hB9 hf
 simp only [List.drop_succ_cons,List.drop_zero]
 obtain ⟨z20,ez0⟩:∃ q,xs 0=q:=⟨_,rfl⟩
 obtain ⟨z21,ez1⟩:∃ q,xs 1=q:=⟨_,rfl⟩
 obtain ⟨z23,ez3⟩:∃ q,xs 3=q:=⟨_,rfl⟩
 obtain ⟨z24,ez4⟩:∃ q,xs 4=q:=⟨_,rfl⟩
 obtain ⟨z25,ez5⟩:∃ q,xs 5=q:=⟨_,rfl⟩
 simp only [ez0,ez1,ez3,ez4,ez5]
 have HK3:Hid (RowI w9 (some ⟨g,0,none⟩) 1 1 [1]∧RowI w9 (some ⟨g+1,0,none⟩) 1 1 [1]∧Below w.heap.size w w9):=⟨HK2.out.1.up hB9,HK2.out.2.1.up hB9,bstep HK2.out.2.2 hB9⟩
 have HX3:Hid (w9.cell? ⟨g+1+1,0,none⟩=some (.slice (some ⟨g,0,none⟩) 1 1)∧w9.cell? ⟨g+1+1,1,none⟩=some (.slice (some ⟨g+1,0,none⟩) 1 1)∧w9.cell? ⟨g+1+1,2,none⟩=some (.int .i64 0)):=⟨cell_low x0 hB9,cell_low x1 hB9,cell_low x2 hB9⟩
 clear x0 x1 x2 kx
 obtain ⟨x0,x1,x2⟩:=HX3.out
 have kx:=cell_lt x0
 obtain ⟨K3,eK3⟩:∃ K:World,K=w9:=⟨_,rfl⟩
 subst eK3
 clear hf hB9 c2 ez0 ez1 ez3 ez4 ez5 ea2 HK2
 go_wp2_with fail
 refine (line_any K3).mono ?_
 rintro e w4 ⟨q4,r4,rfl,n4,l4,hB4⟩
 have H4:Hid (Nums .i64 w4 (.slice (some ⟨q4,0,none⟩) 1 1) [1]∧LyR 0 w4 (some ⟨r4,0,none⟩) 1 liL∧Below K3.heap.size K3 w4):=⟨n4,l4,hB4⟩
 clear n4 l4 hB4
 go_wp2_with fail
 generalize hK4:World.alloc _ _=L4
 have HP4:Hid (RowI L4 (some ⟨w4.heap.size,0,none⟩) 2 2 [0,0]∧RowI L4 (some ⟨w4.heap.size+1,0,none⟩) 1 1 [1]∧Below w4.heap.size w4 L4):=by
  rw [← hK4]
  refine ⟨⟨(nums_lit (k:=.i64) w4 [0,0] 2 (0,0) rfl).up (up_alloc _ _),fun y hy=>by simp at hy;subst hy;omega,by omega⟩,⟨nums_lit2 (k:=.i64) w4 _ [1] 1 (0,0) rfl,fun y hy=>by simp at hy;subst hy;omega,by omega⟩,blit (up_alloc w4 _) _⟩
 have HQ4:Hid (Below w.heap.size w L4∧Below K3.heap.size K3 L4):=⟨bstep HK3.out.2.2 (bstep H4.out.2.2 HP4.out.2.2),bstep H4.out.2.2 HP4.out.2.2⟩
 have cc:=CO.out.1 1 [1] [] 0 (some ⟨q4,0,none⟩) (some ⟨r4,0,none⟩) (some ⟨w4.heap.size,0,none⟩) (some ⟨w4.heap.size+1,0,none⟩) none 1 1 1 1 2 2 1 1 0 0 (by omega) (by omega) L4 (Hid.up_tz hT HQ4.out.1) (Hid.up_kz hK HQ4.out.1) (H4.out.1.up HP4.out.2.2) (H4.out.2.1.up HP4.out.2.2) HP4.out.1 HP4.out.2.1 ⟨.inl ⟨rfl,rfl⟩,fun y hy=>by simp at hy,Nat.le_refl _⟩
 obtain ⟨a4,ea4⟩:∃ a,(gof [1] liL 1 [0,0] [1] [] 0).2.2=a:=⟨_,rfl⟩
 rw [kn_c,ea4] at cc
 refine cc.mono ?_
 rintro e v4 ⟨u4,rfl,_,hb4⟩
 have HK3':Hid (RowI v4 (some ⟨g,0,none⟩) 1 1 [1]∧RowI v4 (some ⟨g+1,0,none⟩) 1 1 [1]∧Below w.heap.size w v4):=⟨(HK3.out.1.up HQ4.out.2).up hb4,(HK3.out.2.1.up HQ4.out.2).up hb4,bstep HQ4.out.1 hb4⟩
 have y0:=cell_low (cell_low x0 HQ4.out.2) hb4
 have y1:=cell_low (cell_low x1 HQ4.out.2) hb4
 have y2:=cell_low (cell_low x2 HQ4.out.2) hb4
 clear x0 x1 x2 kx HK3 cc hb4 H4 HP4 hK4 HQ4 ea4
 have HK3:=HK3'
 have x0:=y0
 have x1:=y1
 have x2:=y2
 clear y0 y1 y2 HK3'
 have kx:=cell_lt x0
 go_wp2_with fail
 refine (line_any v4).mono ?_
 rintro e w5 ⟨q5,r5,rfl,n5,l5,hB5⟩
 have H5:Hid (Nums .i64 w5 (.slice (some ⟨q5,0,none⟩) 1 1) [1]∧LyR 0 w5 (some ⟨r5,0,none⟩) 1 liL∧Below v4.heap.size v4 w5):=⟨n5,l5,hB5⟩
 clear n5 l5 hB5
 go_wp2_with fail
 generalize hK5:World.alloc _ _=L5
 have HP5:Hid (RowI L5 (some ⟨w5.heap.size,0,none⟩) 2 2 [0,0]∧RowI L5 (some ⟨w5.heap.size+1,0,none⟩) 1 1 [1]∧Below w5.heap.size w5 L5):=by
  rw [← hK5]
  refine ⟨⟨(nums_lit (k:=.i64) w5 [0,0] 2 (0,0) rfl).up (up_alloc _ _),fun y hy=>by simp at hy;subst hy;omega,by omega⟩,⟨nums_lit2 (k:=.i64) w5 _ [1] 1 (0,0) rfl,fun y hy=>by simp at hy;subst hy;omega,by omega⟩,blit (up_alloc w5 _) _⟩
 have HQ5:Hid (Below w.heap.size w L5∧Below v4.heap.size v4 L5):=⟨bstep HK3.out.2.2 (bstep H5.out.2.2 HP5.out.2.2),bstep H5.out.2.2 HP5.out.2.2⟩
 have cc:=CO.out.1 3 [1] [] 1 (some ⟨q5,0,none⟩) (some ⟨r5,0,none⟩) (some ⟨w5.heap.size,0,none⟩) (some ⟨w5.heap.size+1,0,none⟩) none 1 1 1 1 2 2 1 1 0 0 (by omega) (by omega) L5 (Hid.up_tz hT HQ5.out.1) (Hid.up_kz hK HQ5.out.1) (H5.out.1.up HP5.out.2.2) (H5.out.2.1.up HP5.out.2.2) HP5.out.1 HP5.out.2.1 ⟨.inl ⟨rfl,rfl⟩,fun y hy=>by simp at hy,Nat.le_refl _⟩
 obtain ⟨a5,ea5⟩:∃ a,(gof [1] liL 3 [0,0] [1] [] 1).2.2=a:=⟨_,rfl⟩
 rw [kn_d,ea5] at cc
 refine cc.mono ?_
 rintro e v5 ⟨u5,rfl,_,hb5⟩
 have HK3':Hid (RowI v5 (some ⟨g,0,none⟩) 1 1 [1]∧RowI v5 (some ⟨g+1,0,none⟩) 1 1 [1]∧Below w.heap.size w v5):=⟨(HK3.out.1.up HQ5.out.2).up hb5,(HK3.out.2.1.up HQ5.out.2).up hb5,bstep HQ5.out.1 hb5⟩
 have y0:=cell_low (cell_low x0 HQ5.out.2) hb5
 have y1:=cell_low (cell_low x1 HQ5.out.2) hb5
 have y2:=cell_low (cell_low x2 HQ5.out.2) hb5
 clear x0 x1 x2 kx HK3 cc hb5 H5 HP5 hK5 HQ5 ea5
 have HK3:=HK3'
 have x0:=y0
 have x1:=y1
 have x2:=y2
 clear y0 y1 y2 HK3'
 have kx:=cell_lt x0
 go_wp2_with fail
 have cc:=CO.out.2.2 1 [1] [1] 0 none none none (some ⟨g,0,none⟩) (some ⟨g+1,0,none⟩) 0 0 0 0 0 0 1 1 1 1 (by omega) (by omega) v5 (Hid.up_tz hT HK3.out.2.2) (Hid.up_kz hK HK3.out.2.2) (.inl ⟨rfl,rfl⟩) ⟨rfl,fun i hi=>by omega⟩ ⟨.inl ⟨rfl,rfl⟩,fun y hy=>by simp at hy,Nat.le_refl _⟩ HK3.out.1 HK3.out.2.1
 obtain ⟨a6,ea6⟩:∃ a,(gof [] [] 1 [] [1] [1] 0).2.2=a:=⟨_,rfl⟩
 rw [kn_e,ea6] at cc
 refine cc.mono ?_
 rintro e w6 ⟨u6,rfl,_,hb6⟩
 have HB6:Hid (Below w.heap.size w w6):=bstep HK3.out.2.2 hb6
 clear cc hb6 HK3 x0 x1 x2 kx ea6
 go_wp2_with fail
 have hm2:∀ W,(Instr.makeSlice 35 (.int .i64 2) (.int .i64 2)).run Tryz.prog W = .ok (.slice (some ⟨W.heap.size,0,none⟩) 2 2) (W.alloc (.cells (madeCells (Value.agg #[.int .i64 0,.int .u64 0]).cells (2*2)) 45)):=fun W=>mkw_run 2 (by omega) W
 have hm3:∀ W,(Instr.makeSlice 35 (.int .i64 3) (.int .i64 3)).run Tryz.prog W = .ok (.slice (some ⟨W.heap.size,0,none⟩) 3 3) (W.alloc (.cells (madeCells (Value.agg #[.int .i64 0,.int .u64 0]).cells (3*2)) 45)):=fun W=>mkw_run 3 (by omega) W
 have c6:Hid (∀ W p q,WdR W (some ⟨p,0,none⟩) 2 (List.replicate 2 0)→WdR W (some ⟨q,0,none⟩) 3 (List.replicate 3 0)→Calls Tryz.prog 11 #[.slice (some ⟨p,0,none⟩) 2 2,.slice (some ⟨q,0,none⟩) 3 3] W fun e w'=>∃ v,e = .returned (.tuple #[v,.int .i64 4])∧Below W.heap.size W w'):=fun W p q h1 h2=>by
  have cc:=CJ.out (some ⟨p,0,none⟩) (some ⟨q,0,none⟩) 2 2 3 3 _ _ (by omega) W h1 h2
  rw [if_neg (by decide)] at cc
  refine cc.mono ?_
  rintro e' w8 ⟨v8,rfl,_,hb8⟩
  exact ⟨_,rfl,hb8⟩
 refine relM [⟨0,66,MadeW 2⟩,⟨1,67,MadeW 3⟩,⟨2,68,TupE 4⟩,⟨3,65,TupE 4⟩,⟨4,69,AnyV⟩] 6 93 (by kernel_rfl) rfl rfl [5] (by kernel_rfl) (by kernel_rfl) (fun i0 hi o0 ho c a w v h=>?_) (by rfl) ?_ ?_
 ·simp only [List.mem_cons,List.not_mem_nil,or_false] at hi
  rcases hi with rfl
  ·cases ho
   exact h
 ·intro e he v W W' h hb
  simp only [List.mem_cons,List.not_mem_nil,or_false] at he
  rcases he with rfl|rfl|rfl|rfl|rfl
  ·exact MadeW.up h hb
  ·exact MadeW.up h hb
  ·exact h
  ·exact h
  ·exact trivial
 apply Exists.intro
 refine ⟨?yt9,?yl9,?wk9,?pk9,?rest9⟩
 case wk9=>
  intro x
  simp only [List.take_succ_cons,List.take_zero]
  refine relTold rfl rfl ?_ ?_
  ·intro F hF hf d
   have hFc:=hF.cell
   have hFf:=hF.frozen
   simp [yieldsR,yieldsUpon,go_sem,hm2]
   exact ⟨⟨(F d).heap.size,rfl,made_rd 2 (F d)⟩,up_alloc _ _⟩
  (try simp only [Act.put,List.setIfInBounds_toArray,List.set_cons_zero,List.set_cons_succ])
  refine relTold rfl rfl ?_ ?_
  ·intro F hF hf d
   have hFc:=hF.cell
   have hFf:=hF.frozen
   simp [yieldsR,yieldsUpon,go_sem,hm3]
   exact ⟨⟨(F d).heap.size,rfl,made_rd 3 (F d)⟩,up_alloc _ _⟩
  (try simp only [Act.put,List.setIfInBounds_toArray,List.set_cons_zero,List.set_cons_succ])
  refine relTold rfl rfl ?_ ?_
  ·intro F hF hf d
   have hFc:=hF.cell
   have hFf:=hF.frozen
   have h8:=hf _ List.mem_cons_self (by rfl) d
   have h9:=hf _ (List.mem_cons_of_mem _ List.mem_cons_self) (by rfl) d
   obtain ⟨p8,e8,n8⟩:=h8
   obtain ⟨p9,e9,n9⟩:=h9
   simp only [] at e8 e9
   simp [yieldsR,yieldsUpon,go_sem,e8,e9]
   refine (c6.out (F d) p8 p9 n8 n9).mono ?_
   rintro e' w8 ⟨v8,rfl,hb8⟩
   exact ⟨_,rfl,⟨v8,rfl⟩,hb8⟩
  (try simp only [Act.put,List.setIfInBounds_toArray,List.set_cons_zero,List.set_cons_succ])
  refine relTold rfl rfl ?_ ?_
  ·intro F hF hf d
   have hFc:=hF.cell
   have hFf:=hF.frozen
   have h9:=hf _ (List.mem_cons_of_mem _ (List.mem_cons_of_mem _ List.mem_cons_self)) (by rfl) d
   simp [yieldsR,yieldsUpon,go_sem]
   exact ⟨h9,Below.refl _ _⟩
  (try simp only [Act.put,List.setIfInBounds_toArray,List.set_cons_zero,List.set_cons_succ])
  refine relTold rfl rfl ?_ ?_
  ·intro F hF hf d
   have hFc:=hF.cell
   have hFf:=hF.frozen
   have h9:=hf _ (List.mem_cons_of_mem _ (List.mem_cons_of_mem _ (List.mem_cons_of_mem _ List.mem_cons_self))) (by rfl) d
   obtain ⟨u9,e9⟩:=h9
   simp only [] at e9
   simp [yieldsR,yieldsUpon,go_sem,e9]
   exact ⟨trivial,Below.refl _ _⟩
  (try simp only [Act.put,List.setIfInBounds_toArray,List.set_cons_zero,List.set_cons_succ])
  refine relQuiet rfl rfl ?_
  apply Exists.intro
  refine ⟨fun F hF hf K hK=>?_,?_⟩
  ·have hFc:=hF.cell
   have hFf:=hF.frozen
   have h9:=hf _ (List.mem_cons_of_mem _ (List.mem_cons_of_mem _ (List.mem_cons_of_mem _ List.mem_cons_self))) (by rfl)
   obtain ⟨u9,e9⟩:=h9 w6
   simp only [] at e9
   go_big_quiet_op
   first|exact hK|(apply Exists.intro;refine ⟨fun _=>?_,?_⟩;(· fail);exact hK)
  (try simp only [Act.put,List.setIfInBounds_toArray,List.set_cons_zero,List.set_cons_succ])
  refine relEnd ?_
  exact rfl
 case pk9=>
  intro x
  simp only [putsK,List.foldl_cons,List.foldl_nil,Act.put,List.setIfInBounds_toArray,List.set_cons_zero,List.set_cons_succ]
 case yt9=>
  intro i0 hi o0 ho e he W x hx
  simp only [List.mem_cons,List.not_mem_nil,or_false] at hi
  rcases hi with rfl
  ·cases he
 case yl9=>
  intro i0 hi o0 ho hn x hx
  simp only [List.mem_cons,List.not_mem_nil,or_false] at hi
  rcases hi with rfl
  ·cases ho
   obtain ⟨W9,u9,e9⟩:=hx _ (List.mem_cons_of_mem _ (List.mem_cons_of_mem _ (List.mem_cons_of_mem _ List.mem_cons_self))) (by rfl)
   simp only [] at e9
   refine ⟨.int .i64 4,fun t ht=>?_,.inl ⟨by rfl,fun w=>?_⟩⟩
   ·cases ht
    rfl
   ·simp [execOp,Act.eval,e9,go_sem]
 intro w9 xs hB9 hf
 simp only [List.drop_succ_cons,List.drop_zero]
 have HB9:Hid (Below w.heap.size w w9):=bstep HB6.out hB9
 clear hf hB9 hm2 hm3 c6
 go_wp2
 go_ret
 exact ⟨rfl,HB9.out⟩
theorem gknown_walk (w:World) (hT:Hid (Tz w)) (hK:Hid (Kz w)):Calls Tryz.prog 3 #[] w fun e w'=>e = .returned (.bool true)∧Below w.heap.size w w':=gknown_of (sum_of (plc_line _)) (of_c (plc_line _)) (of_c (plc_line _)) (of_c (plc_none _)) join_c w hT hK
end Go.Proofs.YtjlofobnmjompaaGreatDoor.Wd
namespace Go.Proofs.YtjlofobnmjompaaGreatDoor.Wd
open Go.RowKit
theorem kind_cells {H:Type} {enc:TypeId×Value→H} {P:Program} {w:World} {base:Nat} {sp:Nat→Bool} {held:Bool} {fuel:Nat} {e q:TypeId} {f0 f1 f2:Field} {ds:List Value} {bs:List UInt8} {a b c:Int} {p:List MemPlace}
  (he:P.underlying e=some (.struct #[f0,f1,f2])) (ce:P.cellsOf e=4) (o0:f0.offset=0) (o1:f1.offset=1) (o2:f2.offset=2) (c0:P.cellsOf f0.type=1) (c1:P.cellsOf f1.type=1) (c2:P.cellsOf f2.type=2)
  (u0:P.underlying f0.type=some .string) (u1:P.underlying f1.type=some (.int .i64)) (u2:P.underlying f2.type=some (.array 2 q)) (uq:P.underlying q=some (.int .i64)) (cq:P.cellsOf q=1)
  (h:DataW.trod enc P w base sp held fuel e ds=some (.agg [.lit (.string bs),.lit (.int .i64 a),.agg [.lit (.int .i64 b),.lit (.int .i64 c)]],p)):ds = [.string ⟨bs.toArray⟩,.int .i64 a,.int .i64 b,.int .i64 c]:=by
 obtain ⟨ys,n,_,hx,hl,hyl,hf⟩:=DataW.trod_struct he h
 rw [ce] at hl
 have hxs:=(Prod.mk.inj hx).1
 simp only [DataW.agg.injEq] at hxs
 match ys,hyl with
 | [y0,y1,y2],_=>
  simp only [List.map_cons,List.map_nil,List.cons.injEq,and_true] at hxs
  obtain ⟨h0,h1,h2⟩:=hxs
  have t0:=hf 0 f0 rfl
  have t1:=hf 1 f1 rfl
  have t2:=hf 2 f2 rfl
  match ds,hl with
  | [v0,v1,v2,v3],_=>
   simp [o0,c0] at t0
   simp [o1,c1] at t1
   simp [o2,c2] at t2
   obtain ⟨z0,e0,x0,_⟩:=DataW.trod_string u0 t0
   obtain ⟨z1,e1,x1,_⟩:=DataW.trod_int u1 t1
   obtain ⟨y20,y21⟩:=y2
   simp only [] at h2
   subst h2
   have e2:=Lib.cells_of_tab (zs:=[b,c]) u2 uq cq c2 t2
   simp only [List.cons.injEq,and_true,List.map_cons,List.map_nil] at e0 e1 e2
   obtain ⟨e2,e3⟩:=e2
   subst e0 e1 e2 e3
   rw [x0] at h0
   rw [x1] at h1
   simp only [DataW.lit.injEq,Lit.string.injEq,Lit.int.injEq,true_and] at h0 h1
   subst h1
   rw [h0]
theorem cut20 {α:Type} (l:List α) (h:l.length=20):l=(l.drop 0).take 4++((l.drop 4).take 4++((l.drop 8).take 4++((l.drop 12).take 4++(l.drop 16).take 4))):=by
 have k:∀ n,l.drop n=(l.drop n).take 4++l.drop (n+4):=fun n=>by
  have:=(List.take_append_drop 4 (l.drop n)).symm
  rw [List.drop_drop] at this
  exact this
 conv=>lhs;rw [← List.drop_zero (l:=l),k 0,k 4,k 8,k 12,k 16,List.drop_eq_nil_of_le (show l.length≤16+4 by omega),List.append_nil]
theorem kinds_cells {H:Type} {enc:TypeId×Value→H} {P:Program} {w:World} {base:Nat} {sp:Nat→Bool} {held:Bool} {fuel:Nat} {t e q:TypeId} {f0 f1 f2:Field} {cs:List Value} {p:List MemPlace}
  (ht:P.underlying t=some (.array 5 e)) (ct:P.cellsOf t=20)
  (he:P.underlying e=some (.struct #[f0,f1,f2])) (ce:P.cellsOf e=4) (o0:f0.offset=0) (o1:f1.offset=1) (o2:f2.offset=2) (c0:P.cellsOf f0.type=1) (c1:P.cellsOf f1.type=1) (c2:P.cellsOf f2.type=2)
  (u0:P.underlying f0.type=some .string) (u1:P.underlying f1.type=some (.int .i64)) (u2:P.underlying f2.type=some (.array 2 q)) (uq:P.underlying q=some (.int .i64)) (cq:P.cellsOf q=1)
  (h:DataW.trod enc P w base sp held fuel t cs=some (Rows.laid_carousel_model_kinds,p)):cs=kArr.toList:=by
 cases fuel with
 | zero=>simp [DataW.trod] at h
 | succ fuel=>
  simp only [DataW.trod,ht,ce,ct] at h
  split at h
  ·rename_i hl
   obtain ⟨xs,hm,hx⟩:=Option.map_eq_some_iff.1 h
   have hxs:=(Prod.mk.inj hx).1
   unfold Rows.laid_carousel_model_kinds at hxs
   simp only [DataW.agg.injEq] at hxs
   have hxl:xs.length=5:=by simpa using Lib.mapM_length hm
   have g:=fun i (hi:i < 5)=>Lib.mapM_at hm i i (by simp [hi])
   obtain ⟨b0,hb0,g0⟩:=g 0 (by omega)
   obtain ⟨b1,hb1,g1⟩:=g 1 (by omega)
   obtain ⟨b2,hb2,g2⟩:=g 2 (by omega)
   obtain ⟨b3,hb3,g3⟩:=g 3 (by omega)
   obtain ⟨b4,hb4,g4⟩:=g 4 (by omega)
   match xs,hxl with
   | [(d0,q0),(d1,q1),(d2,q2),(d3,q3),(d4,q4)],_=>
    simp only [List.map_cons,List.map_nil,List.cons.injEq,and_true] at hxs
    obtain ⟨rfl,rfl,rfl,rfl,rfl⟩:=hxs
    simp at hb0 hb1 hb2 hb3 hb4
    subst hb0 hb1 hb2 hb3 hb4
    have r0:=kind_cells he ce o0 o1 o2 c0 c1 c2 u0 u1 u2 uq cq g0
    have r1:=kind_cells he ce o0 o1 o2 c0 c1 c2 u0 u1 u2 uq cq g1
    have r2:=kind_cells he ce o0 o1 o2 c0 c1 c2 u0 u1 u2 uq cq g2
    have r3:=kind_cells he ce o0 o1 o2 c0 c1 c2 u0 u1 u2 uq cq g3
    have r4:=kind_cells he ce o0 o1 o2 c0 c1 c2 u0 u1 u2 uq cq g4
    rw [cut20 cs (by omega)]
    rw [show (List.drop 0 cs).take 4=_ from r0,show (List.drop 4 cs).take 4=_ from r1,show (List.drop 8 cs).take 4=_ from r2,show (List.drop 12 cs).take 4=_ from r3,show (List.drop 16 cs).take 4=_ from r4]
    rfl
  ·cases h
theorem kz_var {W : World} (h : W.var? Tryz.prog "carousel/model.kinds" = some kArr) : Kz W := by
 have hc:=World.var?_cell (g:=0) (by kernel_rfl) h
 intro i hi
 have e:∀ j,j < 20→kArr[j]?=kArr.toList[j]?:=fun j _=>by simp
 rcases (show i=0∨i=1∨i=2∨i=3∨i=4 by omega) with rfl|rfl|rfl|rfl|rfl
 ·exact ⟨(hc 0).trans rfl,(hc 1).trans rfl,(hc 2).trans rfl,(hc 3).trans rfl⟩
 ·exact ⟨(hc 4).trans rfl,(hc 5).trans rfl,(hc 6).trans rfl,(hc 7).trans rfl⟩
 ·exact ⟨(hc 8).trans rfl,(hc 9).trans rfl,(hc 10).trans rfl,(hc 11).trans rfl⟩
 ·exact ⟨(hc 12).trans rfl,(hc 13).trans rfl,(hc 14).trans rfl,(hc 15).trans rfl⟩
 ·exact ⟨(hc 16).trans rfl,(hc 17).trans rfl,(hc 18).trans rfl,(hc 19).trans rfl⟩
end Go.Proofs.YtjlofobnmjompaaGreatDoor.Wd
