/- The listed tables, as the walks ask for them: the kinds of layers, the powers of ten. · ModelCounts: a row of dense layers has as many parameters as the document says. -/
import Derived.Test.YtiampagapgjedabGreatDoorRows
import Derived.Test.YtiampagapgjedabGreatDoorC23
import Derived.Lib.LaidTab
import Derived.Test.YtiampagapgjedabGreatDoorC00
set_option linter.unusedVariables false
set_option linter.unusedSimpArgs false
set_option maxHeartbeats 16000000
set_option maxRecDepth 16000
namespace Go.Proofs.YtiampagapgjedabGreatDoor.Wd
open Go.RowKit
theorem kind_cells {H:Type} {enc:TypeId×Value→H} {P:Program} {w:World} {base:Nat} {sp:Nat→Bool} {held:Bool} {fuel:Nat} {e q:TypeId} {f0 f1 f2:Field} {ds:List Value} {bs:List UInt8} {a b c:Int} {p:List MemPlace}
  (he:P.underlying e=some (.struct #[f0,f1,f2])) (ce:P.cellsOf e=4) (o0:f0.offset=0) (o1:f1.offset=1) (o2:f2.offset=2) (c0:P.cellsOf f0.type=1) (c1:P.cellsOf f1.type=1) (c2:P.cellsOf f2.type=2)
  (u0:P.underlying f0.type=some .string) (u1:P.underlying f1.type=some (.int .i64)) (u2:P.underlying f2.type=some (.array 2 q)) (uq:P.underlying q=some (.int .i64)) (cq:P.cellsOf q=1)
  (h:DataW.trod enc P w base sp held fuel e ds=some (.agg [.lit (.string bs),.lit (.int .i64 a),.agg [.lit (.int .i64 b),.lit (.int .i64 c)]],p)):ds = [.string ⟨bs.toArray⟩,.int .i64 a,.int .i64 b,.int .i64 c]:=by
 obtain ⟨ys,n,_,hx,hl,hyl,hf⟩:=DataW.trod_struct he h
 rw [ce] at hl
 have hxs:=(Prod.mk.inj hx).1
 simp only [DataW.agg.injEq] at hxs
 match ys,hyl with
 | [y0,y1,y2],_=>
  simp only [List.map_cons,List.map_nil,List.cons.injEq,and_true] at hxs
  obtain ⟨h0,h1,h2⟩:=hxs
  have t0:=hf 0 f0 rfl
  have t1:=hf 1 f1 rfl
  have t2:=hf 2 f2 rfl
  match ds,hl with
  | [v0,v1,v2,v3],_=>
   simp [o0,c0] at t0
   simp [o1,c1] at t1
   simp [o2,c2] at t2
   obtain ⟨z0,e0,x0,_⟩:=DataW.trod_string u0 t0
   obtain ⟨z1,e1,x1,_⟩:=DataW.trod_int u1 t1
   obtain ⟨y20,y21⟩:=y2
   simp only [] at h2
   subst h2
   have e2:=Lib.cells_of_tab (zs:=[b,c]) u2 uq cq c2 t2
   simp only [List.cons.injEq,and_true,List.map_cons,List.map_nil] at e0 e1 e2
   obtain ⟨e2,e3⟩:=e2
   subst e0 e1 e2 e3
   rw [x0] at h0
   rw [x1] at h1
   simp only [DataW.lit.injEq,Lit.string.injEq,Lit.int.injEq,true_and] at h0 h1
   subst h1
   rw [h0]
theorem cut20 {α:Type} (l:List α) (h:l.length=20):l=(l.drop 0).take 4++((l.drop 4).take 4++((l.drop 8).take 4++((l.drop 12).take 4++(l.drop 16).take 4))):=by
 have k:∀ n,l.drop n=(l.drop n).take 4++l.drop (n+4):=fun n=>by
  have:=(List.take_append_drop 4 (l.drop n)).symm
  rw [List.drop_drop] at this
  exact this
 conv=>lhs;rw [← List.drop_zero (l:=l),k 0,k 4,k 8,k 12,k 16,List.drop_eq_nil_of_le (show l.length≤16+4 by omega),List.append_nil]
theorem kinds_cells {H:Type} {enc:TypeId×Value→H} {P:Program} {w:World} {base:Nat} {sp:Nat→Bool} {held:Bool} {fuel:Nat} {t e q:TypeId} {f0 f1 f2:Field} {cs:List Value} {p:List MemPlace}
  (ht:P.underlying t=some (.array 5 e)) (ct:P.cellsOf t=20)
  (he:P.underlying e=some (.struct #[f0,f1,f2])) (ce:P.cellsOf e=4) (o0:f0.offset=0) (o1:f1.offset=1) (o2:f2.offset=2) (c0:P.cellsOf f0.type=1) (c1:P.cellsOf f1.type=1) (c2:P.cellsOf f2.type=2)
  (u0:P.underlying f0.type=some .string) (u1:P.underlying f1.type=some (.int .i64)) (u2:P.underlying f2.type=some (.array 2 q)) (uq:P.underlying q=some (.int .i64)) (cq:P.cellsOf q=1)
  (h:DataW.trod enc P w base sp held fuel t cs=some (Rows.laid_carousel_model_kinds,p)):cs=kArr.toList:=by
 cases fuel with
 | zero=>simp [DataW.trod] at h
 | succ fuel=>
  simp only [DataW.trod,ht,ce,ct] at h
  split at h
  ·rename_i hl
   obtain ⟨xs,hm,hx⟩:=Option.map_eq_some_iff.1 h
   have hxs:=(Prod.mk.inj hx).1
   unfold Rows.laid_carousel_model_kinds at hxs
   simp only [DataW.agg.injEq] at hxs
   have hxl:xs.length=5:=by simpa using Lib.mapM_length hm
   have g:=fun i (hi:i < 5)=>Lib.mapM_at hm i i (by simp [hi])
   obtain ⟨b0,hb0,g0⟩:=g 0 (by omega)
   obtain ⟨b1,hb1,g1⟩:=g 1 (by omega)
   obtain ⟨b2,hb2,g2⟩:=g 2 (by omega)
   obtain ⟨b3,hb3,g3⟩:=g 3 (by omega)
   obtain ⟨b4,hb4,g4⟩:=g 4 (by omega)
   match xs,hxl with
   | [(d0,q0),(d1,q1),(d2,q2),(d3,q3),(d4,q4)],_=>
    simp only [List.map_cons,List.map_nil,List.cons.injEq,and_true] at hxs
    obtain ⟨rfl,rfl,rfl,rfl,rfl⟩:=hxs
    simp at hb0 hb1 hb2 hb3 hb4
    subst hb0 hb1 hb2 hb3 hb4
    have r0:=kind_cells he ce o0 o1 o2 c0 c1 c2 u0 u1 u2 uq cq g0
    have r1:=kind_cells he ce o0 o1 o2 c0 c1 c2 u0 u1 u2 uq cq g1
    have r2:=kind_cells he ce o0 o1 o2 c0 c1 c2 u0 u1 u2 uq cq g2
    have r3:=kind_cells he ce o0 o1 o2 c0 c1 c2 u0 u1 u2 uq cq g3
    have r4:=kind_cells he ce o0 o1 o2 c0 c1 c2 u0 u1 u2 uq cq g4
    rw [cut20 cs (by omega)]
    rw [show (List.drop 0 cs).take 4=_ from r0,show (List.drop 4 cs).take 4=_ from r1,show (List.drop 8 cs).take 4=_ from r2,show (List.drop 12 cs).take 4=_ from r3,show (List.drop 16 cs).take 4=_ from r4]
    rfl
  ·cases h
theorem kz_var {W : World} (h : W.var? Tryz.prog "carousel/model.kinds" = some kArr) : Kz W := by
 have hc:=World.var?_cell (g:=0) (by kernel_rfl) h
 intro i hi
 have e:∀ j,j < 20→kArr[j]?=kArr.toList[j]?:=fun j _=>by simp
 rcases (show i=0∨i=1∨i=2∨i=3∨i=4 by omega) with rfl|rfl|rfl|rfl|rfl
 ·exact ⟨(hc 0).trans rfl,(hc 1).trans rfl,(hc 2).trans rfl,(hc 3).trans rfl⟩
 ·exact ⟨(hc 4).trans rfl,(hc 5).trans rfl,(hc 6).trans rfl,(hc 7).trans rfl⟩
 ·exact ⟨(hc 8).trans rfl,(hc 9).trans rfl,(hc 10).trans rfl,(hc 11).trans rfl⟩
 ·exact ⟨(hc 12).trans rfl,(hc 13).trans rfl,(hc 14).trans rfl,(hc 15).trans rfl⟩
 ·exact ⟨(hc 16).trans rfl,(hc 17).trans rfl,(hc 18).trans rfl,(hc 19).trans rfl⟩
end Go.Proofs.YtiampagapgjedabGreatDoor.Wd
namespace Go.Proofs.YtiampagapgjedabGreatDoor.Wd
open Go.RowKit Fx
theorem drewK (W:World) (k:Nat):(W.drew).heap[k]?=W.heap[k]?:=rfl
theorem dn_len (l:List Int):(dnL l).length=l.length:=by simp [dnL]
theorem dn_take (l:List Int) (k:Nat) (hk:k < l.length):(dnL (l.take (k+1))).flatMap lyC=(dnL (l.take k)).flatMap lyC++[.string kDense,.int .i64 (l.getD k 0),.int .i64 0]:=by
 rw [dnL_snoc l k hk,List.flatMap_append]
 rfl
theorem mcounts_walk (w:World) (hT:Hid (Tz w)) (hK:Hid (Kz w)) (hP:Hid (Pz w)) (x:Int) (z:Nat→Int) (n c:Nat) (p:Option Addr) (hx:-9223372036854775808≤x∧x≤9223372036854775807) (h1:RowN .i64 w p n c z):
  Calls Tryz.prog 3 #[.int .i64 x,.slice p n c] w fun e w'=>e = .returned (.bool true)∧Below w.heap.size w w':=by
 haveI:Nonempty World:=⟨w⟩
 obtain ⟨l,hl,hd⟩:∃ d:List Int,d.length=n∧Nums .i64 w (.slice p n c) d:=⟨nlst n z,nlst_len n z,h1.nums⟩
 obtain ⟨p',n',c',e',HC⟩:=hd.lst
 cases e'
 have HN:Hid (l.length=n):=hl
 clear h1 hd hl
 go_enter Tryz.func3,Tryz.ntmps3
 go_wp2_with fail
 refine (awake12_any w hT hK hP).mono ?_
 rintro e w1 ⟨rfl,hB⟩
 have HB1:Hid (Below w.heap.size w w1):=hB
 have HS1:Hid (w.heap.size≤w1.heap.size):=hB.size
 clear hB
 by_cases hx1:x < 1
 ·go_wp2
  go_ret
  exact ⟨rfl,HB1.out⟩
 by_cases hx2:1024 < x
 ·have hx1':1≤x:=by omega
  go_wp2
  go_ret
  exact ⟨rfl,HB1.out⟩
 by_cases hn:16 < n
 ·have hx1':1≤x:=by omega
  have hx2':x≤1024:=by omega
  have hn':(16:Int) < (n:Int):=by omega
  go_wp2
  go_ret
  exact ⟨rfl,HB1.out⟩
 have hx1':1≤x:=by omega
 have hx2':x≤1024:=by omega
 have hn':(n:Int)≤16:=by omega
 go_wp2_with fail
 generalize hW0:World.alloc _ _=W0
 have HX:Hid (W0.heap[w1.heap.size]?=some (.cells #[.int .i64 x] 3 (0,0))∧W0.heap[w1.heap.size+1]?=some (.cells #[.slice (some ⟨w1.heap.size,0,none⟩) 1 1,.slice none 0 0] 26 (0,0))∧Below w.heap.size w W0):=by
  rw [← hW0]
  have s1:(w1.alloc (.cells #[.int .i64 x] 3)).heap.size=w1.heap.size+1:=by simp
  have h1:=heap_alloc_new w1 (.cells #[.int .i64 x] 3)
  have h2:=heap_alloc_new (w1.alloc (.cells #[.int .i64 x] 3)) (.cells #[.slice (some ⟨w1.heap.size,0,none⟩) 1 1,.slice none 0 0] 26)
  rw [s1] at h2
  exact ⟨by rw [(up_alloc _ _).block _ (by omega)];exact h1,h2,bstep (bstep HB1.out (up_alloc _ _)) (up_alloc _ _)⟩
 clear hW0
 go_loopg [6,7,8,9] n (fun gg v6 v7 v8 v9 wr=>∃ (k:Nat) (vL:Value) (g:Bool) (a f:Int),k≤n∧gg=n - k∧v6 = .int .i64 a∧v7 = .bool g∧v8 = .int .i64 f∧v9 = .int .i64 (k:Int)∧Hid (a=alD x l k∧g=grD x l k∧f=frD x l k)∧Hid (∀ j,j < k→1≤l.getD j 0∧l.getD j 0≤256)∧Hid (wr.heap[w1.heap.size]?=some (.cells #[.int .i64 x] 3 (0,0))∧wr.heap[w1.heap.size+1]?=some (.cells #[.slice (some ⟨w1.heap.size,0,none⟩) 1 1,vL] 26 (0,0))∧Below w.heap.size w wr)∧Hid (wr.ownsRow w.heap.size 28 3 vL k ((dnL (l.take k)).flatMap lyC)))
 case atStart=>exact ⟨0,.slice none 0 0,false,0,x,by omega,by omega,rfl,rfl,rfl,rfl,⟨rfl,rfl,rfl⟩,fun j hj=>by omega,HX,⟨rfl,.inl ⟨rfl,rfl⟩⟩⟩
 case round=>
  obtain ⟨k,vL,g,a,f,hk,hg,rfl,rfl,rfl,rfl,HV,HA,HI,HL9⟩:=hrel
  obtain ⟨pL,cL,rfl⟩:∃ pL cL,vL = .slice pL k cL:=by
   rcases HL9.out.2 with ⟨rfl,h0⟩|⟨g,cap,cur,rfl,_⟩
   ·exact ⟨none,0,by rw [h0]⟩
   ·exact ⟨_,_,rfl⟩
  obtain ⟨_,⟨b1,_⟩⟩:=box_2 HI.out.2.1
  have kb1:=cell_size b1
  by_cases hkn:k < n
  ·have hk':(k:Int) < (n:Int):=by omega
   have hlen:k < l.length:=by rw [HN.out];exact hkn
   obtain ⟨q,o,rfl,hc0⟩:=HC.out.2 k hkn
   obtain ⟨y,ey⟩:∃ y,l.getD k 0=y:=⟨_,rfl⟩
   rw [ey] at hc0
   have hcw:Hid (w.cell? ⟨q,o+k,none⟩=some (.int .i64 y)):=hc0
   have HY:Hid (l.getD k 0=y):=ey
   replace hc0:=still_cell HI.out.2.2 hc0
   have kc:=cell_size hc0
   by_cases hy1:y < 1
   ·clear ey
    go_wp2
    go_ret
    exact ⟨rfl,HI.out.2.2⟩
   by_cases hy2:256 < y
   ·have hy1':1≤y:=by omega
    clear ey
    go_wp2
    go_ret
    exact ⟨rfl,HI.out.2.2⟩
   have hy1':1≤y:=by omega
   have hy2':y≤256:=by omega
   have HA2:Hid (∀ j,j < k+1→1≤l.getD j 0∧l.getD j 0≤256):=fun j hj=>by
    rcases Nat.lt_succ_iff_lt_or_eq.1 hj with h2|rfl
    ·exact HA.out j h2
    ·rw [ey];exact ⟨hy1',hy2'⟩
   have hfl:=fl_rng ⟨hx1',hx2'⟩ HA2.out
   have hal:=al_rng ⟨hx1',hx2'⟩ HA.out
   have hfr:=fr_rng ⟨hx1',hx2'⟩ HA.out
   rw [ey,← HV.out.2.2] at hfl
   rw [← HV.out.2.2] at hfr
   rw [← HV.out.1] at hal
   have hal2:0≤a∧a≤4198400:=by omega
   obtain ⟨m,em⟩:∃ m,f*y=m:=⟨_,rfl⟩
   have HM:Hid (frD x l k*l.getD k 0=m):=by
    show _=_
    rw [← HV.out.2.2,ey]
    exact em
   rw [em] at hfl
   have HT:Hid ((dnL (l.take (k+1))).flatMap lyC=(dnL (l.take k)).flatMap lyC++[.string kDense,.int .i64 y,.int .i64 0]):=by
    have:=dn_take l k hlen
    rw [ey] at this
    exact this
   have HRW:Hid (∀ z,Value.ownBlock (.slice pL k cL)=some z→z < wr.heap.size):=fun z hz'=>(World.ownsRow.lt HL9.out z hz').2
   have HZ9:Hid (w.heap.size≤wr.heap.size):=HI.out.2.2.size
   have HG:Hid (∀ W,wr.grownBy W (Value.ownBlock (.slice pL k cL))→Only [28] wr W∧Below w.heap.size w W):=fun W hW=>⟨grown_only HL9.out hW,Below.grown HI.out.2.2 hW HZ9.out fun k hk=>(World.ownsRow.lt HL9.out k hk).1⟩
   have HQ:Hid (∀ W,wr.grownBy W (Value.ownBlock (.slice pL k cL))→W.cell? ⟨w1.heap.size+1,1,none⟩=some (.slice pL k cL)∧W.cell? ⟨q,o+k,none⟩=some (.int .i64 y)):=fun W hW=>by
    obtain ⟨h1,h2⟩:=HG.out W hW
    exact ⟨(box_2 (h1.keep HI.out.2.1 (by decide))).2.1,still_cell h2 hcw.out⟩
   clear ey hal HA
   go_wp2
   refine from_region (by kernel_rfl) ?_
   refine seg (fun q W=>match q with|false=>Below wr.heap.size wr W|true=>wr.grownBy W (Value.ownBlock (.slice pL k cL))) (fun W W'=>W.grownBy W' (Value.ownBlock (.slice pL k cL))) 8 [⟨7,54,LitS 28 wr.heap.size [.string kDense,.int .i64 y,.int .i64 0]⟩,⟨8,55,OwnG 28 3 w.heap.size (k+1) (((dnL (l.take k)).flatMap lyC)++[.string kDense,.int .i64 y,.int .i64 0])⟩] 0 10 107 rfl rfl (by kernel_rfl) (by rfl) ?_ ?_ ?_ ?_ ?_ ?_
   ·intro q W W' h hb
    cases q
    ·exact bstep h hb
    ·exact grown_up h hb
   ·exact ⟨rfl,rfl,rfl,Nat.le_refl _,fun _ _=>rfl⟩
   ·exact .inl ⟨_,List.mem_cons_of_mem _ List.mem_cons_self,rfl⟩
   ·intro e he v W W' h hb
    simp only [List.mem_cons,List.not_mem_nil,or_false] at he
    rcases he with rfl|rfl
    ·exact LitS.up h hb
    ·exact OwnG.up h hb
   ·intro e he hne v W W' h hc ht
    simp only [List.mem_cons,List.not_mem_nil,or_false] at he
    rcases he with rfl|rfl
    ·exact LitS.grown h ht HRW.out
    ·exact absurd rfl hne
   apply Exists.intro
   refine ⟨fun x=>?_,?_,?_⟩
   ·simp only [List.drop_succ_cons,List.drop_zero,List.take_succ_cons,List.take_zero]
    iterate 7
     refine segQuiet rfl rfl ?_
     apply Exists.intro
     refine ⟨fun b' F hF hf K hK=>?_,?_⟩
     ·have hFc:=hF.cls
      have q:=fun d=>HQ.out (F d) (by
       cases b'
       ·exact below_grown _ (hFc d)
       ·exact hFc d)
      have q1:=fun d=>(q d).1
      have q2:=fun d=>(q d).2
      clear hFc q
      go_big_quiet_op
      first|exact hK|(apply Exists.intro;refine ⟨fun _=>?_,?_⟩;(· fail);exact hK)
     (try simp only [Act.put,List.setIfInBounds_toArray,List.set_cons_zero,List.set_cons_succ])
    refine segTold rfl (by decide) rfl ?_ ?_
    ·intro b' F hF hf d
     have hFc:=hF.cls
     have hcls:wr.heap.size≤(F d).heap.size:=by
      cases b'
      ·exact (hFc d).size
      ·exact (hFc d).size
     simp [yieldsR,yieldsUpon,go_sem]
     exact ⟨⟨(F d).heap.size,rfl,heap_alloc_new (F d) _,hcls⟩,up_alloc _ _⟩
    (try simp only [Act.put,List.setIfInBounds_toArray,List.set_cons_zero,List.set_cons_succ])
    refine segBusy rfl rfl rfl ?_ ?_
    ·intro W hW hf
     have h7:=hf _ List.mem_cons_self (by rfl) W
     obtain ⟨g7,e7,hg7,_⟩:=h7
     simp only [] at e7
     obtain ⟨g8,c8,w8,hr8,ho8,hgr8⟩:=appGr layT (by decide) (by decide) 24 W w.heap.size (.slice pL k cL) k ((dnL (l.take k)).flatMap lyC) (owns_only (S:=[]) HL9.out (Only.of hW) (by simp)) g7 [.string kDense,.int .i64 y,.int .i64 0] hg7 rfl (fun x hx=>by simp at hx;rcases hx with rfl|rfl|rfl <;> rfl) (by omega) (Nat.le_trans HZ9.out (Below.size hW))
     simp [leavesR,leavesUpon,execOp,resolve,invoke,builtin,Act.eval,e7,hr8,Result.andThen]
     exact ⟨⟨g8,c8,rfl,ho8⟩,grown_trans (below_grown _ hW) hgr8,hgr8⟩
    (try simp only [Act.put,List.setIfInBounds_toArray,List.set_cons_zero,List.set_cons_succ])
    refine segQuiet rfl rfl ?_
    apply Exists.intro
    refine ⟨fun b' F hF hf K hK=>?_,?_⟩
    ·have hFc:=hF.cls
     have q:=fun d=>HQ.out (F d) (by
      cases b'
      ·exact below_grown _ (hFc d)
      ·exact hFc d)
     have q1:=fun d=>(q d).1
     have q2:=fun d=>(q d).2
     clear hFc q
     go_big_quiet_op
     first|exact hK|(apply Exists.intro;refine ⟨fun _=>?_,?_⟩;(· fail);exact hK)
    (try simp only [Act.put,List.setIfInBounds_toArray,List.set_cons_zero,List.set_cons_succ])
    refine segEnd ?_
    exact rfl
   ·exact fun x=>rfl
   ·intro w8 xs8 hC8 hf8
    refine from_list 10 (by kernel_rfl) ?_
    simp only [List.drop_succ_cons,List.drop_zero]
    have h8:=hf8 _ (List.mem_cons_of_mem _ List.mem_cons_self)
    obtain ⟨x5,e5⟩:∃ z,xs8 7=z:=⟨_,rfl⟩
    obtain ⟨x6,e6⟩:∃ z,xs8 8=z:=⟨_,rfl⟩
    simp only [e6] at h8
    simp only [e5,e6]
    obtain ⟨g8,c8,rfl,h8⟩:=h8
    have hO8:=HG.out w8 hC8
    have hv8:=hO8.1.keep HI.out.2.1 (by decide)
    obtain ⟨_,⟨r0,r1⟩⟩:=box_2 hv8
    obtain ⟨U,hU⟩:∃ U,w8.setCell ⟨w1.heap.size+1,1,none⟩ (.slice (some ⟨g8,0,none⟩) (k+1) c8)=U:=⟨_,rfl⟩
    have HF:Hid (U.heap[w1.heap.size]?=some (.cells #[.int .i64 x] 3 (0,0))∧U.heap[w1.heap.size+1]?=some (.cells #[.slice (some ⟨w1.heap.size,0,none⟩) 1 1,.slice (some ⟨g8,0,none⟩) (k+1) c8] 26 (0,0))∧Below w.heap.size w U):=by
     rw [← hU]
     refine ⟨?_,?_,hO8.2.setCell (p:=⟨w1.heap.size+1,1,none⟩) (Nat.le_trans HS1.out (Nat.le_succ _)) _⟩
     ·rw [heap_set _ _ _ _ _ (by omega)]
      exact hO8.1.keep HI.out.1 (by decide)
     ·rw [heap_setat hv8]
      rfl
    have HF2:Hid (U.ownsRow w.heap.size 28 3 (.slice (some ⟨g8,0,none⟩) (k+1) c8) (k+1) ((dnL (l.take (k+1))).flatMap lyC)):=by
     show World.ownsRow _ _ _ _ _ _ _
     rw [HT.out,← hU]
     exact owns_only (S:=[26]) h8 (Only.set hv8 (by simp)) (by decide)
    have cU:U.cell? ⟨q,o+k,none⟩=some (.int .i64 y):=by
     have:=still_cell HF.out.2.2 hcw.out
     exact this
    have kU:=cell_size cU
    have HZ:Hid (alD x l (k+1)=a+m+y∧frD x l (k+1)=y):=by
     refine ⟨?_,?_⟩
     ·simp only [alD]
      rw [← HV.out.1,HM.out,HY.out]
     ·unfold frD
      rw [if_neg (by omega)]
      exact HY.out
    have HGR:Hid (grD x l (k+1)=(g || decide (4096 < m))):=by
     show _=_
     simp only [grD]
     rw [← HV.out.2.1,HM.out]
    clear hO8 hv8 h8 hf8 hC8 e5 e6 HV HT HG HQ HRW HI HL9
    cases g with
    | true=>
     go_wp2
     go_region
     go_wp2
     go_roundg (n - (k+1))
     case measure=>omega
     case rel=>exact ⟨k+1,_,true,a+m+y,y,by omega,rfl,by first|rfl|simp [em],by first|rfl|simp,rfl,by first|rfl|simp,⟨HZ.out.1.symm,by rw [HGR.out];rfl,HZ.out.2.symm⟩,HA2,⟨(drewK _ _).trans HF.out.1,(drewK _ _).trans HF.out.2.1,below_drew HF.out.2.2 1⟩,owns_only (S:=[]) HF2.out (Only.of (below_drew (Below.refl _ _) 1)) (by simp)⟩
    | false=>
     go_wp2
     go_region
     go_wp2
     go_roundg (n - (k+1))
     case measure=>omega
     case rel=>exact ⟨k+1,_,decide (4096 < m),a+m+y,y,by omega,rfl,by first|rfl|simp [em],by first|rfl|simp,rfl,by first|rfl|simp,⟨HZ.out.1.symm,by rw [HGR.out];rfl,HZ.out.2.symm⟩,HA2,⟨(drewK _ _).trans HF.out.1,(drewK _ _).trans HF.out.2.1,below_drew HF.out.2.2 1⟩,owns_only (S:=[]) HF2.out (Only.of (below_drew (Below.refl _ _) 1)) (by simp)⟩
  ·obtain rfl:k=n:=by omega
   have HFIN:=dn_net ⟨hx1',hx2'⟩ (by rw [HN.out];omega) (l:=l) (by rw [HN.out];exact HA.out)
   rw [HN.out,← HV.out.1,← HV.out.2.1] at HFIN
   have hrow:LyR 0 wr pL k (dnL l):=by
    have h:LyO wr w.heap.size (.slice pL k cL) (dnL l):=by
     unfold LyO
     rw [dn_len,HN.out]
     have:=HL9.out
     rw [List.take_of_length_le (by rw [HN.out];exact Nat.le_refl _)] at this
     exact this
    obtain ⟨p3,c3,e3,h3⟩:=h.rd
    rw [dn_len,HN.out] at e3 h3
    cases e3
    exact h3
   have hin:Nums .i64 wr (.slice (some ⟨w1.heap.size,0,none⟩) 1 1) [x]:=.inr ⟨_,1,rfl,fun j v hj=>by
    match j,hj with
    | 0,hj=>
     cases hj
     rw [addr_plus]
     simp [World.cell?,HI.out.1]⟩
   have cp:=Params_any (some ⟨w1.heap.size,0,none⟩) pL 1 1 k cL [x] (dnL l) (by omega) wr (Hid.up_kz hK HI.out.2.2) hin hrow
   obtain ⟨⟨d0,_⟩,⟨d1,_⟩⟩:=box_2 HI.out.2.1
   have kd:=cell_size d0
   obtain ⟨E,eE⟩:∃ E,nE [x] (dnL l)=E:=⟨_,rfl⟩
   obtain ⟨P,eP⟩:∃ P,nP [x] (dnL l)=P:=⟨_,rfl⟩
   rw [eE,eP] at cp HFIN
   have HFI:Hid (if g=true∨4096 < a then E=2∧P=0 else E=0∧P=a):=HFIN
   clear eE eP HFIN hin hrow
   go_wp2_with fail
   refine cp.mono ?_
   rintro e w3 ⟨rfl,hB3⟩
   have HBF:Hid (Below w.heap.size w w3):=bstep HI.out.2.2 hB3
   clear hB3 cp
   cases g with
   | true=>
    have h9:=HFI.out
    rw [if_pos (.inl rfl)] at h9
    obtain ⟨rfl,rfl⟩:=h9
    go_wp2
    go_ret
    exact ⟨rfl,HBF.out⟩
   | false=>
    by_cases ha:4096 < a
    ·have h9:=HFI.out
     rw [if_pos (.inr ha)] at h9
     obtain ⟨rfl,rfl⟩:=h9
     go_wp2
     go_ret
     exact ⟨rfl,HBF.out⟩
    ·have h9:=HFI.out
     rw [if_neg (by simp [ha])] at h9
     obtain ⟨rfl,rfl⟩:=h9
     have ha':P≤4096:=by omega
     go_wp2
     go_ret
     exact ⟨rfl,HBF.out⟩
end Go.Proofs.YtiampagapgjedabGreatDoor.Wd
