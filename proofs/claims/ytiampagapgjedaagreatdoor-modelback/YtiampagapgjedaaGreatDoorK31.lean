/- The listed tables, as the walks ask for them: the kinds of layers, the powers of ten. -/
import Derived.Test.YtiampagapgjedaaGreatDoorRows
import Derived.Test.YtiampagapgjedaaGreatDoorK29
import Derived.Lib.LaidTab
set_option linter.unusedVariables false
set_option linter.unusedSimpArgs false
set_option maxHeartbeats 16000000
set_option maxRecDepth 16000
namespace Go.Proofs.YtiampagapgjedaaGreatDoor.Wd
open Go.RowKit
theorem kind_cells {H:Type} {enc:TypeId×Value→H} {P:Program} {w:World} {base:Nat} {sp:Nat→Bool} {held:Bool} {fuel:Nat} {e q:TypeId} {f0 f1 f2:Field} {ds:List Value} {bs:List UInt8} {a b c:Int} {p:List MemPlace}
  (he:P.underlying e=some (.struct #[f0,f1,f2])) (ce:P.cellsOf e=4) (o0:f0.offset=0) (o1:f1.offset=1) (o2:f2.offset=2) (c0:P.cellsOf f0.type=1) (c1:P.cellsOf f1.type=1) (c2:P.cellsOf f2.type=2)
  (u0:P.underlying f0.type=some .string) (u1:P.underlying f1.type=some (.int .i64)) (u2:P.underlying f2.type=some (.array 2 q)) (uq:P.underlying q=some (.int .i64)) (cq:P.cellsOf q=1)
  (h:DataW.trod enc P w base sp held fuel e ds=some (.agg [.lit (.string bs),.lit (.int .i64 a),.agg [.lit (.int .i64 b),.lit (.int .i64 c)]],p)):ds = [.string ⟨bs.toArray⟩,.int .i64 a,.int .i64 b,.int .i64 c]:=by
 obtain ⟨ys,n,_,hx,hl,hyl,hf⟩:=DataW.trod_struct he h
 rw [ce] at hl
 have hxs:=(Prod.mk.inj hx).1
 simp only [DataW.agg.injEq] at hxs
 match ys,hyl with
 | [y0,y1,y2],_=>
  simp only [List.map_cons,List.map_nil,List.cons.injEq,and_true] at hxs
  obtain ⟨h0,h1,h2⟩:=hxs
  have t0:=hf 0 f0 rfl
  have t1:=hf 1 f1 rfl
  have t2:=hf 2 f2 rfl
  match ds,hl with
  | [v0,v1,v2,v3],_=>
   simp [o0,c0] at t0
   simp [o1,c1] at t1
   simp [o2,c2] at t2
   obtain ⟨z0,e0,x0,_⟩:=DataW.trod_string u0 t0
   obtain ⟨z1,e1,x1,_⟩:=DataW.trod_int u1 t1
   obtain ⟨y20,y21⟩:=y2
   simp only [] at h2
   subst h2
   have e2:=Lib.cells_of_tab (zs:=[b,c]) u2 uq cq c2 t2
   simp only [List.cons.injEq,and_true,List.map_cons,List.map_nil] at e0 e1 e2
   obtain ⟨e2,e3⟩:=e2
   subst e0 e1 e2 e3
   rw [x0] at h0
   rw [x1] at h1
   simp only [DataW.lit.injEq,Lit.string.injEq,Lit.int.injEq,true_and] at h0 h1
   subst h1
   rw [h0]
theorem cut20 {α:Type} (l:List α) (h:l.length=20):l=(l.drop 0).take 4++((l.drop 4).take 4++((l.drop 8).take 4++((l.drop 12).take 4++(l.drop 16).take 4))):=by
 have k:∀ n,l.drop n=(l.drop n).take 4++l.drop (n+4):=fun n=>by
  have:=(List.take_append_drop 4 (l.drop n)).symm
  rw [List.drop_drop] at this
  exact this
 conv=>lhs;rw [← List.drop_zero (l:=l),k 0,k 4,k 8,k 12,k 16,List.drop_eq_nil_of_le (show l.length≤16+4 by omega),List.append_nil]
theorem kinds_cells {H:Type} {enc:TypeId×Value→H} {P:Program} {w:World} {base:Nat} {sp:Nat→Bool} {held:Bool} {fuel:Nat} {t e q:TypeId} {f0 f1 f2:Field} {cs:List Value} {p:List MemPlace}
  (ht:P.underlying t=some (.array 5 e)) (ct:P.cellsOf t=20)
  (he:P.underlying e=some (.struct #[f0,f1,f2])) (ce:P.cellsOf e=4) (o0:f0.offset=0) (o1:f1.offset=1) (o2:f2.offset=2) (c0:P.cellsOf f0.type=1) (c1:P.cellsOf f1.type=1) (c2:P.cellsOf f2.type=2)
  (u0:P.underlying f0.type=some .string) (u1:P.underlying f1.type=some (.int .i64)) (u2:P.underlying f2.type=some (.array 2 q)) (uq:P.underlying q=some (.int .i64)) (cq:P.cellsOf q=1)
  (h:DataW.trod enc P w base sp held fuel t cs=some (Rows.laid_carousel_model_kinds,p)):cs=kArr.toList:=by
 cases fuel with
 | zero=>simp [DataW.trod] at h
 | succ fuel=>
  simp only [DataW.trod,ht,ce,ct] at h
  split at h
  ·rename_i hl
   obtain ⟨xs,hm,hx⟩:=Option.map_eq_some_iff.1 h
   have hxs:=(Prod.mk.inj hx).1
   unfold Rows.laid_carousel_model_kinds at hxs
   simp only [DataW.agg.injEq] at hxs
   have hxl:xs.length=5:=by simpa using Lib.mapM_length hm
   have g:=fun i (hi:i < 5)=>Lib.mapM_at hm i i (by simp [hi])
   obtain ⟨b0,hb0,g0⟩:=g 0 (by omega)
   obtain ⟨b1,hb1,g1⟩:=g 1 (by omega)
   obtain ⟨b2,hb2,g2⟩:=g 2 (by omega)
   obtain ⟨b3,hb3,g3⟩:=g 3 (by omega)
   obtain ⟨b4,hb4,g4⟩:=g 4 (by omega)
   match xs,hxl with
   | [(d0,q0),(d1,q1),(d2,q2),(d3,q3),(d4,q4)],_=>
    simp only [List.map_cons,List.map_nil,List.cons.injEq,and_true] at hxs
    obtain ⟨rfl,rfl,rfl,rfl,rfl⟩:=hxs
    simp at hb0 hb1 hb2 hb3 hb4
    subst hb0 hb1 hb2 hb3 hb4
    have r0:=kind_cells he ce o0 o1 o2 c0 c1 c2 u0 u1 u2 uq cq g0
    have r1:=kind_cells he ce o0 o1 o2 c0 c1 c2 u0 u1 u2 uq cq g1
    have r2:=kind_cells he ce o0 o1 o2 c0 c1 c2 u0 u1 u2 uq cq g2
    have r3:=kind_cells he ce o0 o1 o2 c0 c1 c2 u0 u1 u2 uq cq g3
    have r4:=kind_cells he ce o0 o1 o2 c0 c1 c2 u0 u1 u2 uq cq g4
    rw [cut20 cs (by omega)]
    rw [show (List.drop 0 cs).take 4=_ from r0,show (List.drop 4 cs).take 4=_ from r1,show (List.drop 8 cs).take 4=_ from r2,show (List.drop 12 cs).take 4=_ from r3,show (List.drop 16 cs).take 4=_ from r4]
    rfl
  ·cases h
theorem kz_var {W : World} (h : W.var? Tryz.prog "carousel/model.kinds" = some kArr) : Kz W := by
 have hc:=World.var?_cell (g:=0) (by kernel_rfl) h
 intro i hi
 have e:∀ j,j < 20→kArr[j]?=kArr.toList[j]?:=fun j _=>by simp
 rcases (show i=0∨i=1∨i=2∨i=3∨i=4 by omega) with rfl|rfl|rfl|rfl|rfl
 ·exact ⟨(hc 0).trans rfl,(hc 1).trans rfl,(hc 2).trans rfl,(hc 3).trans rfl⟩
 ·exact ⟨(hc 4).trans rfl,(hc 5).trans rfl,(hc 6).trans rfl,(hc 7).trans rfl⟩
 ·exact ⟨(hc 8).trans rfl,(hc 9).trans rfl,(hc 10).trans rfl,(hc 11).trans rfl⟩
 ·exact ⟨(hc 12).trans rfl,(hc 13).trans rfl,(hc 14).trans rfl,(hc 15).trans rfl⟩
 ·exact ⟨(hc 16).trans rfl,(hc 17).trans rfl,(hc 18).trans rfl,(hc 19).trans rfl⟩
end Go.Proofs.YtiampagapgjedaaGreatDoor.Wd
