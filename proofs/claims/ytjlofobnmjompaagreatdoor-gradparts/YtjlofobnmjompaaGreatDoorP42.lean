/- GradParts' walk. · The listed tables, as -/
import Derived.Test.YtjlofobnmjompaaGreatDoorP41
import Derived.Test.YtjlofobnmjompaaGreatDoorRows
import Derived.Lib.LaidTab
set_option linter.unusedVariables false
set_option linter.unusedSimpArgs false
set_option maxHeartbeats 16000000
set_option maxRecDepth 16000
namespace Go.Proofs.YtjlofobnmjompaaGreatDoor.Wd
open Go.RowKit Fx
theorem gparts_walk (w:World) (hT:Hid (Tz w)) (hK:Hid (Kz w)) (z:Nat->Int) (n c:Nat) (p:Option Addr) (ls:List Ly) (R H:Nat) (J:Option Addr) (k:Int) (U:Nat->Int) (M O:Nat) (E:Option Addr) (l:List Exm) (I cl:Nat) (L:Option Addr) (D:Int) (h1:RowN .i64 w p n c z) (h2:LayN w J R H ls) (hk:-9223372036854775808<=k/\k<=9223372036854775807) (h3:RowN .i64 w E M O U) (V:ExsN w L I cl l) (hc:-9223372036854775808<=D/\D<=9223372036854775807):
  Calls Tryz.prog 4 #[.agg #[.slice p n c,.slice J R H],.int .i64 k,.slice E M O,.slice L I cl,.int .i64 D] w fun e w'=>e = .returned (.bool true)/\Below w.heap.size w w':=n_r (fun _ _ _=>s_w (q_9 _ _ _)) (t_x (o_W _)) s_v w hT hK z n c p ls R H J k U M O E l I cl L D h1 h2 h3 V
end Go.Proofs.YtjlofobnmjompaaGreatDoor.Wd
namespace Go.Proofs.YtjlofobnmjompaaGreatDoor.Wd
open Go.RowKit
theorem c_F {H:Type} {enc:TypeId×Value->H} {P:Program} {w:World} {L:Nat} {sp:Nat->Bool} {E:Bool} {fuel:Nat} {e q:TypeId} {M J I:Field} {U:List Value} {bs:List UInt8} {a b c:Int} {p:List MemPlace}
  (he:P.underlying e=some (.struct #[M,J,I])) (ce:P.cellsOf e=4) (o0:M.offset=0) (o1:J.offset=1) (o2:I.offset=2) (c0:P.cellsOf M.type=1) (c1:P.cellsOf J.type=1) (c2:P.cellsOf I.type=2)
  (u0:P.underlying M.type=some .string) (u1:P.underlying J.type=some (.int .i64)) (u2:P.underlying I.type=some (.array 2 q)) (uq:P.underlying q=some (.int .i64)) (cq:P.cellsOf q=1)
  (h:DataW.trod enc P w L sp E fuel e U=some (.agg [.lit (.string bs),.lit (.int .i64 a),.agg [.lit (.int .i64 b),.lit (.int .i64 c)]],p)):U = [.string ⟨bs.toArray⟩,.int .i64 a,.int .i64 b,.int .i64 c]:=by
 obtain ⟨ys,n,_,hx,hl,aa,hf⟩:=DataW.trod_struct he h;rw [ce] at hl;have D:=(Prod.mk.inj hx).1;simp only [DataW.agg.injEq] at D
 match ys,aa with
 | [y0,y1,y2],_=>
  simp only [List.map_cons,List.map_nil,List.cons.injEq,and_true] at D;obtain ⟨V,R,h2⟩:=D;have t0:=hf 0 M rfl;have t1:=hf 1 J rfl;have t2:=hf 2 I rfl
  match U,hl with
  | [v0,v1,v2,v3],_=>
   simp [o0,c0] at t0;simp [o1,c1] at t1;simp [o2,c2] at t2;obtain ⟨z0,e0,x0,_⟩:=DataW.trod_string u0 t0;obtain ⟨z1,e1,x1,_⟩:=DataW.trod_int u1 t1;obtain ⟨ac,ab⟩:=y2;simp only [] at h2;subst h2;have O:=Lib.cells_of_tab (zs:=[b,c]) u2 uq cq c2 t2;simp only [List.cons.injEq,and_true,List.map_cons,List.map_nil] at e0 e1 O;obtain ⟨O,e3⟩:=O;subst e0 e1 O e3;rw [x0] at V;rw [x1] at R;simp only [DataW.lit.injEq,Lit.string.injEq,Lit.int.injEq,true_and] at V R;subst R;rw [V]
theorem t_p {α:Type} (l:List α) (h:l.length=20):l=(l.drop 0).take 4++((l.drop 4).take 4++((l.drop 8).take 4++((l.drop 12).take 4++(l.drop 16).take 4))):=by
 have k:∀ n,l.drop n=(l.drop n).take 4++l.drop (n+4):=fun n=>by
  have:=(List.take_append_drop 4 (l.drop n)).symm;rw [List.drop_drop] at this;exact this
 conv=>lhs;rw [<- List.drop_zero (l:=l),k 0,k 4,k 8,k 12,k 16,List.drop_eq_nil_of_le (show l.length<=16+4 by omega),List.append_nil]
theorem kinds_cells {H:Type} {enc:TypeId×Value->H} {P:Program} {w:World} {ac:Nat} {sp:Nat->Bool} {V:Bool} {fuel:Nat} {t e q:TypeId} {f0 f1 f2:Field} {E:List Value} {p:List MemPlace}
  (ht:P.underlying t=some (.array 5 e)) (ct:P.cellsOf t=20)
  (he:P.underlying e=some (.struct #[f0,f1,f2])) (I:P.cellsOf e=4) (o0:f0.offset=0) (J:f1.offset=1) (R:f2.offset=2) (c0:P.cellsOf f0.type=1) (O:P.cellsOf f1.type=1) (M:P.cellsOf f2.type=2)
  (u0:P.underlying f0.type=some .string) (u1:P.underlying f1.type=some (.int .i64)) (u2:P.underlying f2.type=some (.array 2 q)) (uq:P.underlying q=some (.int .i64)) (cq:P.cellsOf q=1)
  (h:DataW.trod enc P w ac sp V fuel t E=some (Rows.laid_carousel_model_kinds,p)):E=kArr.toList:=by
 cases fuel with
 | zero=>simp [DataW.trod] at h
 | succ fuel=>
  simp only [DataW.trod,ht,I,ct] at h
  split at h
  ·rename_i hl
   obtain ⟨xs,hm,hx⟩:=Option.map_eq_some_iff.1 h;have D:=(Prod.mk.inj hx).1;unfold Rows.laid_carousel_model_kinds at D;simp only [DataW.agg.injEq] at D;have ae:xs.length=5:=by simpa using Lib.mapM_length hm
   have g:=fun i (hi:i < 5)=>Lib.mapM_at hm i i (by simp [hi]);obtain ⟨b0,U,g0⟩:=g 0 (by omega);obtain ⟨b1,ab,g1⟩:=g 1 (by omega);obtain ⟨b2,aa,g2⟩:=g 2 (by omega);obtain ⟨b3,L,g3⟩:=g 3 (by omega);obtain ⟨b4,ad,g4⟩:=g 4 (by omega)
   match xs,ae with
   | [(d0,q0),(d1,q1),(d2,q2),(d3,q3),(d4,q4)],_=>
    simp only [List.map_cons,List.map_nil,List.cons.injEq,and_true] at D;obtain ⟨rfl,rfl,rfl,rfl,rfl⟩:=D;simp at U ab aa L ad;subst U ab aa L ad;have r0:=c_F he I o0 J R c0 O M u0 u1 u2 uq cq g0;have r1:=c_F he I o0 J R c0 O M u0 u1 u2 uq cq g1;have r2:=c_F he I o0 J R c0 O M u0 u1 u2 uq cq g2;have r3:=c_F he I o0 J R c0 O M u0 u1 u2 uq cq g3;have r4:=c_F he I o0 J R c0 O M u0 u1 u2 uq cq g4;rw [t_p E (by omega)];rw [show (List.drop 0 E).take 4=_ from r0,show (List.drop 4 E).take 4=_ from r1,show (List.drop 8 E).take 4=_ from r2,show (List.drop 12 E).take 4=_ from r3,show (List.drop 16 E).take 4=_ from r4];rfl
  ·cases h
theorem kz_var {W : World} (h : W.var? Tryz.prog "carousel/model.kinds" = some kArr) : Kz W := by
 have D:=World.var?_cell (g:=0) (by kernel_rfl) h;intro i E;have e:∀ j,j < 20->kArr[j]?=kArr.toList[j]?:=fun j _=>by simp
 rcases (show i=0∨i=1∨i=2∨i=3∨i=4 by omega) with rfl|rfl|rfl|rfl|rfl
 ·exact ⟨(D 0).trans rfl,(D 1).trans rfl,(D 2).trans rfl,(D 3).trans rfl⟩
 ·exact ⟨(D 4).trans rfl,(D 5).trans rfl,(D 6).trans rfl,(D 7).trans rfl⟩
 ·exact ⟨(D 8).trans rfl,(D 9).trans rfl,(D 10).trans rfl,(D 11).trans rfl⟩
 ·exact ⟨(D 12).trans rfl,(D 13).trans rfl,(D 14).trans rfl,(D 15).trans rfl⟩
 ·exact ⟨(D 16).trans rfl,(D 17).trans rfl,(D 18).trans rfl,(D 19).trans rfl⟩
end Go.Proofs.YtjlofobnmjompaaGreatDoor.Wd
