/- Tensors of one shape: a fold to it, a sum with noughts, a product with ones leave them as they are. -/
import Derived.Test.YtaiigfhicaelkaaGreatDoorV14
set_option linter.unusedVariables false
set_option linter.unusedSimpArgs false
set_option maxHeartbeats 16000000
set_option maxRecDepth 16000
namespace Go.Proofs.YtaiigfhicaelkaaGreatDoor.Wd
open Go.RowKit Fx
theorem range_get (l:List Int):(List.range l.length).map (fun i=>l.getD i 0)=l:=by
 refine List.ext_getElem (by simp) fun i h1 h2=>?_
 simp [List.getD_eq_getElem?_getD,h2]
/-- Number by number, where both are of one shape. -/
theorem each_same {op:Int→Int→Int} {d x y:List Int} (hx:isP d x) (hy:isP d y):eachE d x d y=0∧eachD d x d y=d∧eachV op d x d y=(List.range x.length).map fun i=>op (x.getD i 0) (y.getD i 0):=by
 obtain ⟨a,ga,rfl⟩:=good_itl hx.1
 obtain ⟨f,j⟩:=join_same a
 obtain ⟨p1,p2⟩:=join_fine ga ga f (by rw [j];exact ga)
 rw [j] at p1
 have hl:x.length=prodN a:=by have:=hx.2;rwa [ntl_itl] at this
 refine ⟨(if_pos ⟨hx,hy⟩).trans p2,(if_pos ⟨hx,hy⟩).trans p1,(if_pos ⟨⟨hx,hy⟩,p2⟩).trans ?_⟩
 rw [p1,ntl_itl,hl]
 refine List.map_congr_left fun i hi=>?_
 have hi':=List.mem_range.1 hi
 rw [from_same ga i hi']
theorem hold_inR {y:Int} (h:InR y):Fx.hold y=y:=Fx.hold_in h.1 h.2
theorem repl_at {n i:Nat} {v:Int} (h:i < n):(List.replicate n v).getD i 0=v:=by
 rw [List.getD_eq_getElem?_getD,List.getElem?_replicate,if_pos h]
 rfl
theorem add_nought {d x:List Int} (h:TnsG d x):add2 (d,List.replicate x.length 0) (d,x)=(d,x):=by
 have hz:isP d (List.replicate x.length 0):=⟨h.1.1,by rw [List.length_replicate];exact h.1.2⟩
 obtain ⟨_,e2,e3⟩:=each_same (op:=fun a b=>Fx.hold (a+b)) hz h.1
 refine Prod.ext e2 (e3.trans ?_)
 rw [List.length_replicate]
 refine Eq.trans (List.map_congr_left fun i hi=>?_) (range_get x)
 have hi':=List.mem_range.1 hi
 rw [repl_at hi',Int.zero_add]
 exact hold_inR (InR_get h.2.2 i)
theorem mul_alone {d x:List Int} (h:TnsG d x):mul2 (d,List.replicate x.length 4294967296) (d,x)=(d,x):=by
 have hz:isP d (List.replicate x.length 4294967296):=⟨h.1.1,by rw [List.length_replicate];exact h.1.2⟩
 obtain ⟨_,e2,e3⟩:=each_same (op:=Fx.mulI) hz h.1
 refine Prod.ext e2 (e3.trans ?_)
 rw [List.length_replicate]
 refine Eq.trans (List.map_congr_left fun i hi=>?_) (range_get x)
 have hi':=List.mem_range.1 hi
 rw [repl_at hi',mulI_comm]
 exact mulI_one _ (InR_get h.2.2 i)
theorem fold_own {t:Ten} (h:TenG t):fold2 t t.1=t:=by
 obtain ⟨d,x⟩:=t
 obtain ⟨a,ga,rfl⟩:=good_itl h.1.1
 obtain ⟨f,j⟩:=join_same a
 obtain ⟨p1,p2⟩:=join_fine ga ga f (by rw [j];exact ga)
 rw [j] at p1
 have hf:foldP (itl a) x (itl a):=⟨⟨h.1,h.1.1⟩,p2,p1⟩
 have hl:x.length=prodN a:=by have:=h.1.2;rwa [ntl_itl] at this
 refine Prod.ext (if_pos hf) ((if_pos hf).trans ?_)
 rw [ntl_itl,hl]
 have hc:∀ k,k≤prodN a→foldK (fun a b=>Fx.hold (a+b)) (fromN a a) (fun i=>x.getD i 0) (prodN a) k=foldK (fun a b=>Fx.hold (a+b)) (fun i=>i) (fun i=>x.getD i 0) (prodN a) k:=by
  intro k
  induction k with
  | zero=>intro _;rfl
  | succ k ih=>
   intro hk
   rw [foldK,foldK,ih (by omega),from_same ga k (by omega)]
 rw [hc _ (Nat.le_refl _),foldK_id _ _ _ (fun k hk=>by simp only [Int.zero_add];exact hold_inR (InR_get h.2.2 k)) _ (Nat.le_refl _)]
 refine Eq.trans (List.map_congr_left fun i hi=>?_) ((congrArg (fun n=>(List.range n).map fun i=>x.getD i 0) hl.symm).trans (range_get x))
 rw [if_pos (List.mem_range.1 hi)]
end Go.Proofs.YtaiigfhicaelkaaGreatDoor.Wd
