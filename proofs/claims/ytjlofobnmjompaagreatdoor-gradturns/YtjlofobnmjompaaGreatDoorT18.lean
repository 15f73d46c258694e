/- Tensors: what tens.Fold hands back. -/
import Derived.Test.YtjlofobnmjompaaGreatDoorT03
set_option linter.unusedVariables false
set_option linter.unusedSimpArgs false
set_option maxHeartbeats 16000000
set_option maxRecDepth 16000
namespace Go.Proofs.YtjlofobnmjompaaGreatDoor.Wd
open Go.RowKit
abbrev h_Z (d x d':List Int):Prop:=(isP d x/\goodN (ntl d'))/\b_w d' d=0/\b_T d' d=d
def c_1 (d x d':List Int):Int:=if isP d x/\goodN (ntl d') then if b_w d' d=0/\b_T d' d=d then 0 else 4 else 1
def h_0 (d x d':List Int):List Int:=if h_Z d x d' then d' else []
def h_1 (d x d':List Int):List Int:=if h_Z d x d' then c_6 (fun a b=>Fx.hold (a+b)) (b_S (ntl d') (ntl d)) (fun i=>x.getD i 0) (a_e (ntl d')) x.length else []
/-- The one is spread to the other. -/
structure Under (d x d':List Int) (a b:List Nat):Prop where
 da:d=itl a
 db:d'=itl b
 ga:goodN a
 gb:goodN b
 lx:x.length=a_e a
 fb:b_W b a
 jb:joinN b a=a
theorem q_t {d x d':List Int} (h:h_Z d x d'):∃ a b,Under d x d' a b:=by
 obtain ⟨⟨⟨O,J⟩,V⟩,U,R⟩:=h;obtain ⟨a,I,rfl⟩:=b_k O;obtain ⟨b,M,rfl⟩:=b_k V;obtain ⟨_,_,D,L⟩:=f_9 U;rw [a_o,a_o] at D L;rw [a_o] at J;have H:=(b_o M I D L).1;rw [R] at H;exact ⟨a,b,rfl,rfl,I,M,J,D,(p_x H).symm⟩
theorem Under.V {d x d':List Int} {a b:List Nat} (h:Under d x d' a b) (D:h_Z d x d'):c_1 d x d'=0/\h_0 d x d'=itl b/\h_1 d x d'=c_6 (fun a b=>Fx.hold (a+b)) (b_S b a) (fun i=>x.getD i 0) (a_e b) (a_e a):=by
 unfold c_1 h_0 h_1;rw [if_pos D.1,if_pos D.2,if_pos D,if_pos D];refine ⟨rfl,h.db,?_⟩;rw [h.lx,h.da,h.db,a_o,a_o]
theorem j_0 {f:Nat->Nat} {v:Nat->Int} {S:Nat} (k:Nat):∀ y,y∈c_6 (fun a b=>Fx.hold (a+b)) f v S k->Fx.InR y:=by
 induction k with
 | zero=>
  intro y D;have:=List.eq_of_mem_replicate D;subst this;unfold Fx.InR;omega
 | succ k ih=>
  intro y D;rw [c_6] at D;rcases List.mem_or_eq_of_mem_set D with h|h
  ·exact ih y h
  ·rw [h];exact Fx.hold_rng _
end Go.Proofs.YtjlofobnmjompaaGreatDoor.Wd
