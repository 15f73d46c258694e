/- Tensors: what tens.Fold hands back. -/
import Derived.Test.YtjlofobnmjompaaGreatDoorP03
set_option linter.unusedVariables false
set_option linter.unusedSimpArgs false
set_option maxHeartbeats 16000000
set_option maxRecDepth 16000
namespace Go.Proofs.YtjlofobnmjompaaGreatDoor.Wd
open Go.RowKit
abbrev h_2 (d x d':List Int):Prop:=(isP d x/\goodN (ntl d'))/\b_x d' d=0/\b_S d' d=d
def c_0 (d x d':List Int):Int:=if isP d x/\goodN (ntl d') then if b_x d' d=0/\b_S d' d=d then 0 else 4 else 1
def h_3 (d x d':List Int):List Int:=if h_2 d x d' then d' else []
def h_4 (d x d':List Int):List Int:=if h_2 d x d' then c_5 (fun a b=>Fx.hold (a+b)) (b_R (ntl d') (ntl d)) (fun i=>x.getD i 0) (a_e (ntl d')) x.length else []
/-- The one is spread to the other. -/
structure Under (d x d':List Int) (a b:List Nat):Prop where
 da:d=itl a
 db:d'=itl b
 ga:goodN a
 gb:goodN b
 lx:x.length=a_e a
 fb:b_X b a
 jb:joinN b a=a
theorem q_v {d x d':List Int} (h:h_2 d x d'):∃ a b,Under d x d' a b:=by
 obtain ⟨⟨⟨O,H⟩,U⟩,M,R⟩:=h;obtain ⟨a,I,rfl⟩:=b_m O;obtain ⟨b,E,rfl⟩:=b_m U;obtain ⟨_,_,D,L⟩:=f_9 M;rw [a_p,a_p] at D L;rw [a_p] at H;have J:=(b_u E I D L).1;rw [R] at J;exact ⟨a,b,rfl,rfl,I,E,H,D,(p_C J).symm⟩
theorem Under.V {d x d':List Int} {a b:List Nat} (h:Under d x d' a b) (D:h_2 d x d'):c_0 d x d'=0/\h_3 d x d'=itl b/\h_4 d x d'=c_5 (fun a b=>Fx.hold (a+b)) (b_R b a) (fun i=>x.getD i 0) (a_e b) (a_e a):=by
 unfold c_0 h_3 h_4;rw [if_pos D.1,if_pos D.2,if_pos D,if_pos D];refine ⟨rfl,h.db,?_⟩;rw [h.lx,h.da,h.db,a_p,a_p]
theorem j_Z {f:Nat->Nat} {v:Nat->Int} {S:Nat} (k:Nat):∀ y,y∈c_5 (fun a b=>Fx.hold (a+b)) f v S k->Fx.InR y:=by
 induction k with
 | zero=>
  intro y D;have:=List.eq_of_mem_replicate D;subst this;unfold Fx.InR;omega
 | succ k ih=>
  intro y D;rw [c_5] at D;rcases List.mem_or_eq_of_mem_set D with h|h
  ·exact ih y h
  ·rw [h];exact Fx.hold_rng _
end Go.Proofs.YtjlofobnmjompaaGreatDoor.Wd
