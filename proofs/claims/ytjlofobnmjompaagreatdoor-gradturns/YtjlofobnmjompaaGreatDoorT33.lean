/- The reference's Shapes, reckoned: what it sums up on its way, and what that comes to. -/
import Derived.Test.YtjlofobnmjompaaGreatDoorT22
set_option linter.unusedVariables false
set_option linter.unusedSimpArgs false
set_option maxHeartbeats 16000000
set_option maxRecDepth 16000
namespace Go.Proofs.YtjlofobnmjompaaGreatDoor.Wd
/-- Is a layer's parameter greater than may be (the reference asks of the first alone)? -/
def rP (l:Ly) (d:List Int):Bool:=if a_s l.1=0 then decide (4096 < l.2.1*a_t d) else if a_s l.1=1 then decide (4096 < l.2.1*d.getD 0 0*l.2.2) else false
theorem s_o {l:Ly} {d:List Int} (h:a_R l):r_5 l d=rP l d:=by
 unfold r_5 c_t rP;rcases a_K h with ⟨_,k,D,H⟩|⟨_,k,D,H⟩|⟨_,k,D,H⟩|⟨_,k,D,H⟩|⟨_,k,D,H⟩ <;> rw [k]
 ·simp only [if_true,List.any_cons,List.any_nil,c_E,c_D];rw [decide_eq_false (show ¬ 4096 < l.2.1 by omega)];simp
 ·simp [c_V]
 ·simp
 ·simp
 ·simp
/-- Great already? how many parameters so far (held at one too many)? -/
def rG (ls:List Ly) (S:List (List Int)):Nat->Bool×Int
 | 0=>(decide (16 < ls.length),0)
 | i+1=>if 4096 < (rG ls S i).2+psz (lyA ls i) (shA S i) then (true,4097) else ((rG ls S i).1 || rP (lyA ls i) (shA S i) || decide (4096 < a_t (shA S (i+1))),(rG ls S i).2+psz (lyA ls i) (shA S i))
theorem p_r {ls:List Ly} {S:List (List Int)}:∀ {i:Nat},(∀ k,k < i->InOk (shA S k))->(∀ k,k < i->a_R (lyA ls k))->0<=(rG ls S i).2/\(rG ls S i).2<=4097
 | 0,_,_=>by simp [rG]
 | i+1,h,h2=>by
  have H:=p_r (fun k D=>h k (by omega)) (fun k D=>h2 k (by omega)) (i:=i);have I:=e_D (h i (by omega)) (h2 i (by omega));simp only [rG]
  split
  ·simp
  ·simp only [];omega
/-- What was summed up, in plain words. -/
theorem s_p {ls:List Ly} {S:List (List Int)}:∀ {i:Nat},(∀ k,k < i->InOk (shA S k))->(∀ k,k < i->a_R (lyA ls k))->
  ((rG ls S i).1=true↔16 < ls.length∨k_6 ls S i=true∨(∃ k,k < i/\4096 < a_t (shA S (k+1)))∨4096 < b_4 ls S i)/\((rG ls S i).1=true∨(rG ls S i).2=b_4 ls S i)/\(4096 < b_4 ls S i->(rG ls S i).2=4097)/\(¬ 4096 < b_4 ls S i->(rG ls S i).2=b_4 ls S i)
 | 0,_,_=>by simp [rG,k_6,b_4]
 | i+1,h,h2=>by
  obtain ⟨O,U,R,M⟩:=s_p (fun k L=>h k (by omega)) (fun k L=>h2 k (by omega)) (i:=i) (ls:=ls) (S:=S);have V:=e_D (h i (by omega)) (h2 i (by omega));have hb:=s_o (l:=lyA ls i) (d:=shA S i) (h2 i (by omega));simp only [rG,b_4,k_6,hb];by_cases J:4096 < b_4 ls S i
  ·have e:=R J;rw [e,if_pos (by omega)];refine ⟨⟨fun _=>.inr (.inr (.inr (by omega))),fun _=>rfl⟩,.inl rfl,fun _=>rfl,fun D=>absurd (show 4096 < b_4 ls S i+psz (lyA ls i) (shA S i) by omega) D⟩
  ·have e:=M J;rw [e];by_cases H:4096 < b_4 ls S i+psz (lyA ls i) (shA S i)
   ·rw [if_pos H];exact ⟨⟨fun _=>.inr (.inr (.inr H)),fun _=>rfl⟩,.inl rfl,fun _=>rfl,fun D=>absurd H D⟩
   ·rw [if_neg H];refine ⟨?_,.inr rfl,fun D=>absurd D H,fun _=>rfl⟩;simp only [Bool.or_eq_true,decide_eq_true_eq];rw [O];constructor
    ·rintro ((( D|D|⟨k,L,D⟩|D)|D)|D)
     ·exact .inl D
     ·exact .inr (.inl (.inl D))
     ·exact .inr (.inr (.inl ⟨k,by omega,D⟩))
     ·exact absurd D J
     ·exact .inr (.inl (.inr D))
     ·exact .inr (.inr (.inl ⟨i,by omega,D⟩))
    ·rintro (D|(D|D)|⟨k,L,D⟩|D)
     ·exact .inl (.inl (.inl D))
     ·exact .inl (.inl (.inr (.inl D)))
     ·exact .inl (.inr D)
     ·rcases Nat.lt_or_ge k i with I|I
      ·exact .inl (.inl (.inr (.inr (.inl ⟨k,I,D⟩))))
      ·obtain rfl:k=i:=by omega
       exact .inr D
     ·exact absurd D H
theorem s_q {d:List Int} {ls:List Ly} {S:List (List Int)} (hf:b_M d ls=true) (M:shN d ls ls.length=some S):
  ((rG ls S ls.length).1 || decide (4096 < a_t d))=e_O ls S/\(e_O ls S=false->(rG ls S ls.length).2=b_4 ls S ls.length):=by
 obtain ⟨hd,R⟩:=(c_f d ls).1 hf;have hS:=e_l hd R (Nat.le_refl _) M;have U:=c_U M
 have O:shA S 0=d:=by
  have:∀ (i:Nat) (T:List (List Int)),shN d ls i=some T->shA T 0=d:=by
   intro i
   induction i with
   | zero=>intro T h;cases h;rfl
   | succ i ih=>
    intro T h;cases H:shN d ls i with
    | none=>rw [b_m H (Nat.le_succ i)] at h;cases h
    | some T0=>
     rw [a_G H] at h;obtain ⟨o,rfl,-⟩:=e_k h;rw [d_R _ (by have:=c_U H;omega)];exact ih T0 H
  exact this _ _ M
 obtain ⟨a1,a2,a3,a4⟩:=s_p (ls:=ls) (S:=S) (i:=ls.length) (fun k L=>hS k (by omega)) (fun k L=>R _ (d_Q L))
 have V:i_g S=true↔(∃ k,k < ls.length/\4096 < a_t (shA S (k+1)))∨4096 < a_t d:=by
  unfold i_g;rw [List.any_eq_true];constructor
  ·rintro ⟨s,J,D⟩;obtain ⟨i,H,rfl⟩:=List.getElem_of_mem J;have e:shA S i=S[i]:=by unfold shA;rw [List.getD_eq_getElem?_getD,List.getElem?_eq_getElem H];rfl
   rw [<- e,decide_eq_true_eq] at D;cases i with
   | zero=>rw [O] at D;exact .inr D
   | succ i=>exact .inl ⟨i,by omega,D⟩
  ·have I:∀ i,i < S.length->4096 < a_t (shA S i)->∃ x,x∈S/\decide (4096 < a_t x)=true:=fun i H D=>by
    have e:shA S i=S[i]:=by unfold shA;rw [List.getD_eq_getElem?_getD,List.getElem?_eq_getElem H];rfl
    exact ⟨S[i],List.getElem_mem _,by rw [<- e,decide_eq_true_eq];exact D⟩
   rintro (⟨k,L,D⟩|D)
   ·exact I (k+1) (by omega) D
   ·exact I 0 (by omega) (by rw [O];exact D)
 have hT:e_O ls S=true↔((rG ls S ls.length).1 || decide (4096 < a_t d))=true:=by
  unfold e_O;simp only [Bool.or_eq_true,decide_eq_true_eq];rw [V,a1];constructor
  ·rintro (((D|(D|D))|D)|D)
   ·exact .inl (.inl D)
   ·exact .inl (.inr (.inr (.inl D)))
   ·exact .inr D
   ·exact .inl (.inr (.inl D))
   ·exact .inl (.inr (.inr (.inr D)))
  ·rintro ((D|D|D|D)|D)
   ·exact .inl (.inl (.inl D))
   ·exact .inl (.inr D)
   ·exact .inl (.inl (.inr (.inl D)))
   ·exact .inr D
   ·exact .inl (.inl (.inr (.inr D)))
 refine ⟨Bool.eq_iff_iff.2 hT.symm,fun D=>a4 fun h6=>?_⟩;have:e_O ls S=true:=by unfold e_O;simp [h6]
 rw [D] at this;cases this
end Go.Proofs.YtjlofobnmjompaaGreatDoor.Wd
