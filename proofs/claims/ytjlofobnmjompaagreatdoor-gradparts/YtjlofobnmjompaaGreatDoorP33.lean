/- The reference's Shapes, reckoned: what i -/
import Derived.Test.YtjlofobnmjompaaGreatDoorP22
set_option linter.unusedVariables false
set_option linter.unusedSimpArgs false
set_option maxHeartbeats 16000000
set_option maxRecDepth 16000
namespace Go.Proofs.YtjlofobnmjompaaGreatDoor.Wd
/-- Is a layer's parameter greater than may be (the reference asks of the first alone)? -/
def rP (l:Ly) (d:List Int):Bool:=if a_s l.1=0 then decide (4096 < l.2.1*a_t d) else if a_s l.1=1 then decide (4096 < l.2.1*d.getD 0 0*l.2.2) else false
theorem s_m {l:Ly} {d:List Int} (h:a_S l):r_4 l d=rP l d:=by
 unfold r_4 c_t rP;rcases a_K h with ⟨_,k,E,D⟩|⟨_,k,E,D⟩|⟨_,k,E,D⟩|⟨_,k,E,D⟩|⟨_,k,E,D⟩ <;> rw [k]
 ·simp only [if_true,List.any_cons,List.any_nil,c_D,c_C];rw [decide_eq_false (show ¬ 4096 < l.2.1 by omega)];simp
 ·simp [c_V]
 ·simp
 ·simp
 ·simp
/-- Great already? how many parameters so far (held at one too many)? -/
def rG (ls:List Ly) (S:List (List Int)):Nat->Bool×Int
 | 0=>(decide (16 < ls.length),0)
 | i+1=>if 4096 < (rG ls S i).2+psz (lyA ls i) (shA S i) then (true,4097) else ((rG ls S i).1 || rP (lyA ls i) (shA S i) || decide (4096 < a_t (shA S (i+1))),(rG ls S i).2+psz (lyA ls i) (shA S i))
theorem p_t {ls:List Ly} {S:List (List Int)}:∀ {i:Nat},(∀ k,k < i->InOk (shA S k))->(∀ k,k < i->a_S (lyA ls k))->0<=(rG ls S i).2/\(rG ls S i).2<=4097
 | 0,_,_=>by simp [rG]
 | i+1,h,h2=>by
  have H:=p_t (fun k D=>h k (by omega)) (fun k D=>h2 k (by omega)) (i:=i);have E:=e_D (h i (by omega)) (h2 i (by omega));simp only [rG]
  split
  ·simp
  ·simp only [];omega
/-- What was summed up, in plain words. -/
theorem s_n {ls:List Ly} {S:List (List Int)}:∀ {i:Nat},(∀ k,k < i->InOk (shA S k))->(∀ k,k < i->a_S (lyA ls k))->
  ((rG ls S i).1=true↔16 < ls.length∨l_a ls S i=true∨(∃ k,k < i/\4096 < a_t (shA S (k+1)))∨4096 < b_5 ls S i)/\((rG ls S i).1=true∨(rG ls S i).2=b_5 ls S i)/\(4096 < b_5 ls S i->(rG ls S i).2=4097)/\(¬ 4096 < b_5 ls S i->(rG ls S i).2=b_5 ls S i)
 | 0,_,_=>by simp [rG,l_a,b_5]
 | i+1,h,h2=>by
  obtain ⟨L,R,M,O⟩:=s_n (fun k I=>h k (by omega)) (fun k I=>h2 k (by omega)) (i:=i) (ls:=ls) (S:=S);have U:=e_D (h i (by omega)) (h2 i (by omega));have hb:=s_m (l:=lyA ls i) (d:=shA S i) (h2 i (by omega));simp only [rG,b_5,l_a,hb];by_cases J:4096 < b_5 ls S i
  ·have e:=M J;rw [e,if_pos (by omega)];refine ⟨⟨fun _=>.inr (.inr (.inr (by omega))),fun _=>rfl⟩,.inl rfl,fun _=>rfl,fun D=>absurd (show 4096 < b_5 ls S i+psz (lyA ls i) (shA S i) by omega) D⟩
  ·have e:=O J;rw [e];by_cases E:4096 < b_5 ls S i+psz (lyA ls i) (shA S i)
   ·rw [if_pos E];exact ⟨⟨fun _=>.inr (.inr (.inr E)),fun _=>rfl⟩,.inl rfl,fun _=>rfl,fun D=>absurd E D⟩
   ·rw [if_neg E];refine ⟨?_,.inr rfl,fun D=>absurd D E,fun _=>rfl⟩;simp only [Bool.or_eq_true,decide_eq_true_eq];rw [L];constructor
    ·rintro ((( D|D|⟨k,I,D⟩|D)|D)|D)
     ·exact .inl D
     ·exact .inr (.inl (.inl D))
     ·exact .inr (.inr (.inl ⟨k,by omega,D⟩))
     ·exact absurd D J
     ·exact .inr (.inl (.inr D))
     ·exact .inr (.inr (.inl ⟨i,by omega,D⟩))
    ·rintro (D|(D|D)|⟨k,I,D⟩|D)
     ·exact .inl (.inl (.inl D))
     ·exact .inl (.inl (.inr (.inl D)))
     ·exact .inl (.inr D)
     ·rcases Nat.lt_or_ge k i with H|H
      ·exact .inl (.inl (.inr (.inr (.inl ⟨k,H,D⟩))))
      ·obtain rfl:k=i:=by omega
       exact .inr D
     ·exact absurd D E
theorem s_o {d:List Int} {ls:List Ly} {S:List (List Int)} (hf:b_L d ls=true) (L:shN d ls ls.length=some S):
  ((rG ls S ls.length).1 || decide (4096 < a_t d))=e_N ls S/\(e_N ls S=false->(rG ls S ls.length).2=b_5 ls S ls.length):=by
 obtain ⟨hd,R⟩:=(c_f d ls).1 hf;have hS:=e_l hd R (Nat.le_refl _) L;have M:=c_U L
 have O:shA S 0=d:=by
  have:∀ (i:Nat) (T:List (List Int)),shN d ls i=some T->shA T 0=d:=by
   intro i
   induction i with
   | zero=>intro T h;cases h;rfl
   | succ i ih=>
    intro T h;cases E:shN d ls i with
    | none=>rw [b_o E (Nat.le_succ i)] at h;cases h
    | some T0=>
     rw [a_G E] at h;obtain ⟨o,rfl,-⟩:=e_k h;rw [d_U _ (by have:=c_U E;omega)];exact ih T0 E
  exact this _ _ L
 obtain ⟨a1,a2,a3,a4⟩:=s_n (ls:=ls) (S:=S) (i:=ls.length) (fun k I=>hS k (by omega)) (fun k I=>R _ (d_T I))
 have hB:i_i S=true↔(∃ k,k < ls.length/\4096 < a_t (shA S (k+1)))∨4096 < a_t d:=by
  unfold i_i;rw [List.any_eq_true];constructor
  ·rintro ⟨s,J,D⟩;obtain ⟨i,E,rfl⟩:=List.getElem_of_mem J;have e:shA S i=S[i]:=by unfold shA;rw [List.getD_eq_getElem?_getD,List.getElem?_eq_getElem E];rfl
   rw [<- e,decide_eq_true_eq] at D;cases i with
   | zero=>rw [O] at D;exact .inr D
   | succ i=>exact .inl ⟨i,by omega,D⟩
  ·have H:∀ i,i < S.length->4096 < a_t (shA S i)->∃ x,x∈S/\decide (4096 < a_t x)=true:=fun i E D=>by
    have e:shA S i=S[i]:=by unfold shA;rw [List.getD_eq_getElem?_getD,List.getElem?_eq_getElem E];rfl
    exact ⟨S[i],List.getElem_mem _,by rw [<- e,decide_eq_true_eq];exact D⟩
   rintro (⟨k,I,D⟩|D)
   ·exact H (k+1) (by omega) D
   ·exact H 0 (by omega) (by rw [O];exact D)
 have V:e_N ls S=true↔((rG ls S ls.length).1 || decide (4096 < a_t d))=true:=by
  unfold e_N;simp only [Bool.or_eq_true,decide_eq_true_eq];rw [hB,a1];constructor
  ·rintro (((D|(D|D))|D)|D)
   ·exact .inl (.inl D)
   ·exact .inl (.inr (.inr (.inl D)))
   ·exact .inr D
   ·exact .inl (.inr (.inl D))
   ·exact .inl (.inr (.inr (.inr D)))
  ·rintro ((D|D|D|D)|D)
   ·exact .inl (.inl (.inl D))
   ·exact .inl (.inr D)
   ·exact .inl (.inl (.inr (.inl D)))
   ·exact .inr D
   ·exact .inl (.inl (.inr (.inr D)))
 refine ⟨Bool.eq_iff_iff.2 V.symm,fun D=>a4 fun U=>?_⟩;have:e_N ls S=true:=by unfold e_N;simp [U]
 rw [D] at this;cases this
end Go.Proofs.YtjlofobnmjompaaGreatDoor.Wd
