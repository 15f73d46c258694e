/- ModelBack: a net's text is read back as it. · The reference's Shapes, reckoned: what it sums up on its way, and what that comes to. -/
import Derived.Test.YtiampagapgjedaaGreatDoorS23
import Derived.Test.YtiampagapgjedaaGreatDoorS30
import Derived.Test.YtiampagapgjedaaGreatDoorS00
set_option linter.unusedVariables false
set_option linter.unusedSimpArgs false
set_option maxHeartbeats 16000000
set_option maxRecDepth 16000
namespace Go.Proofs.YtiampagapgjedaaGreatDoor.Wd
open Go.RowKit Fx
/-- The document's own of a net, in new memory. -/
def NetV (u:Value) (n:Nat) (ls:List Ly) (v:Value) (W:World):Prop:=∃ p c B,v = .agg #[u,.slice p n c]∧LyE 90 W B (.slice p n c) ls
theorem NetV.up {u:Value} {n:Nat} {ls:List Ly} {v:Value} {W W':World} (h:NetV u n ls v W) (hB:Below W.heap.size W W'):NetV u n ls v W':=by
 obtain ⟨p,c,B,e,h⟩:=h
 exact ⟨p,c,B,e,h.up hB⟩
end Go.Proofs.YtiampagapgjedaaGreatDoor.Wd
namespace Go.Proofs.YtiampagapgjedaaGreatDoor.Wd
/-- Is a layer's parameter greater than may be (the reference asks of the first alone)? -/
def rP (l:Ly) (d:List Int):Bool:=if kindI l.1=0 then decide (4096 < l.2.1*prodI d) else if kindI l.1=1 then decide (4096 < l.2.1*d.getD 0 0*l.2.2) else false
theorem rP_big {l:Ly} {d:List Int} (h:LayOk l):bigP l d=rP l d:=by
 unfold bigP parD rP
 rcases layOk_cases h with ⟨_,k,h1,h2⟩|⟨_,k,h1,h2⟩|⟨_,k,h1,h2⟩|⟨_,k,h1,h2⟩|⟨_,k,h1,h2⟩ <;> rw [k]
 ·simp only [if_true,List.any_cons,List.any_nil,prodI_two,prodI_one]
  rw [decide_eq_false (show ¬ 4096 < l.2.1 by omega)]
  simp
 ·simp [prodI_three]
 ·simp
 ·simp
 ·simp
/-- Great already? how many parameters so far (held at one too many)? -/
def rG (ls:List Ly) (S:List (List Int)):Nat→Bool×Int
 | 0=>(decide (16 < ls.length),0)
 | i+1=>if 4096 < (rG ls S i).2+psz (lyA ls i) (shA S i) then (true,4097) else ((rG ls S i).1 || rP (lyA ls i) (shA S i) || decide (4096 < prodI (shA S (i+1))),(rG ls S i).2+psz (lyA ls i) (shA S i))
theorem rG_rng {ls:List Ly} {S:List (List Int)}:∀ {i:Nat},(∀ k,k < i→InOk (shA S k))→(∀ k,k < i→LayOk (lyA ls k))→0≤(rG ls S i).2∧(rG ls S i).2≤4097
 | 0,_,_=>by simp [rG]
 | i+1,h,h2=>by
  have h1:=rG_rng (fun k hk=>h k (by omega)) (fun k hk=>h2 k (by omega)) (i:=i)
  have h3:=psz_rng (h i (by omega)) (h2 i (by omega))
  simp only [rG]
  split
  ·simp
  ·simp only []
   omega
/-- What was summed up, in plain words. -/
theorem rG_is {ls:List Ly} {S:List (List Int)}:∀ {i:Nat},(∀ k,k < i→InOk (shA S k))→(∀ k,k < i→LayOk (lyA ls k))→
  ((rG ls S i).1=true↔16 < ls.length∨bigN ls S i=true∨(∃ k,k < i∧4096 < prodI (shA S (k+1)))∨4096 < cntP ls S i)∧((rG ls S i).1=true∨(rG ls S i).2=cntP ls S i)∧(4096 < cntP ls S i→(rG ls S i).2=4097)∧(¬ 4096 < cntP ls S i→(rG ls S i).2=cntP ls S i)
 | 0,_,_=>by simp [rG,bigN,cntP]
 | i+1,h,h2=>by
  obtain ⟨a1,a2,a3,a4⟩:=rG_is (fun k hk=>h k (by omega)) (fun k hk=>h2 k (by omega)) (i:=i) (ls:=ls) (S:=S)
  have hz:=psz_rng (h i (by omega)) (h2 i (by omega))
  have hb:=rP_big (l:=lyA ls i) (d:=shA S i) (h2 i (by omega))
  simp only [rG,cntP,bigN,hb]
  by_cases hc:4096 < cntP ls S i
  ·have e:=a3 hc
   rw [e,if_pos (by omega)]
   refine ⟨⟨fun _=>.inr (.inr (.inr (by omega))),fun _=>rfl⟩,.inl rfl,fun _=>rfl,fun h5=>absurd (show 4096 < cntP ls S i+psz (lyA ls i) (shA S i) by omega) h5⟩
  ·have e:=a4 hc
   rw [e]
   by_cases hd:4096 < cntP ls S i+psz (lyA ls i) (shA S i)
   ·rw [if_pos hd]
    exact ⟨⟨fun _=>.inr (.inr (.inr hd)),fun _=>rfl⟩,.inl rfl,fun _=>rfl,fun h5=>absurd hd h5⟩
   ·rw [if_neg hd]
    refine ⟨?_,.inr rfl,fun h5=>absurd h5 hd,fun _=>rfl⟩
    simp only [Bool.or_eq_true,decide_eq_true_eq]
    rw [a1]
    constructor
    ·rintro ((( h5|h5|⟨k,hk,h5⟩|h5)|h5)|h5)
     ·exact .inl h5
     ·exact .inr (.inl (.inl h5))
     ·exact .inr (.inr (.inl ⟨k,by omega,h5⟩))
     ·exact absurd h5 hc
     ·exact .inr (.inl (.inr h5))
     ·exact .inr (.inr (.inl ⟨i,by omega,h5⟩))
    ·rintro (h5|(h5|h5)|⟨k,hk,h5⟩|h5)
     ·exact .inl (.inl (.inl h5))
     ·exact .inl (.inl (.inr (.inl h5)))
     ·exact .inl (.inr h5)
     ·rcases Nat.lt_or_ge k i with hk2|hk2
      ·exact .inl (.inl (.inr (.inr (.inl ⟨k,hk2,h5⟩))))
      ·obtain rfl:k=i:=by omega
       exact .inr h5
     ·exact absurd h5 hd
theorem rG_fin {d:List Int} {ls:List Ly} {S:List (List Int)} (hf:formB d ls=true) (hs:shN d ls ls.length=some S):
  ((rG ls S ls.length).1 || decide (4096 < prodI d))=tooM ls S∧(tooM ls S=false→(rG ls S ls.length).2=cntP ls S ls.length):=by
 obtain ⟨hd,hl⟩:=(formB_iff d ls).1 hf
 have hS:=shN_in hd hl (Nat.le_refl _) hs
 have hlen:=shN_len hs
 have h0:shA S 0=d:=by
  have:∀ (i:Nat) (T:List (List Int)),shN d ls i=some T→shA T 0=d:=by
   intro i
   induction i with
   | zero=>intro T h;cases h;rfl
   | succ i ih=>
    intro T h
    cases hi:shN d ls i with
    | none=>rw [shN_stop hi (Nat.le_succ i)] at h;cases h
    | some T0=>
     rw [shN_succ hi] at h
     obtain ⟨o,rfl,-⟩:=stepS_pre h
     rw [shA_app _ (by have:=shN_len hi;omega)]
     exact ih T0 hi
  exact this _ _ hs
 obtain ⟨a1,a2,a3,a4⟩:=rG_is (ls:=ls) (S:=S) (i:=ls.length) (fun k hk=>hS k (by omega)) (fun k hk=>hl _ (lyA_mem hk))
 have hB:bigS S=true↔(∃ k,k < ls.length∧4096 < prodI (shA S (k+1)))∨4096 < prodI d:=by
  unfold bigS
  rw [List.any_eq_true]
  constructor
  ·rintro ⟨s,hs2,h5⟩
   obtain ⟨i,hi,rfl⟩:=List.getElem_of_mem hs2
   have e:shA S i=S[i]:=by unfold shA;rw [List.getD_eq_getElem?_getD,List.getElem?_eq_getElem hi];rfl
   rw [← e,decide_eq_true_eq] at h5
   cases i with
   | zero=>rw [h0] at h5;exact .inr h5
   | succ i=>exact .inl ⟨i,by omega,h5⟩
  ·have key:∀ i,i < S.length→4096 < prodI (shA S i)→∃ x,x∈S∧decide (4096 < prodI x)=true:=fun i hi h5=>by
    have e:shA S i=S[i]:=by unfold shA;rw [List.getD_eq_getElem?_getD,List.getElem?_eq_getElem hi];rfl
    exact ⟨S[i],List.getElem_mem _,by rw [← e,decide_eq_true_eq];exact h5⟩
   rintro (⟨k,hk,h5⟩|h5)
   ·exact key (k+1) (by omega) h5
   ·exact key 0 (by omega) (by rw [h0];exact h5)
 have hT:tooM ls S=true↔((rG ls S ls.length).1 || decide (4096 < prodI d))=true:=by
  unfold tooM
  simp only [Bool.or_eq_true,decide_eq_true_eq]
  rw [hB,a1]
  constructor
  ·rintro (((h5|(h5|h5))|h5)|h5)
   ·exact .inl (.inl h5)
   ·exact .inl (.inr (.inr (.inl h5)))
   ·exact .inr h5
   ·exact .inl (.inr (.inl h5))
   ·exact .inl (.inr (.inr (.inr h5)))
  ·rintro ((h5|h5|h5|h5)|h5)
   ·exact .inl (.inl (.inl h5))
   ·exact .inl (.inr h5)
   ·exact .inl (.inl (.inr (.inl h5)))
   ·exact .inr h5
   ·exact .inl (.inl (.inr (.inr h5)))
 refine ⟨Bool.eq_iff_iff.2 hT.symm,fun h5=>a4 fun h6=>?_⟩
 have:tooM ls S=true:=by unfold tooM;simp [h6]
 rw [h5] at this
 cases this
end Go.Proofs.YtiampagapgjedaaGreatDoor.Wd
