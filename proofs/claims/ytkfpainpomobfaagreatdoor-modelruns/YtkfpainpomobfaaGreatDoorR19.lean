/- The reference's Shapes, reckoned: what i -/
import Derived.Test.YtkfpainpomobfaaGreatDoorR12
set_option linter.unusedVariables false
set_option linter.unusedSimpArgs false
set_option maxHeartbeats 16000000
set_option maxRecDepth 16000
namespace Go.Proofs.YtkfpainpomobfaaGreatDoor.Wd
/-- Is a layer's parameter greater than may be (the reference asks of the first alone)? -/
def rP (l:Ly) (d:List Int):Bool:=if a_m l.1=0 then decide (4096 < l.2.1*a_o d) else if a_m l.1=1 then decide (4096 < l.2.1*d.getD 0 0*l.2.2) else false
theorem s_Z {l:Ly} {d:List Int} (h:a_L l):o_g l d=rP l d:=by
 unfold o_g b_L rP;rcases a_s h with ⟨_,k,A,E⟩|⟨_,k,A,E⟩|⟨_,k,A,E⟩|⟨_,k,A,E⟩|⟨_,k,A,E⟩ <;> rw [k]
 ·simp only [if_true,List.any_cons,List.any_nil,b_n,b_m];rw [decide_eq_false (show ¬ 4096 < l.2.1 by omega)];simp
 ·simp [b_o]
 ·simp
 ·simp
 ·simp
/-- Great already? how many parameters so far (held at one too many)? -/
def rG (ls:List Ly) (S:List (List Int)):Nat->Bool×Int
 | 0=>(decide (16 < ls.length),0)
 | i+1=>if 4096 < (rG ls S i).2+psz (lyA ls i) (shA S i) then (true,4097) else ((rG ls S i).1 || rP (lyA ls i) (shA S i) || decide (4096 < a_o (shA S (i+1))),(rG ls S i).2+psz (lyA ls i) (shA S i))
theorem q_k {ls:List Ly} {S:List (List Int)}:∀ {i:Nat},(∀ k,k < i->InOk (shA S k))->(∀ k,k < i->a_L (lyA ls k))->0<=(rG ls S i).2/\(rG ls S i).2<=4097
 | 0,_,_=>by simp [rG]
 | i+1,h,h2=>by
  have H:=q_k (fun k A=>h k (by omega)) (fun k A=>h2 k (by omega)) (i:=i);have E:=e_d (h i (by omega)) (h2 i (by omega));simp only [rG]
  split
  ·simp
  ·simp only [];omega
/-- What was summed up, in plain words. -/
theorem s_0 {ls:List Ly} {S:List (List Int)}:∀ {i:Nat},(∀ k,k < i->InOk (shA S k))->(∀ k,k < i->a_L (lyA ls k))->
  ((rG ls S i).1=true↔16 < ls.length∨k_Q ls S i=true∨(∃ k,k < i/\4096 < a_o (shA S (k+1)))∨4096 < b_Q ls S i)/\((rG ls S i).1=true∨(rG ls S i).2=b_Q ls S i)/\(4096 < b_Q ls S i->(rG ls S i).2=4097)/\(¬ 4096 < b_Q ls S i->(rG ls S i).2=b_Q ls S i)
 | 0,_,_=>by simp [rG,k_Q,b_Q]
 | i+1,h,h2=>by
  obtain ⟨M,V,L,O⟩:=s_0 (fun k I=>h k (by omega)) (fun k I=>h2 k (by omega)) (i:=i) (ls:=ls) (S:=S);have R:=e_d (h i (by omega)) (h2 i (by omega));have hb:=s_Z (l:=lyA ls i) (d:=shA S i) (h2 i (by omega));simp only [rG,b_Q,k_Q,hb];by_cases J:4096 < b_Q ls S i
  ·have e:=L J;rw [e,if_pos (by omega)];refine ⟨⟨fun _=>.inr (.inr (.inr (by omega))),fun _=>rfl⟩,.inl rfl,fun _=>rfl,fun A=>absurd (show 4096 < b_Q ls S i+psz (lyA ls i) (shA S i) by omega) A⟩
  ·have e:=O J;rw [e];by_cases E:4096 < b_Q ls S i+psz (lyA ls i) (shA S i)
   ·rw [if_pos E];exact ⟨⟨fun _=>.inr (.inr (.inr E)),fun _=>rfl⟩,.inl rfl,fun _=>rfl,fun A=>absurd E A⟩
   ·rw [if_neg E];refine ⟨?_,.inr rfl,fun A=>absurd A E,fun _=>rfl⟩;simp only [Bool.or_eq_true,decide_eq_true_eq];rw [M];constructor
    ·rintro ((( A|A|⟨k,I,A⟩|A)|A)|A)
     ·exact .inl A
     ·exact .inr (.inl (.inl A))
     ·exact .inr (.inr (.inl ⟨k,by omega,A⟩))
     ·exact absurd A J
     ·exact .inr (.inl (.inr A))
     ·exact .inr (.inr (.inl ⟨i,by omega,A⟩))
    ·rintro (A|(A|A)|⟨k,I,A⟩|A)
     ·exact .inl (.inl (.inl A))
     ·exact .inl (.inl (.inr (.inl A)))
     ·exact .inl (.inr A)
     ·rcases Nat.lt_or_ge k i with H|H
      ·exact .inl (.inl (.inr (.inr (.inl ⟨k,H,A⟩))))
      ·obtain rfl:k=i:=by omega
       exact .inr A
     ·exact absurd A E
theorem s_1 {d:List Int} {ls:List Ly} {S:List (List Int)} (hf:b_O d ls=true) (L:shN d ls ls.length=some S):
  ((rG ls S ls.length).1 || decide (4096 < a_o d))=d_7 ls S/\(d_7 ls S=false->(rG ls S ls.length).2=b_Q ls S ls.length):=by
 obtain ⟨V,R⟩:=(b_a d ls).1 hf;have hS:=e_y V R (Nat.le_refl _) L;have O:=c_N L
 have M:shA S 0=d:=by
  have:∀ (i:Nat) (T:List (List Int)),shN d ls i=some T->shA T 0=d:=by
   intro i
   induction i with
   | zero=>intro T h;cases h;rfl
   | succ i ih=>
    intro T h;cases E:shN d ls i with
    | none=>rw [b_k E (Nat.le_succ i)] at h;cases h
    | some T0=>
     rw [a_H E] at h;obtain ⟨o,rfl,-⟩:=e_x h;rw [e_c _ (by have:=c_N E;omega)];exact ih T0 E
  exact this _ _ L
 obtain ⟨a1,a2,a3,a4⟩:=s_0 (ls:=ls) (S:=S) (i:=ls.length) (fun k I=>hS k (by omega)) (fun k I=>R _ (d_p I))
 have hB:i_S S=true↔(∃ k,k < ls.length/\4096 < a_o (shA S (k+1)))∨4096 < a_o d:=by
  unfold i_S;rw [List.any_eq_true];constructor
  ·rintro ⟨s,J,A⟩;obtain ⟨i,E,rfl⟩:=List.getElem_of_mem J;have e:shA S i=S[i]:=by unfold shA;rw [List.getD_eq_getElem?_getD,List.getElem?_eq_getElem E];rfl
   rw [<- e,decide_eq_true_eq] at A;cases i with
   | zero=>rw [M] at A;exact .inr A
   | succ i=>exact .inl ⟨i,by omega,A⟩
  ·have H:∀ i,i < S.length->4096 < a_o (shA S i)->∃ x,x∈S/\decide (4096 < a_o x)=true:=fun i E A=>by
    have e:shA S i=S[i]:=by unfold shA;rw [List.getD_eq_getElem?_getD,List.getElem?_eq_getElem E];rfl
    exact ⟨S[i],List.getElem_mem _,by rw [<- e,decide_eq_true_eq];exact A⟩
   rintro (⟨k,I,A⟩|A)
   ·exact H (k+1) (by omega) A
   ·exact H 0 (by omega) (by rw [M];exact A)
 have hT:d_7 ls S=true↔((rG ls S ls.length).1 || decide (4096 < a_o d))=true:=by
  unfold d_7;simp only [Bool.or_eq_true,decide_eq_true_eq];rw [hB,a1];constructor
  ·rintro (((A|(A|A))|A)|A)
   ·exact .inl (.inl A)
   ·exact .inl (.inr (.inr (.inl A)))
   ·exact .inr A
   ·exact .inl (.inr (.inl A))
   ·exact .inl (.inr (.inr (.inr A)))
  ·rintro ((A|A|A|A)|A)
   ·exact .inl (.inl (.inl A))
   ·exact .inl (.inr A)
   ·exact .inl (.inl (.inr (.inl A)))
   ·exact .inr A
   ·exact .inl (.inl (.inr (.inr A)))
 refine ⟨Bool.eq_iff_iff.2 hT.symm,fun A=>a4 fun Z=>?_⟩;have:d_7 ls S=true:=by unfold d_7;simp [Z]
 rw [A] at this;cases this
end Go.Proofs.YtkfpainpomobfaaGreatDoor.Wd
namespace Go.Proofs.YtkfpainpomobfaaGreatDoor.Wd
open Go.RowKit List World Nat
theorem d_K (v l t:Int) (z:Bool) (E:decide (l<=v/\v<=t)=z) (w:World):Calls Tryz.prog 34 #[.int .i64 v,.int .i64 l,.int .i64 t] w fun e L=>e = .returned (.bool z)/\L=w:=by
 have A:Hid _:=E;clear E;go_enter Tryz.func34,Tryz.ntmps34;by_cases H:l<=v
 ·by_cases I:v<=t
  ·go_wp2;go_ret;exact ⟨by rw [<- A.out,decide_eq_true ⟨H,I⟩];rfl,rfl⟩
  ·have M:t < v:=by omega
   go_wp2;go_ret;exact ⟨by rw [<- A.out,decide_eq_false fun h=>by omega];rfl,rfl⟩
 ·have J:v < l:=by omega
  go_wp2;go_ret;exact ⟨by rw [<- A.out,decide_eq_false fun h=>by omega];rfl,rfl⟩
theorem e_U (v:Value) (l:List Int) (M:k_3 l) (w:World) (hv:Nums .i64 w v l):
  Calls Tryz.prog 21 #[v] w fun e w'=>e = .returned (.int .i64 (a_o l))/\w'=w:=by
 obtain ⟨p,n,c,rfl,J⟩:=hv.lst;have HL:Hid _:=M;have ab:(n:Int)<=4:=by have:=M.1;rw [J.1] at this;omega
 obtain ⟨r,L⟩:∃ r:Int,a_o l=r:=⟨_,rfl⟩
 have HR:Hid _:=L;rw [L];clear L hv M;go_enter Tryz.func21,Tryz.ntmps21;go_wp2_with fail
 go_loopg [3,4] n (fun gg u v wr=>∃ (k:Nat) (x:Int),k<=n/\gg=n - k/\u = .int .i64 x/\v = .int .i64 (k:Int)/\Hid (x=a_o (l.take k))/\wr=w)
 case atStart=>exact ⟨0,1,by omega,by omega,rfl,rfl,rfl,rfl⟩
 case round=>
  obtain ⟨k,x,hk,hg,rfl,rfl,V,rfl⟩:=hrel;by_cases H:k < n
  ·have aa:(k:Int) < (n:Int):=by omega
   obtain ⟨q,o,rfl,A⟩:=J.2 k H;have E:k < l.length:=by rw [J.1];exact H
   obtain ⟨y,O⟩:∃ y,l.getD k 0=y:=⟨_,rfl⟩
   rw [O] at A
   have I:x*y=a_o (l.take (k+1)):=by
    rw [take_add_one,getElem?_eq_getElem E,Option.toList_some,g_O,V.out,<- O,getD_eq_getElem?_getD,getElem?_eq_getElem E];rfl
   have R:=HL.2 (k+1) (by omega);rw [<- I] at R;obtain ⟨m,Z⟩:∃ m,x*y=m:=⟨_,rfl⟩
   rw [Z] at R I;have Hn:Hid _:=I;clear O E I;go_wp2;go_roundg (n - (k+1))
   case measure=>omega
   case rel=>exact ⟨k+1,m,by omega,rfl,by first|rfl|simp [Z],by first|rfl|simp,Hn,rfl⟩
  ·obtain rfl:k=n:=by omega
   go_wp2;go_ret;rw [<- HR.out,V.out,take_of_length_le (by rw [J.1];exact Nat.le_refl _)];exact ⟨rfl,rfl⟩
/-- What is asked of a layer's numbers, by its kind. -/
theorem d_d {s:ByteArray} {a b:Int} {z:Nat} (h:a_m s=z) (A:z=0∨z=2∨z=3):decide (a_L (s,a,b))=(decide (1<=a/\a<=c_h z) && decide (b=0)):=by
 unfold a_L;rw [<- Bool.decide_and,decide_eq_decide];simp only [h];rcases A with rfl|rfl|rfl <;> simp [b_Z,c_h,c_R]
theorem h_B {s:ByteArray} {a b:Int} (h:a_m s=1):decide (a_L (s,a,b))=(decide (1<=a/\a<=16) && decide (1<=b/\b<=16)):=by
 unfold a_L;rw [<- Bool.decide_and,decide_eq_decide];simp [h,b_Z,c_h,c_R]
theorem h_C {s:ByteArray} {a b:Int} (h:a_m s=4):decide (a_L (s,a,b))=(decide (a=0) && decide (b=0)):=by
 unfold a_L;rw [<- Bool.decide_and,decide_eq_decide];simp [h,b_Z,c_h,c_R]
theorem s_2 {s:ByteArray} {a b:Int} (h:a_m s=5):decide (a_L (s,a,b))=false:=by
 unfold a_L;rw [decide_eq_false];simp [h]
theorem l_w (p p2:Option Addr) (n c O c2:Nat) (d:List Int) (ls:List Ly) (aA:O<=1073741824) (w:World) (h1:Nums .i64 w (.slice p n c) d) (h2:LyR 0 w p2 O ls):
  Calls Tryz.prog 20 #[.agg #[.slice p n c,.slice p2 O c2]] w fun e w'=>e = .returned (.bool (b_O d ls))/\Bw w w':=by
 obtain ⟨r,J⟩:∃ r:Bool,b_O d ls=r:=⟨_,rfl⟩
 have HR:Hid (b_O d ls=r):=J;rw [J];clear J;have HL:Hid (LyR 0 w p2 O ls):=h2;have HN:Hid (Nums .i64 w (.slice p n c) d):=h1;clear h2 h1;go_enter Tryz.func20,Tryz.ntmps20;obtain ⟨p',n',c',e',HC⟩:=HN.out.lst;cases e';obtain ⟨qi,an⟩:∃ q,e_w d=q:=⟨_,rfl⟩
 have ai:Hid (e_w d=qi):=an;have au:qi=false->r=false:=fun h=>by rw [<- HR.out];unfold b_O;rw [an,h];rfl
 have HF:qi=true->Hid (b_O d ls=ls.all fun l=>decide (a_L l)):=fun h=>by show _=_;unfold b_O;rw [an,h];rfl
 have ao:Hid (qi=false->r=false):=au;have av:Hid (qi=true->Hid (b_O d ls=ls.all fun l=>decide (a_L l))):=HF;clear an au HF
 have ap:(∃ x,d = [x]/\n=1)∨(∃ x y,d = [x,y]/\n=2)∨(n≠1/\n≠2/\qi=false):=by
  have hl:=HC.1;by_cases g1:n=1
  ·subst g1
   match d,hl with
   | [x],_=>exact .inl ⟨x,rfl,rfl⟩
  by_cases g2:n=2
  ·subst g2
   match d,hl with
   | [x,y],_=>exact .inr (.inl ⟨x,y,rfl,rfl⟩)
  exact .inr (.inr ⟨g1,g2,by rw [<- ai.out];exact h_4 (by rw [hl];exact g1) (by rw [hl];exact g2)⟩)
 rcases ap with ⟨x,rfl,hn⟩|⟨x,y,rfl,hn⟩|⟨g1,g2,g3⟩
 case inr.inr=>
  have aB:((n:Int)==1)=false:=by simpa using (show (n:Int)≠1 by omega)
  have aC:((n:Int)==2)=false:=by simpa using (show (n:Int)≠2 by omega)
  have J:=ao.out g3;subst J;clear g1 g2;go_wp2;go_ret;exact ⟨rfl,a_a w _⟩
 case' inl=>
  obtain ⟨q,o,rfl,x0⟩:=HC.2 0 (by omega);have t1:((n:Int)==1)=true:=by rw [hn];rfl
  have i0:(0:Int) < (n:Int):=by omega
  clear hn;simp only [getD_cons_zero,Nat.add_zero] at x0;have kq:=a_h x0;go_wp2_with fail
  generalize ac:alloc _ _=W0;have af:Hid (Bw w W0):=by rw [<- ac];exact a_a w _
  have aq:Hid (W0.cell? ⟨w.heap.size,1,none⟩=some (.slice p2 O c2)):=by show _=_;rw [<- ac];simp [go_sem]
  clear ac;obtain ⟨R,E⟩:∃ q,decide (1<=x/\x<=1024)=q:=⟨_,rfl⟩
  have H:Hid (e_w [x]=R):=E;refine (d_K _ _ _ R E _).mono ?_;rintro e w3 ⟨rfl,rfl⟩;clear E;cases R
  case false=>
   have J:=ao.out (by rw [<- ai.out];exact H.out);subst J;go_wp2;go_ret;exact ⟨rfl,af⟩
  have HF:=av.out (by rw [<- ai.out];exact H.out)
 case' inr.inl=>
  obtain ⟨q,o,rfl,x0⟩:=HC.2 0 (by omega);obtain ⟨q',o',e,x1⟩:=HC.2 1 (by omega);cases e;have t1:((n:Int)==1)=false:=by rw [hn];rfl
  have t2:((n:Int)==2)=true:=by rw [hn];rfl
  have i0:(0:Int) < (n:Int):=by omega
  have i1:(1:Int) < (n:Int):=by omega
  clear hn;simp only [getD_cons_zero,getD_cons_succ,Nat.add_zero] at x0 x1;have kq:=a_h x0;go_wp2_with fail
  generalize ac:alloc _ _=W0;have af:Hid (Bw w W0):=by rw [<- ac];exact a_a w _
  have aq:Hid (W0.cell? ⟨w.heap.size,1,none⟩=some (.slice p2 O c2)):=by show _=_;rw [<- ac];simp [go_sem]
  have C0:W0.cell? ⟨w.heap.size,0,none⟩=some (.slice (some ⟨q,o,none⟩) n c):=by rw [<- ac];simp [go_sem]
  have C1:=aq.out;replace x0:=a_g af x0;replace x1:=a_g af x1;have kC:=a_h C0;have kX:=a_h x0;clear ac;obtain ⟨R,E⟩:∃ q,decide (1<=x/\x<=64)=q:=⟨_,rfl⟩
  have H:Hid (decide (1<=x/\x<=64)=R):=E;refine (d_K _ _ _ R E _).mono ?_;rintro e w3 ⟨rfl,rfl⟩;clear E;have ar:Hid (e_w [x,y]=(decide (1<=x/\x<=64) && decide (1<=y/\y<=64))):=Bool.decide_and _ _;cases R
  case false=>
   have J:=ao.out (by rw [<- ai.out];rw [ar.out,H.out];rfl);subst J;go_wp2;go_ret;exact ⟨rfl,af⟩
  go_wp2_with fail
  obtain ⟨qb,ah⟩:∃ q,decide (1<=y/\y<=64)=q:=⟨_,rfl⟩
  have aj:Hid (decide (1<=y/\y<=64)=qb):=ah;refine (d_K _ _ _ qb ah _).mono ?_;rintro e w3 ⟨rfl,rfl⟩;clear ah;cases qb
  case false=>
   have J:=ao.out (by rw [<- ai.out];rw [ar.out,H.out,aj.out];rfl);subst J;go_wp2;go_ret;exact ⟨rfl,af⟩
  have HF:=av.out (by rw [<- ai.out];rw [ar.out,H.out,aj.out];rfl)
 all_goals
  go_wp2
  go_loopg [3] O (fun gg v wr=>∃ (k:Nat),k<=O/\gg=O - k/\v = .int .i64 (k:Int)/\Hid (∀ i,i < k->decide (a_L (lyA ls i))=true)/\Hid (Bw w wr/\wr.cell? ⟨w.heap.size,1,none⟩=some (.slice p2 O c2)))
  case atStart=>exact ⟨0,by omega,by omega,rfl,fun i hi=>by omega,af,aq.out⟩
  case round=>
   obtain ⟨k,hk,hg,rfl,Hx,HB⟩:=hrel;have D1:=HB.2;have kD:=a_h D1;by_cases aw:k < O
   ·have aD:(k:Int) < (O:Int):=by omega
    obtain ⟨q',o',rfl,c0,c1,al⟩:=(HL.out.up HB.1).2 k aw;obtain ⟨l,el⟩:∃ l,lyA ls k=l:=⟨_,rfl⟩
    obtain ⟨s,a,b⟩:=l;rw [el] at c0 c1 al;have aE:=a_h c0;have A:Hid (decide (a_L (s,a,b))=false->r=false):=fun h=>by rw [<- HR.out,HF.out];exact m_h (i:=k) (by rw [HL.1];exact aw) (by rw [el];exact h)
    have Z:Hid (decide (a_L (s,a,b))=true->∀ i,i < k+1->decide (a_L (lyA ls i))=true):=fun h i hi=>by
     rcases Nat.lt_succ_iff_lt_or_eq.1 hi with h2|rfl
     ·exact Hx.out i h2
     ·rw [el];exact h
    obtain ⟨k0,k1,k2,k3,k4⟩:=kts s;have ax:=g_5 s;obtain ⟨z,ez⟩:∃ z,a_m s=z:=⟨_,rfl⟩
    have HZ:Hid (a_m s=z):=ez;rw [ez] at k0 k1 k2 k3 k4 ax;clear el ez;have L:Hid (∀ W,Bw wr W->Bw w W/\W.cell? ⟨w.heap.size,1,none⟩=some (.slice (some ⟨q',o',none⟩) O c2)):=fun W hW=>⟨a_c HB.1 hW,a_g hW HB.2⟩
    rcases (show z=0∨z=1∨z=2∨z=3∨z=4∨z=5 by omega) with rfl|rfl|rfl|rfl|rfl|rfl
    ·simp only [decide_true,decide_false,nn5] at k0 k1 k2 k3 k4;go_wp2_with fail
     generalize M:alloc _ _=W2;have HA:Hid (Bw wr W2/\True):=⟨by rw [<- M];exact a_a wr _,trivial⟩
     obtain ⟨e0,e1,e2⟩:W2.cell? ⟨wr.heap.size,0,none⟩=some (.string s)/\W2.cell? ⟨wr.heap.size,1,none⟩=some (.int .i64 a)/\W2.cell? ⟨wr.heap.size,2,none⟩=some (.int .i64 b):=by rw [<- M];simp [go_sem]
     have ke:=a_h e0;clear M c0 c1 al;obtain ⟨R,E⟩:∃ q,decide (1<=a/\a<=256)=q:=⟨_,rfl⟩
     have H:Hid (decide (1<=a/\a<=c_h 0)=R):=E;refine (d_K _ _ _ R E _).mono ?_;rintro e w3 ⟨rfl,rfl⟩;clear E;cases R with
     | false=>
      have J:=A.out (by rw [d_d HZ.out (by omega),H.out];rfl);subst J;go_wp2;go_ret;exact ⟨rfl,(L _ HA.1).1⟩
     | true=>
      by_cases I:b=0
      ·subst I;have aa:Hid (∀ i,i < k+1->decide (a_L (lyA ls i))=true):=Z.out (by rw [d_d HZ.out (by omega),H.out];rfl);have ag:Hid (Bw w w3/\w3.cell? ⟨w.heap.size,1,none⟩=some (.slice (some ⟨q',o',none⟩) O c2)):=L.out _ HA.1;clear Z A;go_wp2;go_roundg (O - (k+1))
       case measure=>omega
       case rel=>exact ⟨k+1,by omega,rfl,by first|rfl|simp,aa,ag⟩
      ·have ak:(b==0)=false:=by simpa using I
       have ae:Hid (decide (b=0)=false):=decide_eq_false I;clear I;have J:=A.out (by rw [d_d HZ.out (by omega),H.out,ae];rfl);subst J;go_wp2;go_ret;exact ⟨rfl,(L _ HA.1).1⟩
    ·simp only [decide_true,decide_false,nn5] at k0 k1 k2 k3 k4;go_wp2_with fail
     generalize M:alloc _ _=W2;have HA:Hid (Bw wr W2/\True):=⟨by rw [<- M];exact a_a wr _,trivial⟩
     obtain ⟨e0,e1,e2⟩:W2.cell? ⟨wr.heap.size,0,none⟩=some (.string s)/\W2.cell? ⟨wr.heap.size,1,none⟩=some (.int .i64 a)/\W2.cell? ⟨wr.heap.size,2,none⟩=some (.int .i64 b):=by rw [<- M];simp [go_sem]
     have ke:=a_h e0;clear M c0 c1 al;obtain ⟨R,E⟩:∃ q,decide (1<=a/\a<=16)=q:=⟨_,rfl⟩
     have H:Hid (decide (1<=a/\a<=16)=R):=E;refine (d_K _ _ _ R E _).mono ?_;rintro e w3 ⟨rfl,rfl⟩;clear E;cases R with
     | false=>
      have J:=A.out (by rw [h_B HZ.out,H.out];rfl);subst J;go_wp2;go_ret;exact ⟨rfl,(L _ HA.1).1⟩
     | true=>
      go_wp2_with fail
      obtain ⟨qb,ah⟩:∃ q,decide (1<=b/\b<=16)=q:=⟨_,rfl⟩
      have aj:Hid (decide (1<=b/\b<=16)=qb):=ah;refine (d_K _ _ _ qb ah _).mono ?_;rintro e w4 ⟨rfl,rfl⟩;clear ah;cases qb with
      | false=>
       have J:=A.out (by rw [h_B HZ.out,H.out,aj.out];rfl);subst J;go_wp2;go_ret;exact ⟨rfl,(L _ HA.1).1⟩
      | true=>
       have aa:Hid (∀ i,i < k+1->decide (a_L (lyA ls i))=true):=Z.out (by rw [h_B HZ.out,H.out,aj.out];rfl);have ag:Hid (Bw w w4/\w4.cell? ⟨w.heap.size,1,none⟩=some (.slice (some ⟨q',o',none⟩) O c2)):=L.out _ HA.1;clear Z A;go_wp2;go_roundg (O - (k+1))
       case measure=>omega
       case rel=>exact ⟨k+1,by omega,rfl,by first|rfl|simp,aa,ag⟩
    ·simp only [decide_true,decide_false,nn5] at k0 k1 k2 k3 k4;go_wp2_with fail
     generalize M:alloc _ _=W2;have HA:Hid (Bw wr W2/\True):=⟨by rw [<- M];exact a_a wr _,trivial⟩
     obtain ⟨e0,e1,e2⟩:W2.cell? ⟨wr.heap.size,0,none⟩=some (.string s)/\W2.cell? ⟨wr.heap.size,1,none⟩=some (.int .i64 a)/\W2.cell? ⟨wr.heap.size,2,none⟩=some (.int .i64 b):=by rw [<- M];simp [go_sem]
     have ke:=a_h e0;clear M c0 c1 al;obtain ⟨R,E⟩:∃ q,decide (1<=a/\a<=16)=q:=⟨_,rfl⟩
     have H:Hid (decide (1<=a/\a<=c_h 2)=R):=E;refine (d_K _ _ _ R E _).mono ?_;rintro e w3 ⟨rfl,rfl⟩;clear E;cases R with
     | false=>
      have J:=A.out (by rw [d_d HZ.out (by omega),H.out];rfl);subst J;go_wp2;go_ret;exact ⟨rfl,(L _ HA.1).1⟩
     | true=>
      by_cases I:b=0
      ·subst I;have aa:Hid (∀ i,i < k+1->decide (a_L (lyA ls i))=true):=Z.out (by rw [d_d HZ.out (by omega),H.out];rfl);have ag:Hid (Bw w w3/\w3.cell? ⟨w.heap.size,1,none⟩=some (.slice (some ⟨q',o',none⟩) O c2)):=L.out _ HA.1;clear Z A;go_wp2;go_roundg (O - (k+1))
       case measure=>omega
       case rel=>exact ⟨k+1,by omega,rfl,by first|rfl|simp,aa,ag⟩
      ·have ak:(b==0)=false:=by simpa using I
       have ae:Hid (decide (b=0)=false):=decide_eq_false I;clear I;have J:=A.out (by rw [d_d HZ.out (by omega),H.out,ae];rfl);subst J;go_wp2;go_ret;exact ⟨rfl,(L _ HA.1).1⟩
    ·simp only [decide_true,decide_false,nn5] at k0 k1 k2 k3 k4;go_wp2_with fail
     generalize M:alloc _ _=W2;have HA:Hid (Bw wr W2/\True):=⟨by rw [<- M];exact a_a wr _,trivial⟩
     obtain ⟨e0,e1,e2⟩:W2.cell? ⟨wr.heap.size,0,none⟩=some (.string s)/\W2.cell? ⟨wr.heap.size,1,none⟩=some (.int .i64 a)/\W2.cell? ⟨wr.heap.size,2,none⟩=some (.int .i64 b):=by rw [<- M];simp [go_sem]
     have ke:=a_h e0;clear M c0 c1 al;obtain ⟨R,E⟩:∃ q,decide (1<=a/\a<=5)=q:=⟨_,rfl⟩
     have H:Hid (decide (1<=a/\a<=c_h 3)=R):=E;refine (d_K _ _ _ R E _).mono ?_;rintro e w3 ⟨rfl,rfl⟩;clear E;cases R with
     | false=>
      have J:=A.out (by rw [d_d HZ.out (by omega),H.out];rfl);subst J;go_wp2;go_ret;exact ⟨rfl,(L _ HA.1).1⟩
     | true=>
      by_cases I:b=0
      ·subst I;have aa:Hid (∀ i,i < k+1->decide (a_L (lyA ls i))=true):=Z.out (by rw [d_d HZ.out (by omega),H.out];rfl);have ag:Hid (Bw w w3/\w3.cell? ⟨w.heap.size,1,none⟩=some (.slice (some ⟨q',o',none⟩) O c2)):=L.out _ HA.1;clear Z A;go_wp2;go_roundg (O - (k+1))
       case measure=>omega
       case rel=>exact ⟨k+1,by omega,rfl,by first|rfl|simp,aa,ag⟩
      ·have ak:(b==0)=false:=by simpa using I
       have ae:Hid (decide (b=0)=false):=decide_eq_false I;clear I;have J:=A.out (by rw [d_d HZ.out (by omega),H.out,ae];rfl);subst J;go_wp2;go_ret;exact ⟨rfl,(L _ HA.1).1⟩
    ·simp only [decide_true,decide_false,nn5] at k0 k1 k2 k3 k4;by_cases am:a=0
     ·subst am;by_cases I:b=0
      ·subst I;have aa:Hid (∀ i,i < k+1->decide (a_L (lyA ls i))=true):=Z.out (by rw [h_C HZ.out];rfl);clear Z A;go_wp2;go_roundg (O - (k+1))
       case measure=>omega
       case rel=>exact ⟨k+1,by omega,rfl,by first|rfl|simp,aa,L _ (a_a wr _)⟩
      ·have ak:(b==0)=false:=by simpa using I
       have ae:Hid _:=decide_eq_false I;clear I;have J:=A.out (by rw [h_C HZ.out,ae];rfl);subst J;go_wp2;go_ret;exact ⟨rfl,(L _ (a_a wr _)).1⟩
     ·have az:(a==0)=false:=by simpa using am
      have ay:Hid _:=decide_eq_false am;clear am;have J:=A.out (by rw [h_C HZ.out,ay.out];rfl);subst J;go_wp2;go_ret;exact ⟨rfl,(L _ (a_a wr _)).1⟩
    ·simp only [decide_true,decide_false,nn5] at k0 k1 k2 k3 k4;have J:=A.out (by rw [s_2 HZ.out]);subst J;go_wp2;go_ret;exact ⟨rfl,(L _ (a_a wr _)).1⟩
   ·obtain rfl:k=O:=by omega
    have J:r=true:=by rw [<- HR.out,HF.out];exact j_0 HL.1 Hx.out
    subst J;go_wp2;go_ret;exact ⟨rfl,HB.1⟩
end Go.Proofs.YtkfpainpomobfaaGreatDoor.Wd
