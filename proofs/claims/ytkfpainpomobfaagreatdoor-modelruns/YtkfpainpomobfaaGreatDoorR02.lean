/- The code's canSkip; whether a shape of a -/
import Derived.Test.YtkfpainpomobfaaGreatDoorR01
import Derived.Lib.FieldsP
import Derived.Lib.Join
import Derived.Lib.ItoaNum
import Derived.Laws.CopyOwn
import Derived.Shelf.Strings.Builder1
import Derived.Shelf.Strings.Builder2
import Derived.Shelf.Strings.OnBuilder
import Derived.Shelf.Small.Bits
import Derived.Shelf.Strconv.Itoa0
import Derived.Shelf.Strconv.Itoa1
import Derived.Shelf.LaysM
import Derived.Shelf.Strconv.Itoa2
import Derived.Shelf.Strconv.Itoa3
import Derived.Shelf.Bits.Mul64
import Derived.Shelf.Strings.FieldsFuncAny
import Derived.Shelf.Slices.Equal
import Derived.Ground.Names2Prog
import Derived.Shelf.Slices.Clone
import Derived.Shelf.Slices.Empties2
import Derived.Ground.SlgnProg
import Derived.Shelf.SlicesE.Clone
set_option linter.unusedVariables false
set_option linter.unusedSimpArgs false
set_option maxHeartbeats 16000000
set_option maxRecDepth 16000
namespace Go.Proofs.YtkfpainpomobfaaGreatDoor.Wd
open Go.RowKit List World Nat
theorem i_5 (p2 ps:Option Addr) (J c2 ns cs:Nat) (ls:List Ly) (S:List (List Int)) (i:Nat) (hi:i < ns) (af:i < J) (ab:J<=1073741824) (A:∀ k,k < ns->(shA S k).length<=4) (w:World) (O:LyR 0 w p2 J ls) (L:RdS w ps ns S):
  Calls Tryz.prog 57 #[.slice p2 J c2,.slice ps ns cs,.int .i64 (i:Int)] w fun e R=>e = .returned (.bool (decide (c_G ls S i)))/\∃ m,R=w.drewN m:=by
 obtain ⟨r,V⟩:∃ r,decide (c_G ls S i)=r:=⟨_,rfl⟩
 have I:Hid (decide (c_G ls S i)=r):=V;rw [V];clear V;cases i with
 | zero=>
  have e:r=false:=by rw [<- I.out];exact decide_eq_false fun h=>absurd h.1 (by omega)
  subst e;clear O L A I;rw [show ((0:Nat):Int)=0 from rfl];go_enter Tryz.func57,Tryz.ntmps57;go_wp2;go_quiet (fail)
  go_wp2;go_ret;exact ⟨rfl,_,rfl⟩
 | succ j=>
  rw [show ((j+1:Nat):Int)=(j:Int)+1 by omega];obtain ⟨q,o,rfl,c0,-,-⟩:=O.2 j (by omega);obtain ⟨x,M⟩:∃ x,(lyA ls j).1=x:=⟨_,rfl⟩
  rw [M] at c0;obtain ⟨-,-,-,-,E⟩:=kts x;have ag:(0:Int) < (j:Int)+1:=by omega
  have ae:(j:Int) < (J:Int):=by omega
  have ac:(j:Int)+1 < (ns:Int):=by omega
  have aa:(j:Int) < (ns:Int):=by omega
  have ah:(j:Int)+1<=9223372036854775807:=by omega
  have ad:IntKind.i64.wrap (j:Int)=(j:Int):=by rw [IntKind.wrap_i64];omega
  by_cases H:a_m x=4
  ·have e:r=false:=by rw [<- I.out];exact decide_eq_false fun h=>h.2.1 (by simp only [Nat.add_sub_cancel];rw [M];exact (d_a x).2 H)
   subst e;replace E:=E.trans (decide_eq_true H);have t5:(x.toList != [115,107,105,112])=false:=by rw [bne,E];rfl
   clear O L A I M H;go_enter Tryz.func57,Tryz.ntmps57;go_wp2;go_quiet (fail)
   go_wp2;go_ret;exact ⟨rfl,_,rfl⟩
  ·replace E:=E.trans (decide_eq_false H);have t5:(x.toList != [115,107,105,112])=true:=by rw [bne,E];rfl
   obtain ⟨q1,o1,a1,b1,d1,rfl,s1,m1⟩:=L.2 j (by omega);obtain ⟨q2,o2,a2,b2,d2,e2,s2,m2⟩:=L.2 (j+1) hi;cases e2
   have ce:Hid (∀ m,Calls Tryz.prog 86 #[.slice a1 b1 d1,.slice a2 b2 d2] (w.drewN m) fun e R=>e = .returned (.bool r)/\∃ Z,R=w.drewN Z):=fun m=>by
    have hB:Bw w (w.drewN m):=a_i (Below.refl _ _) m
    have hr:decide (shA S j=shA S (j+1))=r:=by
     rw [<- I.out];exact decide_eq_decide.2 ⟨fun h=>⟨by omega,by simp only [Nat.add_sub_cancel];rw [M];exact fun h=>H ((d_a x).1 h),h⟩,fun h=>h.2.2⟩
    have:=l_V _ _ (shA S j) (shA S (j+1)) (by have:=A j (by omega);omega) _ (m1.up hB) (m2.up hB);rw [hr] at this;exact this.mono fun e R ⟨h1,Z,h2⟩=>⟨h1,m+Z,by rw [h2,f_S]⟩
   clear O L A I M H m1 m2;go_enter Tryz.func57,Tryz.ntmps57;go_wp2;go_quiet (with_reducible exact ce.out _)
   go_wp2;go_ret;exact ⟨rfl,_,rfl⟩
/-- Is a shape of a row of them too great? -/
theorem o_J {S:List (List Int)} {n:Nat} (H:S.length=n) (h:∀ i,i < n->decide (4096 < a_o (shA S i))=false):i_S S=false:=by
 unfold i_S;rw [any_eq_false];intro s A;obtain ⟨i,E,rfl⟩:=getElem_of_mem A;have:=h i (by omega);unfold shA at this;rw [getD_eq_getElem?_getD,getElem?_eq_getElem E] at this;simpa using this
theorem q_S {S:List (List Int)} {i:Nat} (h:i < S.length):shA S i∈S:=by
 unfold shA;rw [getD_eq_getElem?_getD,getElem?_eq_getElem h];exact getElem_mem _
theorem q_T {S:List (List Int)} {i:Nat} (A:i < S.length) (h:decide (4096 < a_o (shA S i))=true):i_S S=true:=by
 unfold i_S;rw [any_eq_true];exact ⟨_,q_S A,h⟩
theorem k_5 (p:Option Addr) (n c:Nat) (S:List (List Int)) (H:∀ i,i < n->k_3 (shA S i)) (hn:n<=2147483648) (w:World) (Z:RdS w p n S):
  Calls Tryz.prog 87 #[.slice p n c,.func (.func 60) #[] #[]] w fun e w'=>∃ x:Int,e = .returned (.int .i64 x)/\decide (0<=x)=i_S S/\w'=w:=by
 have aa:∀ args W,(callFunc 60 args).run Tryz.prog W = .ok (.enter 60 args) W:=by intro args W;kernel_rfl
 have M:Hid (RdS w p n S):=Z;have HM:Hid (∀ i,i < n->k_3 (shA S i)):=H;clear Z H;go_enter Tryz.func87,Tryz.ntmps87;go_wp2_with fail
 go_loopg [8] n (fun gg v wr=>∃ (k:Nat),k<=n/\gg=n - k/\v = .int .i64 (k:Int)/\Hid (∀ i,i < k->decide (4096 < a_o (shA S i))=false)/\wr=w)
 case atStart=>exact ⟨0,by omega,by omega,rfl,fun i V=>by omega,rfl⟩
 case round=>
  obtain ⟨k,hk,hg,rfl,O,rfl⟩:=hrel;by_cases E:k < n
  ·have ab:(k:Int) < (n:Int):=by omega
   obtain ⟨q,o,a,b,d,rfl,s1,R⟩:=M.2 k E;obtain ⟨L,A⟩:∃ L,decide (4096 < a_o (shA S k))=L:=⟨_,rfl⟩
   have I:=o_H _ _ (HM.out k E) wr R;rw [A] at I;clear R;go_wp2_with fail
   refine I.mono ?_;rintro e w1 ⟨rfl,rfl⟩;clear I;cases L with
   | true=>
    have J:Hid (i_S S=true):=q_T (by rw [M.1];exact E) A;clear A;go_wp2;go_ret;exact ⟨_,rfl,by rw [J.out];simp,rfl⟩
   | false=>
    have HN:Hid (∀ i,i < k+1->decide (4096 < a_o (shA S i))=false):=fun i V=>by
     rcases Nat.lt_succ_iff_lt_or_eq.1 V with h2|rfl
     ·exact O.out i h2
     ·exact A
    clear A;go_wp2;go_roundg (n - (k+1))
    case measure=>omega
    case rel=>exact ⟨k+1,by omega,rfl,by first|rfl|simp,HN,rfl⟩
  ·obtain rfl:k=n:=by omega
   have J:Hid (i_S S=false):=o_J M.1 O.out;go_wp2;go_ret;exact ⟨_,rfl,by rw [J.out];rfl,rfl⟩
theorem e_N (p:Option Addr) (n c:Nat) (S:List (List Int)) (A:∀ i,i < n->k_3 (shA S i)) (L:n<=2147483648) (w:World) (J:RdS w p n S):
  Calls Tryz.prog 59 #[.slice p n c,.func (.func 60) #[] #[]] w fun e O=>e = .returned (.bool (i_S S))/\O=w:=by
 have E:=k_5 p n c S A L w J;obtain ⟨r,H⟩:∃ r,i_S S=r:=⟨_,rfl⟩
 rw [H] at E ⊢;clear J A H;go_enter Tryz.func59,Tryz.ntmps59;go_wp2_with fail
 refine E.mono ?_;rintro e R ⟨x,rfl,I,rfl⟩;have M:Hid (decide (0<=x)=r):=I;clear E I;go_wp2;go_ret;rw [<- M.out];exact ⟨rfl,rfl⟩
/-- What a good net's shapes are, as the walks below want them. -/
structure NetOk (d:List Int) (ls:List Ly) (S:List (List Int)):Prop where
 lay:∀ k,k < ls.length->a_L (lyA ls k)
 inn:∀ k,k < ls.length->InOk (shA S k)
 fit:∀ k,k < ls.length->a_m (lyA ls k).1=1->(shA S k).length=2
 len:S.length=ls.length+1
theorem q_U {l:Ly} {d o:List Int} (h:c_S l d=some o) (A:a_m l.1=1):d.length=2:=by
 unfold c_S at h;rw [A] at h;simp at h;exact h.1.1
theorem e_m {d:List Int} {ls:List Ly}:∀ {n i:Nat} {S:List (List Int)},shN d ls n=some S->i<=n->∃ E,shN d ls i=some E/\∀ k,k < i+1->shA S k=shA E k
 | 0,i,S,h,hi=>by
  obtain rfl:i=0:=by omega
  exact ⟨S,h,fun _ _=>rfl⟩
 | n+1,i,S,h,hi=>by
  rcases Nat.lt_or_ge i (n+1) with I|I
  ·cases A:shN d ls n with
   | none=>rw [b_k A (le_succ n)] at h;cases h
   | some S0=>
    rw [a_H A] at h;obtain ⟨o,rfl,_⟩:=e_x h;obtain ⟨E,L,H⟩:=e_m A (show i<=n by omega);exact ⟨E,L,fun k J=>by rw [e_c _ (by rw [c_N A];omega)];exact H k J⟩
  ·obtain rfl:i=n+1:=by omega
   exact ⟨S,h,fun _ _=>rfl⟩
theorem NetOk.of {d:List Int} {ls:List Ly} {S:List (List Int)} (hf:b_O d ls=true) (h:shN d ls ls.length=some S):NetOk d ls S:=by
 obtain ⟨J,H⟩:=(b_a d ls).1 hf;refine ⟨fun k A=>H _ (d_p A),fun k A=>e_y J H (Nat.le_refl _) h k (by omega),fun k A O=>?_,c_N h⟩;obtain ⟨R,E,L⟩:=e_m h (show k+1<=ls.length by omega);obtain ⟨V,I,g0⟩:=e_m E (show k<=k+1 by omega);rw [a_H I] at E;obtain ⟨o,_,M⟩:=e_x E;rw [L k (by omega),g0 k (by omega)];exact q_U M O
theorem f_7 {l:Ly} {d:List Int} (R:a_L l) (M:InOk d):∀ i,i < (b_L l d).length->k_3 (shA (b_L l d) i):=by
 have hp:=M.prod;unfold b_L;rcases a_s R with ⟨-,k,E,I⟩|⟨-,k,E,I⟩|⟨-,k,E,I⟩|⟨-,k,E,I⟩|⟨-,k,E,I⟩ <;> rw [k] <;> intro i O <;> simp at O
 ·have:=a_S E hp;rcases (show i=0∨i=1 by omega) with rfl|rfl
  ·refine ⟨by simp [shA],fun k H=>?_⟩;rcases (show k=0∨k=1∨k=2 by simp [shA] at H;omega) with rfl|rfl|rfl <;> simp [shA,a_o] <;> (try change _<=l.2.1*a_o d/\l.2.1*a_o d<=_) <;> omega
  ·refine ⟨by simp [shA],fun k H=>?_⟩;rcases (show k=0∨k=1 by simp [shA] at H;omega) with rfl|rfl <;> simp [shA,a_o] <;> omega
 ·subst O;have J:0<=d.getD 0 0/\d.getD 0 0<=1024:=by rcases M with ⟨x,rfl,h⟩|⟨x,y,rfl,Z,V⟩ <;> simp <;> omega
  have A:0<=l.2.1*d.getD 0 0/\l.2.1*d.getD 0 0<=16*1024:=⟨Int.mul_nonneg (by omega) (by omega),Int.mul_le_mul E.2 J.2 J.1 (by omega)⟩
  have L:0<=l.2.1*d.getD 0 0*l.2.2/\l.2.1*d.getD 0 0*l.2.2<=16*1024*16:=⟨Int.mul_nonneg A.1 (by omega),Int.mul_le_mul A.2 I.2 (by omega) (by omega)⟩
  simp only [if_neg (show ¬ (1:Nat)=0 by omega),if_true];refine ⟨by simp [shA],fun k H=>?_⟩;generalize d.getD 0 0=e at J A L H ⊢;rcases (show k=0∨k=1∨k=2∨k=3 by simp [shA] at H;omega) with rfl|rfl|rfl|rfl <;> simp [shA,a_o] <;> omega
def e_u (P:List (List Int)):Nat->Int
 | 0=>0
 | j+1=>e_u P j+a_o (shA P j)
theorem f_A {l:Ly} {d:List Int}:e_u (b_L l d) (b_L l d).length=psz l d:=by
 unfold b_L psz;by_cases E:a_m l.1=0
 ·rw [if_pos E,if_pos E];simp [e_u,shA,b_n,b_m]
 rw [if_neg E,if_neg E];by_cases A:a_m l.1=1
 ·rw [if_pos A,if_pos A];simp [e_u,shA,b_o]
 ·rw [if_neg A,if_neg A];rfl
theorem j_1 {l:Ly} {d:List Int} (M:a_L l) (L:InOk d):∀ j,j<=(b_L l d).length->0<=e_u (b_L l d) j/\e_u (b_L l d) j<=1049600:=by
 intro j A;have H:=e_d L M;rw [<- f_A] at H;have hp:=L.prod;unfold b_L at A H ⊢;by_cases J:a_m l.1=0
 ·rw [if_pos J] at A H ⊢;rcases a_s M with ⟨-,k,E,I⟩|⟨-,k,E,I⟩|⟨-,k,E,I⟩|⟨-,k,E,I⟩|⟨-,k,E,I⟩ <;> rw [J] at k <;> try cases k
  have:=a_S E hp;rcases (show j=0∨j=1∨j=2 by simp at A;omega) with rfl|rfl|rfl <;> simp [e_u,shA,b_n,b_m] <;> omega
 rw [if_neg J] at A H ⊢;by_cases E:a_m l.1=1
 ·rw [if_pos E] at A H ⊢;rcases (show j=0∨j=1 by simp at A;omega) with rfl|rfl
  ·simp [e_u]
  ·exact H
 ·rw [if_neg E] at A H ⊢;obtain rfl:j=0:=by simp at A;omega
  simp [e_u]
theorem f_B (l:Ly) (d:List Int):(b_L l d).length<=2:=by
 unfold b_L
 split
 ·simp
 split <;> simp
theorem c_y (p p2 ps:Option Addr) (n c H c2 ns cs:Nat) (d:List Int) (ls:List Ly) (S:List (List Int)) (ok:NetOk d ls S) (av:H<=1073741824) (w:World) (hL:LyR 0 w p2 H ls) (hS:RdS w ps ns S):
  Calls Tryz.prog 23 #[.agg #[.slice p n c,.slice p2 H c2],.slice ps ns cs] w fun e w'=>e = .returned (.int .i64 (b_Q ls S ls.length))/\Bw w w':=by
 haveI:Nonempty World:=⟨w⟩
 obtain ⟨r,er⟩:∃ r,b_Q ls S ls.length=r:=⟨_,rfl⟩
 have HR:Hid _:=er;have L:Hid (NetOk d ls S/\LyR 0 w p2 H ls/\RdS w ps ns S):=⟨ok,hL,hS⟩
 have ak:ns=H+1:=by rw [<- hS.1,ok.len,hL.1]
 subst ak;rw [er];clear er ok hL hS;go_enter Tryz.func23,Tryz.ntmps23;go_wp2_with fail
 generalize ab:alloc _ _=W0;have am:Hid (Bw w W0):=by rw [<- ab];exact a_a w _
 clear ab
 go_loopg [5,13] H (fun gg u v wr=>∃ (k:Nat) (x:Int),k<=H/\gg=H - k/\u = .int .i64 x/\v = .int .i64 (k:Int)/\Hid (x=b_Q ls S k)/\Hid (Bw w wr))
 case atStart=>exact ⟨0,0,by omega,by omega,rfl,rfl,rfl,am⟩
 case round=>
  obtain ⟨k,x,hk,hg,rfl,rfl,Hx,HB⟩:=hrel;by_cases ac:k < H
  ·have ax:(k:Int) < (H:Int):=by omega
   have aw:(k:Int) < ((H+1:Nat):Int):=by omega
   have R:k < ls.length:=by rw [L.2.1.1];exact ac
   obtain ⟨q,o,rfl,c0,c1,c2⟩:=(L.2.1.up HB).2 k ac;obtain ⟨q3,o3,a3,b3,d3,rfl,s3,m3⟩:=(L.2.2.up HB).2 k (by omega);have hl:=L.1.lay k R;have hi:=L.1.inn k R;have I:=L.1.fit k R;have ai:=e_z (ls:=ls) (S:=S) (i:=k) (fun j hj=>L.1.inn j (by omega)) (fun j hj=>L.1.lay j (by omega));rw [<- Hx.out] at ai;have aB:0<=x/\x<=1127000000000000:=by omega
   obtain ⟨l,el⟩:∃ l,lyA ls k=l:=⟨_,rfl⟩
   obtain ⟨dd,ed⟩:∃ dd,shA S k=dd:=⟨_,rfl⟩
   have HN:Hid (x+psz l dd=b_Q ls S (k+1)):=by show _=_;rw [Hx.out,<- el,<- ed];rfl
   rw [el] at c0 c1 c2 hl I;rw [ed] at hi m3 I;obtain ⟨s,a,b⟩:=l;simp only [] at c0 c1 c2 I;have az:=a_h c0;obtain ⟨PP,eP⟩:∃ PP,b_L (s,a,b) dd=PP:=⟨_,rfl⟩
   have V:Hid (e_u PP PP.length=psz (s,a,b) dd/\(∀ j,j<=PP.length->0<=e_u PP j/\e_u PP j<=1049600)/\(∀ j,j < PP.length->k_3 (shA PP j))/\PP.length<=2):=by
    rw [<- eP];exact ⟨f_A,j_1 hl hi,f_7 hl hi,f_B _ _⟩
   have cp:Hid (∀ W,Bw wr W->Calls Tryz.prog 38 #[.agg #[.string s,.int .i64 a,.int .i64 b],.slice a3 b3 d3] W fun e w'=>∃ v',e = .returned v'/\ParR PP v' w'/\Bw W w'):=fun W hW=>by
    rw [<- eP];exact d_E s a b dd hl hi I a3 b3 d3 W (m3.up hW)
   clear hl hi I ai m3 el ed eP;go_wp2;generalize aa:alloc _ _=W1;have O:Hid (Bw wr W1):=by rw [<- aa];exact a_a wr _
   obtain ⟨e0,e1,e2⟩:W1.cell? ⟨wr.heap.size,0,none⟩=some (.string s)/\W1.cell? ⟨wr.heap.size,1,none⟩=some (.int .i64 a)/\W1.cell? ⟨wr.heap.size,2,none⟩=some (.int .i64 b):=by rw [<- aa];simp [go_sem]
   replace s3:=a_g O s3;have ap:=a_h e0;have ao:=a_h s3;clear aa c0 c1 c2;refine rel [⟨5,23,ParR PP⟩] 8 36 (by kernel_rfl) rfl rfl (by kernel_rfl) (by rfl) ?_ ?_
   ·intro e he v W W' h hb;simp only [mem_cons,not_mem_nil,or_false] at he;subst he;exact ParR.up h hb
   apply Exists.intro;refine ⟨fun x=>?_,?_,?_⟩
   ·simp only [take_succ_cons,take_zero]
    iterate 5
     apply c_w;rfl;rfl
     ·intro F hF hf K hK hFc hFf
      go_big_quiet_op
      exact hK
     (try simp only [a_v])
    refine c_g rfl rfl ?_ ?_
    ·intro F hF hf d hFc hFf;simp [a_j,a_e,go_sem,hFc,ap,ao,e0,e1,e2,s3];refine (cp.out (F d) (a_c O (hF.below _))).mono ?_;rintro e' w8 ⟨v8,rfl,h8,ar⟩;exact ⟨_,rfl,h8,ar⟩
    (try simp only [a_v])
    apply c_w;rfl;rfl
    ·intro F hF hf K hK hFc hFf;obtain ⟨p9,c9,e9,-⟩:=hf _ mS (by rfl) w;simp only [] at e9;rw [e9] at hK ⊢
     go_big_quiet_op
     exact hK
    (try simp only [a_v])
    apply c_w;rfl;rfl
    ·intro F hF hf K hK hFc hFf
     go_big_quiet_op
     exact hK
    (try simp only [a_v])
    refine b_A ?_;exact rfl
   ·exact fun x=>rfl
   ·intro w9 xs ae hf;simp only [drop_succ_cons,drop_zero];obtain ⟨p7,c7,e7,h7⟩:=hf _ mS;simp only [] at e7 h7;have H7:Hid (RdS w9 p7 PP.length PP/\Bw w w9):=⟨h7.1,a_c HB (a_c O ae)⟩
    obtain ⟨v8,e8⟩:∃ v8,xs 5=v8:=⟨_,rfl⟩
    rw [e8] at e7 ⊢;subst e7;have af:Hid _:=V.2.2.2;obtain ⟨J,ah⟩:∃ J,PP.length=J:=⟨_,rfl⟩
    rw [ah] at H7 V af ⊢;clear hf ae h7 e0 e1 e2 s3 cp e8 ah;have au:(J:Int)<=2:=by have:=af.out;omega
    go_wp2_with fail
    go_loopg [5,25] J (fun gg u v wq=>∃ (j:Nat) (y:Int),j<=J/\gg=J - j/\u = .int .i64 y/\v = .int .i64 (j:Int)/\Hid (y=x+e_u PP j)/\wq=w9)
    case atStart=>exact ⟨0,x,by omega,by omega,rfl,rfl,by show x=x+0;omega,rfl⟩
    case round=>
     obtain ⟨j,y,hj,aA,rfl,rfl,Hy,rfl⟩:=hrel;by_cases Z:j < J
     ·have ay:(j:Int) < (J:Int):=by omega
      obtain ⟨q5,o5,a5,b5,d5,rfl,s5,m5⟩:=H7.1.2 j Z;obtain ⟨z,ez⟩:∃ z,a_o (shA PP j)=z:=⟨_,rfl⟩
      have cz:=d_D _ _ (V.2.2.1 j Z) _ m5;rw [ez] at cz;have an:=V.2.1 j (by omega);have aj:=V.2.1 (j+1) Z;rw [show e_u PP (j+1)=e_u PP j+z by rw [<- ez];rfl] at aj;have ag:y+z=x+(e_u PP j+z):=by rw [Hy.out];omega
      have aq:0<=y+z/\y+z<=1128000000000000:=by omega
      have HY:Hid (y+z=x+e_u PP (j+1)):=by show _=_;rw [ag,<- ez];rfl
      obtain ⟨yz,ad⟩:∃ yz,y+z=yz:=⟨_,rfl⟩
      rw [ad] at aq HY;clear m5 ez an aj ag;go_wp2_with fail
      refine cz.mono ?_;rintro e w1 ⟨rfl,rfl⟩;clear cz;go_wp2;go_roundg (J - (j+1))
      case measure=>omega
      case rel=>exact ⟨j+1,yz,by omega,rfl,by first|rfl|simp [ad],by first|rfl|simp,HY,rfl⟩
     ·obtain rfl:j=J:=by omega
      have HY:Hid (y=b_Q ls S (k+1)):=by show _=_;rw [<- HN.out,<- V.1,Hy.out]
      have al:Hid _:=H7.2;clear Hy HN V H7;go_wp2;go_roundg (H - (k+1))
      case measure=>omega
      case rel=>exact ⟨k+1,y,by omega,rfl,rfl,by first|rfl|simp,HY,al⟩
  ·obtain rfl:k=H:=by omega
   have ex:x=r:=by rw [Hx.out,<- HR.out,L.2.1.1]
   subst ex;go_wp2;go_ret;exact ⟨rfl,HB⟩
theorem h_5 {ls:List Ly} {S:List (List Int)}:∀ {i n:Nat},k_Q ls S i=true->i<=n->k_Q ls S n=true
 | i,0,h,hi=>by
  obtain rfl:i=0:=by omega
  exact h
 | i,n+1,h,hi=>by
  rcases Nat.lt_or_ge i (n+1) with A|A
  ·simp only [k_Q,Bool.or_eq_true];exact .inl (h_5 h (show i<=n by omega))
  ·obtain rfl:i=n+1:=by omega
   exact h
theorem i_6 (p p2 ps:Option Addr) (n c E R ns cs:Nat) (d:List Int) (ls:List Ly) (S:List (List Int)) (ok:NetOk d ls S) (am:∀ k,k < ns->InOk (shA S k)) (Z:E<=1073741824) (w:World) (hL:LyR 0 w p2 E ls) (hS:RdS w ps ns S):
  Calls Tryz.prog 37 #[.agg #[.slice p n c,.slice p2 E R],.slice ps ns cs] w fun e M=>e = .returned (.bool (d_7 ls S))/\Bw w M:=by
 haveI:Nonempty World:=⟨w⟩
 obtain ⟨r,er⟩:∃ r,d_7 ls S=r:=⟨_,rfl⟩
 have HR:Hid _:=er;have O:Hid (NetOk d ls S/\LyR 0 w p2 E ls/\RdS w ps ns S):=⟨ok,hL,hS⟩
 have aq:ns=E+1:=by rw [<- hS.1,ok.len,hL.1]
 subst aq;rw [er];have cF:Hid (∀ W,Bw w W->Calls Tryz.prog 59 #[.slice ps (E+1) cs,.func (.func 60) #[] #[]] W fun e M=>e = .returned (.bool (i_S S))/\M=W):=fun W hW=>e_N ps (E+1) cs S (fun i hi=>(am i hi).smal) (Nat.le_trans (Nat.add_le_add_right Z 1) (by decide)) W (hS.up hW);have cc:Hid (∀ W,Bw w W->Calls Tryz.prog 23 #[.agg #[.slice p n c,.slice p2 E R],.slice ps (E+1) cs] W fun e M=>e = .returned (.int .i64 (b_Q ls S ls.length))/\Bw W M):=fun W hW=>c_y p p2 ps n c E R (E+1) cs d ls S ok Z W (hL.up hW) (hS.up hW);clear er ok hL hS am;go_enter Tryz.func37,Tryz.ntmps37;by_cases al:16 < E
 ·have ao:(16:Int) < (E:Int):=by omega
  have e:r=true:=by rw [<- HR.out];unfold d_7;rw [O.2.1.1,decide_eq_true al];simp
  subst e;clear cF cc;go_wp2;go_ret;exact ⟨rfl,a_a w _⟩
 have ao:(E:Int)<=16:=by omega
 go_wp2_with fail
 generalize ab:alloc _ _=W0;have H:Hid (Bw w W0):=by rw [<- ab];exact a_a w _
 obtain ⟨g0,g1⟩:W0.cell? ⟨w.heap.size,0,none⟩=some (.slice p n c)/\W0.cell? ⟨w.heap.size,1,none⟩=some (.slice p2 E R):=by rw [<- ab];simp [go_sem]
 clear ab;refine (cF.out W0 H).mono ?_;rintro e w1 ⟨rfl,rfl⟩;obtain ⟨qb,ai⟩:∃ q,i_S S=q:=⟨_,rfl⟩
 have HQ:Hid _:=ai;rw [ai];clear ai;cases qb with
 | true=>
  have e:r=true:=by rw [<- HR.out];unfold d_7;rw [HQ.out];simp
  subst e;clear cF cc;go_wp2;go_ret;exact ⟨rfl,H⟩
 | false=>
 have HG:Hid (w1.cell? ⟨w.heap.size,0,none⟩=some (.slice p n c)/\w1.cell? ⟨w.heap.size,1,none⟩=some (.slice p2 E R)):=⟨g0,g1⟩
 go_wp2_with fail
 go_loopg [18] E (fun gg v wr=>∃ (k:Nat),k<=E/\gg=E - k/\v = .int .i64 (k:Int)/\Hid (k_Q ls S k=false)/\Hid (Bw w1 wr))
 case atStart=>exact ⟨0,by omega,by omega,rfl,rfl,Below.refl _ _⟩
 case round=>
  obtain ⟨k,hk,hg,rfl,Hx,HB⟩:=hrel;by_cases ae:k < E
  ·have ay:(k:Int) < (E:Int):=by omega
   have ax:(k:Int) < ((E+1:Nat):Int):=by omega
   have ac:k < ls.length:=by rw [O.2.1.1];exact ae
   have ag:=a_c H HB;obtain ⟨q,o,rfl,c0,c1,R⟩:=(O.2.1.up ag).2 k ae;obtain ⟨q3,o3,a3,b3,d3,rfl,s3,m3⟩:=(O.2.2.up ag).2 k (by omega);have hl:=O.1.lay k ac;have hi:=O.1.inn k ac;have L:=O.1.fit k ac;obtain ⟨l,el⟩:∃ l,lyA ls k=l:=⟨_,rfl⟩
   obtain ⟨dd,ed⟩:∃ dd,shA S k=dd:=⟨_,rfl⟩
   have HN:Hid (k_Q ls S (k+1)=o_g l dd):=by show _=_;rw [<- el,<- ed];show (k_Q ls S k || _)=_;rw [Hx.out];rfl
   rw [el] at c0 c1 R hl L;rw [ed] at hi m3 L;obtain ⟨s,a,b⟩:=l;simp only [] at c0 c1 R L;have az:=a_h c0;obtain ⟨PP,eP⟩:∃ PP,b_L (s,a,b) dd=PP:=⟨_,rfl⟩
   obtain ⟨qq,af⟩:∃ qq,i_S PP=qq:=⟨_,rfl⟩
   have HP:Hid (o_g (s,a,b) dd=qq):=by show _=_;rw [<- af,<- eP];rfl
   have cp:Hid (∀ W,Bw wr W->Calls Tryz.prog 38 #[.agg #[.string s,.int .i64 a,.int .i64 b],.slice a3 b3 d3] W fun e M=>∃ v',e = .returned v'/\ParR PP v' M/\Bw W M):=fun W hW=>by
    rw [<- eP];exact d_E s a b dd hl hi L a3 b3 d3 W (m3.up hW)
   have cG:Hid (∀ W v,ParR PP v W->Calls Tryz.prog 59 #[v,.func (.func 60) #[] #[]] W fun e M=>e = .returned (.bool qq)/\M=W):=fun W v hv=>by
    obtain ⟨pv,cv,rfl,hv⟩:=hv;rw [<- af,<- eP] at *;exact e_N pv _ cv _ (f_7 hl hi) (by have:=f_B (s,a,b) dd;omega) W hv.1
   clear hl hi L m3 el ed eP af ag;go_wp2;generalize ah:alloc _ _=W1;have aa:Hid (Bw wr W1):=by rw [<- ah];exact a_a wr _
   obtain ⟨e0,e1,e2⟩:W1.cell? ⟨wr.heap.size,0,none⟩=some (.string s)/\W1.cell? ⟨wr.heap.size,1,none⟩=some (.int .i64 a)/\W1.cell? ⟨wr.heap.size,2,none⟩=some (.int .i64 b):=by rw [<- ah];simp [go_sem]
   replace s3:=a_g aa s3;have av:=a_h e0;have au:=a_h s3;clear ah c0 c1 R;refine rel [⟨5,28,ParR PP⟩] 7 35 (by kernel_rfl) rfl rfl (by kernel_rfl) (by rfl) ?_ ?_
   ·intro e he v W W' h hb;simp only [mem_cons,not_mem_nil,or_false] at he;subst he;exact ParR.up h hb
   apply Exists.intro;refine ⟨fun x=>?_,?_,?_⟩
   ·simp only [take_succ_cons,take_zero]
    iterate 5
     apply c_w;rfl;rfl
     ·intro F hF hf K hK hFc hFf
      go_big_quiet_op
      exact hK
     (try simp only [a_v])
    refine c_g rfl rfl ?_ ?_
    ·intro F hF hf d hFc hFf;simp [a_j,a_e,go_sem,hFc,av,au,e0,e1,e2,s3];refine (cp.out (F d) (a_c aa (hF.below _))).mono ?_;rintro e' w8 ⟨v8,rfl,h8,aw⟩;exact ⟨_,rfl,h8,aw⟩
    (try simp only [a_v])
    apply c_w;rfl;rfl
    ·intro F hF hf K hK hFc hFf
     go_big_quiet_op
     first|exact hK|(apply Exists.intro;refine ⟨fun _=>?_,?_⟩;(· exact hF.same (cG.out _ _ (hf _ mS (by rfl) _)));exact hK)
    (try simp only [a_v])
    refine b_A ?_;exact rfl
   ·exact fun x=>rfl
   ·intro w9 xs an hf;simp only [drop_succ_cons,drop_zero];have ak:Hid _:=a_c HB (a_c aa an);clear hf an e0 e1 e2 s3 cp cG;cases qq with
    | true=>
     have e:r=true:=by rw [<- HR.out];unfold d_7;rw [h_5 (HN.trans HP.out) (show k+1<=ls.length by rw [O.2.1.1];exact ae)];simp
     subst e;clear cF cc;go_wp2;go_ret;exact ⟨rfl,a_c H ak⟩
    | false=>
     have ar:Hid _:=HN.trans HP.out;clear HN HP;go_wp2;go_roundg (E - (k+1))
     case measure=>omega
     case rel=>exact ⟨k+1,by omega,rfl,by first|rfl|simp,ar,ak⟩
  ·obtain rfl:k=E:=by omega
   have g0:=a_g HB HG.1;have g1:=a_g HB HG.2;go_wp2_with fail
   refine (cc.out wr (a_c H HB)).mono ?_;rintro e w2 ⟨rfl,aj⟩;obtain ⟨cn,ad⟩:∃ cn,b_Q ls S ls.length=cn:=⟨_,rfl⟩
   have HC:Hid (decide (4096 < cn)=r):=by
    show _=_;rw [<- HR.out,<- ad];unfold d_7;rw [HQ.out,O.2.1.1,Hx.out,decide_eq_false al];rfl
   have ap:Hid _:=a_c (a_c H HB) aj;rw [ad];clear ad cF cc aj;go_wp2;go_ret;rw [<- HC.out];exact ⟨rfl,ap⟩
/-- A slice's type by its elements' cells and bytes. -/
structure GT (P:Program) (t e:TypeId) (s b:Nat):Prop where
 ht:P.underlying t=some (.slice e)
 hi:(P.info? e).map (fun i=>(i.zero.map fun z=>z.cells.size,i.size,i.bytes))=some (some s,s,b)
/-- append of one element that a literal holds, behind a row of the call's own. -/
theorem a_6 {P:Program} {t e:TypeId} {s b:Nat} (T:GT P t e s b) (hb:b<=256) (Z:0 < s) {ops:Array Oper} {rest:List Oper} {o:Oper} {a:Act} {Q:Exit->Act->World->Prop} {w:World} (O:o.guard=none) (R x:Operand)
  (ho:o.op = .call { callee:=.builtin .append,args:=#[R,x],argTypes:=#[t,t] }) (B:Nat) (v:Value) (n:Nat) (xs:List Value) (hs:a.eval R=v) (A:w.ownsRow B e s v n xs) (g:Nat) (u:List Value) (hx:a.eval x = .slice (some ⟨g,0,none⟩) 1 1)
  (hg:w.heap[g]?=some (.cells u.toArray e (0,0))) (hu:u.length=s) (h1:∀ y∈u,y.oneCell'=true) (hn:n+1<=1073741825) (hB:B<=w.heap.size)
  (h:∀ L H,Hid (H.ownsRow B e s L (n+1) (xs++u))->Hid (Only [e] w H)->Hid (∀ w0,Below B w0 w->Below B w0 H)->wpList P ops Q rest (a.put o.dst L) H):wpList P ops Q (o :: rest) a w:=by
 have I:=T.hi;cases V:P.info? e with
 | none=>rw [V] at I;cases I
 | some i=>
  rw [V] at I;simp only [Option.map_some,Option.some.injEq,Prod.mk.injEq] at I;obtain ⟨J,ad,ac⟩:=I;cases E:i.zero with
  | none=>rw [E] at J;cases J
  | some z=>
   rw [E] at J;simp only [Option.map_some,Option.some.injEq] at J;have hm:=Nat.mul_le_mul hn hb
   refine wpList_append_own w O R x t ho B e i z s b T.ht V E ad ac J Z v n xs hs A ⟨g,0,none⟩ 1 1 u hx (by omega) (fun j y hj=>by
    rw [a_r,Nat.zero_add];unfold cell?;simpa [hg] using hj) h1 (by unfold maxLen;omega) (by omega) hB ?_
   intro L H h2 h3 _;have ab:∀ k,v.ownBlock=some k->B<=k:=fun k M=>(ownsRow.lt A k M).1;refine h L H h2 (Only.grown h3 fun k M=>?_) fun w0 aa=>Below.grown aa h3 hB ab;rcases A.2 with ⟨rfl,_⟩|⟨g',ae,af,rfl,_,hc,_⟩
   ·cases M
   ·cases M;exact ⟨_,_,_,hc,by simp⟩
theorem OwnS.push {W W':World} {B:Nat} {E:Value} {S:List (List Int)} {a:Option Addr} {b c:Nat} {o:List Int} {vs:List Value} (h:W'.ownsRow B 22 1 E (S.length+1) (vs++[.slice a b c])) (O:vs.length=S.length) (M:∀ i,i < S.length->∃ a b c,vs[i]?=some (.slice a b c)/\OwnK .i64 3 W B (.slice a b c) (shA S i)) (J:OwnK .i64 3 W B (.slice a b c) o) (H:Only [22] W W'):OwnS W' B E (S++[o]):=by
 refine ⟨vs++[.slice a b c],by rw [length_append];exact h,fun i I=>?_⟩;simp only [length_append,length_cons,length_nil] at I;rcases Nat.lt_or_ge i S.length with A|A
 ·obtain ⟨a,b,c,e,L⟩:=M i A;rw [e_c _ A];exact ⟨a,b,c,by rw [getElem?_append_left (by omega)];exact e,L.only H (by decide)⟩
 ·obtain rfl:i=S.length:=by omega
  rw [f_w S o _ rfl];exact ⟨a,b,c,by rw [getElem?_append_right (by omega),O];simp,J.only H (by decide)⟩
theorem shT:GT Tryz.prog 28 22 1 24:=⟨Tryz.underlying28,by kernel_rfl⟩
def OutV (x:Option (List Int)) (B:Nat) (v:Value) (W:World):Prop:=match x with
 | none=>v = .slice none 0 0
 | some o=>∃ p n c,v = .slice p n c/\OwnK .i64 3 W B (.slice p n c) o
theorem OutV.up {x:Option (List Int)} {B:Nat} {v:Value} {W W':World} (h:OutV x B v W) (A:Bw W W'):OutV x B v W':=by
 cases x with
 | none=>exact h
 | some o=>
  obtain ⟨p,n,c,e,h⟩:=h;exact ⟨p,n,c,e,h.up A⟩
theorem OutR.tup {x:Option (List Int)} {B:Nat} {v:Value} {W:World} (h:OutR x B v W):∃ u,v = .tuple #[u,.bool x.isSome]/\OutV x B u W:=by
 cases x with
 | none=>exact ⟨_,h,rfl⟩
 | some o=>
  obtain ⟨p,n,c,e,h⟩:=h;exact ⟨_,e,p,n,c,rfl,h⟩
theorem OutR.low {x:Option (List Int)} {B A:Nat} {v:Value} {W:World} (h:OutR x B v W) (E:A<=B):OutR x A v W:=by
 cases x with
 | none=>exact h
 | some o=>
  obtain ⟨p,n,c,e,h⟩:=h;exact ⟨p,n,c,e,h.low E⟩
def u_G (x:Option (List (List Int))) (B:Nat) (v:Value) (W:World):Prop:=match x with
 | none=>v = .tuple #[.slice none 0 0,.bool false]
 | some S=>∃ u,v = .tuple #[u,.bool true]/\OwnS W B u S
theorem h_6 (p p2:Option Addr) (n c I c2:Nat) (d:List Int) (ls:List Ly) (hf:b_O d ls=true) (aV:I<=1073741823) (w:World) (h1:Nums .i64 w (.slice p n c) d) (hL:LyR 0 w p2 I ls):
  Calls Tryz.prog 36 #[.agg #[.slice p n c,.slice p2 I c2]] w fun e w'=>∃ v',e = .returned v'/\u_G (shN d ls ls.length) w.heap.size v' w'/\Bw w w':=by
 haveI:Nonempty World:=⟨w⟩
 obtain ⟨r,er⟩:∃ r,shN d ls ls.length=r:=⟨_,rfl⟩
 obtain ⟨hd,aN⟩:=(b_a d ls).1 hf;have HK:Hid (shN d ls ls.length=r/\LyR 0 w p2 I ls/\InOk d/\∀ l∈ls,a_L l):=⟨er,hL,hd,aN⟩
 have cI:Hid (∀ W,Bw w W->Calls Tryz.prog 46 #[.slice p n c] W fun e w'=>∃ v',e = .returned v'/\OwnK .i64 3 w' W.heap.size v' d/\Bw W w'):=fun W hW=>c_m _ d (by have:=hd.smal.1;omega) W (h1.up hW);rw [er];clear er hd aN hf h1 hL;go_enter Tryz.func36,Tryz.ntmps36;go_wp2_with fail
 generalize az:alloc _ _=W0;have aq:Hid (Bw w W0):=by rw [<- az];exact a_a w _
 have aF:Hid (W0.heap[w.heap.size]?=some (.cells #[.slice p n c,.slice p2 I c2] 25 (0,0))/\w.heap.size < W0.heap.size):=by
  show _/\_;rw [<- az];exact ⟨Array.getElem?_push_size,by simp⟩
 clear az;refine (cI.out W0 aq).mono ?_;rintro e w1 ⟨v1,rfl,ay,aB⟩;obtain ⟨pa,na,ca,rfl,_⟩:=ay.nums.lst;have aH:Hid (w1.heap[w.heap.size]?=some (.cells #[.slice p n c,.slice p2 I c2] 25 (0,0))):=(aB.block _ aF.2).trans aF.1;have ar:Hid (OwnK .i64 3 w1 w.heap.size (.slice pa na ca) d/\Bw w w1):=⟨ay.low aq.size,a_c aq aB⟩
 clear ay aB cI aq aF;have g1:w1.cell? ⟨w.heap.size,1,none⟩=some (.slice p2 I c2):=by unfold cell?;rw [aH.out];rfl
 have al:=a_h g1;go_wp2_with fail
 generalize av:alloc _ _=W2
 have aT:Hid (W2.heap[w.heap.size]?=some (.cells #[.slice p n c,.slice p2 I c2] 25 (0,0))):=by
  show _=_;rw [<- av];exact ((a_a w1 _).block _ al).trans aH.out
 have aU:Hid (OwnS W2 w.heap.size (.slice (some ⟨w1.heap.size,0,none⟩) 1 1) [d]/\Bw w W2):=by
  show _/\_;have hb:Bw w1 W2:=by rw [<- av];exact a_a w1 _
  refine ⟨⟨[.slice pa na ca],⟨rfl,.inr ⟨w1.heap.size,1,#[.slice pa na ca],rfl,ar.2.size,?_,Nat.le_refl _,by unfold maxLen;omega,rfl,rfl⟩⟩,fun i hi=>?_⟩,a_c ar.2 hb⟩
  ·rw [<- av];exact Array.getElem?_push_size
  ·obtain rfl:i=0:=by simp at hi;omega
   exact ⟨_,_,_,rfl,ar.1.up hb⟩
 clear av g1 ar aH al
 go_loopg [4,16] I (fun gg u v wr=>∃ (k:Nat) (S:List (List Int)),k<=I/\gg=I - k/\v = .int .i64 (k:Int)/\Hid (OwnS wr w.heap.size u S/\Bw w wr)/\Hid (shN d ls k=some S)/\Hid (wr.heap[w.heap.size]?=some (.cells #[.slice p n c,.slice p2 I c2] 25 (0,0))))
 case atStart=>exact ⟨0,[d],by omega,by omega,rfl,aU,rfl,aT⟩
 case round=>
  obtain ⟨k,S,hk,hg,rfl,HO,HS,HX⟩:=hrel;obtain ⟨ps,cs,rfl,aI⟩:=HO.1.rd;have aP:=c_N HS.out;obtain ⟨sl,aw⟩:∃ sl,S.length=sl:=⟨_,rfl⟩
  rw [aw] at aI aP HO ⊢;have aj:Hid (RdS wr ps sl S):=aI;have au:Hid (S.length=sl):=aw;subst aP;clear aw aI;by_cases aD:k < I
  ·have aX:(k:Int) < (I:Int):=by omega
   have aW:(k:Int) < ((k+1:Nat):Int):=by omega
   have ap:k < ls.length:=by rw [HK.2.1.1];exact aD
   obtain ⟨q,o,rfl,y0,y1,y2⟩:=(HK.2.1.up HO.2).2 k aD;have hl:=HK.2.2.2 _ (d_p ap);have aC:=e_y HK.2.2.1 HK.2.2.2 (show k<=ls.length by omega) HS.out;obtain ⟨l,el⟩:∃ l,lyA ls k=l:=⟨_,rfl⟩
   have aS:Hid (lyA ls k=l):=el;rw [el] at y0 y1 y2 hl;obtain ⟨s,a,b⟩:=l;simp only [] at y0 y1 y2;have aY:=a_h y0;have g1:wr.cell? ⟨w.heap.size,1,none⟩=some (.slice (some ⟨q,o,none⟩) I c2):=by unfold cell?;rw [HX.out];rfl
   have al:=a_h g1;have HN:Hid (∀ x,shN d ls (k+1)=x->f_H ls k S=x):=fun x hx=>(a_H HS.out).symm.trans hx;have ac:Hid (f_H ls k S=if s=d_5/\¬ c_G ls S k then none else (c_S (s,a,b) (shA S k)).map fun o=>S++[o]):=by show _=_;unfold f_H;rw [aS.out]
   have cO:Hid (∀ W a3 b3 d3,Nums .i64 W (.slice a3 b3 d3) (shA S k)->Calls Tryz.prog 58 #[.agg #[.string s,.int .i64 a,.int .i64 b],.slice a3 b3 d3] W fun e w'=>∃ v',e = .returned v'/\OutR (c_S (s,a,b) (shA S k)) W.heap.size v' w'/\Bw W w'):=fun W a3 b3 d3 hv=>m_i s a b _ hl (aC k (by omega)) a3 b3 d3 W hv;have cK:Hid (∀ W,Bw wr W->Calls Tryz.prog 57 #[.slice (some ⟨q,o,none⟩) I c2,.slice ps (k+1) cs,.int .i64 (k:Int)] W fun e w'=>e = .returned (.bool (decide (c_G ls S k)))/\∃ m,w'=W.drewN m):=fun W hW=>i_5 _ ps I c2 (k+1) cs ls S k (by omega) aD (by omega) (fun j hj=>(aC j hj).smal.1) W ((HK.2.1.up HO.2).up hW) (aj.out.up hW);obtain ⟨xo,aO⟩:∃ xo,c_S (s,a,b) (shA S k)=xo:=⟨_,rfl⟩
   rw [aO] at cO ac;obtain ⟨-,-,-,-,t4⟩:=kts s;clear hl aC el aO;by_cases ae:a_m s=4
   ·replace t4:=t4.trans (decide_eq_true ae);go_wp2_with fail
    generalize ag:alloc _ _=W3;have ax:Hid (Bw wr W3):=by rw [<- ag];exact a_a wr _
    obtain ⟨e0,e1,e2⟩:W3.cell? ⟨wr.heap.size,0,none⟩=some (.string s)/\W3.cell? ⟨wr.heap.size,1,none⟩=some (.int .i64 a)/\W3.cell? ⟨wr.heap.size,2,none⟩=some (.int .i64 b):=by rw [<- ag];simp [go_sem]
    clear ag;refine (cK.out W3 ax).mono ?_;rintro e w4 ⟨rfl,m,am⟩;have Z:Hid (Bw wr w4):=by rw [am];exact a_i ax _
    replace e0:w4.cell? ⟨wr.heap.size,0,none⟩=some (.string s):=by rw [am];exact e0
    replace e1:w4.cell? ⟨wr.heap.size,1,none⟩=some (.int .i64 a):=by rw [am];exact e1
    replace e2:w4.cell? ⟨wr.heap.size,2,none⟩=some (.int .i64 b):=by rw [am];exact e2
    clear am ax;by_cases ah:c_G ls S k
    ·rw [decide_eq_true ah];have aQ:Hid (c_G ls S k):=ah;clear ah ae;obtain ⟨q3,o3,a3,b3,d3,rfl,s3,ak⟩:=aj.2 k (by omega);have m3:Hid (Nums .i64 wr (.slice a3 b3 d3) (shA S k)):=ak;replace s3:=a_g Z s3;have aJ:=a_h e0;have aA:=a_h s3;clear ak y0 y1 y2 g1;go_wp2;refine q_G [⟨5,38,OutR xo w.heap.size⟩,⟨6,32,OutR xo w.heap.size⟩,⟨7,39,OutV xo w.heap.size⟩] 9 49 (by kernel_rfl) rfl rfl 8 _ rfl (by decide) rfl (by kernel_rfl) (by kernel_rfl) (fun _ _ _ _ h=>h) (by rfl) ?_ ?_
     ·exact upC (fun _ _ _=>OutR.up) (upC (fun _ _ _=>OutR.up) (upC (fun _ _ _=>OutV.up) upN))
     apply Exists.intro;refine ⟨?yl1,?wk1,?pk1,?rest1⟩
     case wk1=>
      intro x;simp only [take_succ_cons,take_zero]
      iterate 5
       apply c_w;rfl;rfl
       ·intro F hF hf K hK hFc hFf
        go_big_quiet_op
        exact hK
       (try simp only [a_v])
      refine c_g rfl rfl ?_ ?_
      ·intro F hF hf d hFc hFf;simp [a_j,a_e,go_sem,hFc,aJ,aA,e0,e1,e2,s3];have R:=a_c Z (hF.below d);refine (cO.out (F d) a3 b3 d3 (m3.out.up R)).mono ?_;rintro e' w8 ⟨v8,rfl,h8,aM⟩;exact ⟨_,rfl,h8.low (Nat.le_trans HO.2.size R.size),aM⟩
      (try simp only [a_v])
      refine c_g rfl rfl ?_ ?_
      ·intro F hF hf d hFc hFf;simp [a_j,a_e,go_sem];exact ⟨hf _ mS (by rfl) d,Below.refl _ _⟩
      (try simp only [a_v])
      refine c_g rfl rfl ?_ ?_
      ·intro F hF hf d hFc hFf;obtain ⟨u9,e9,h9⟩:=(hf _ (mC mS) (by rfl) d).tup;simp only [] at e9;simp [a_j,a_e,go_sem,e9];exact ⟨h9,Below.refl _ _⟩
      (try simp only [a_v])
      apply c_w;rfl;rfl
      ·intro F hF hf K hK hFc hFf;obtain ⟨u9,e9,-⟩:=(hf _ (mC mS) (by rfl) w).tup;simp only [] at e9;rw [e9] at hK ⊢
       go_big_quiet_op
       exact hK
      (try simp only [a_v])
      refine b_A ?_;exact rfl
     case pk1=>
      intro x;simp only [b_q,foldl_cons,foldl_nil,a_v]
     case yl1=>
      intro x hx;obtain ⟨W9,h9⟩:=hx _ (mC mS) (by rfl);obtain ⟨u9,e9,-⟩:=OutR.tup h9;simp only [] at e9;refine ⟨.bool xo.isSome,fun t ht=>?_,.inl ⟨by rfl,fun w=>?_⟩⟩
      ·cases ht;rfl
      ·simp [execOp,Act.eval,e9,go_sem]
     intro E xs R hf;simp only [drop_succ_cons,drop_zero];have h7:=hf _ (mC (mC mS));simp only [] at h7;have H:=a_c Z R;have O:Hid (OwnS E w.heap.size (.slice (some ⟨q3,o3,none⟩) (k+1) cs) S/\Bw w E):=⟨HO.1.up H,a_c HO.2 H⟩
     have af:Hid (E.heap[w.heap.size]?=some (.cells #[.slice p n c,.slice (some ⟨q,o,none⟩) I c2] 25 (0,0))):=(H.block _ al).trans HX.out;clear hf R H e0 e1 e2 s3 m3 cO cK Z;cases xo with
     | none=>
      have er:r=none:=by
       rw [<- HK.1];refine b_k (i:=k+1) ?_ ap;rw [a_H HS.out,ac.out]
       (try (split <;> rfl))
      subst er;obtain ⟨v7,e7⟩:∃ v7,xs 7=v7:=⟨_,rfl⟩
      rw [e7];clear h7 e7;go_wp2;go_ret2;exact ⟨_,rfl,rfl,O.2⟩
     | some oo=>
      obtain ⟨M,J,L,e7,h7⟩:=h7;rw [e7]
      have aE:Hid (shN d ls (k+1)=some (S++[oo])):=by
       show _=_;rw [a_H HS.out,ac.out,if_neg fun h=>h.2 aQ.out];rfl
      obtain ⟨vs,ad,ao⟩:=O.1;have ai:vs.length=S.length:=by have:=ad.1;omega
      have HV:Hid (OwnK .i64 3 E w.heap.size (.slice M J L) oo/\E.ownsRow w.heap.size 22 1 (.slice (some ⟨q3,o3,none⟩) (k+1) cs) (k+1) vs/\vs.length=S.length/\∀ i,i < S.length->∃ a b c,vs[i]?=some (.slice a b c)/\OwnK .i64 3 E w.heap.size (.slice a b c) (shA S i)):=⟨h7,by rw [au.out] at ad;exact ad,ai,ao⟩
      have aG:k+1+1<=1073741825:=by omega
      clear h7 e7 ad ao ai ac HN;have H5:Hid ((E.alloc (.cells #[.slice M J L] 22)).ownsRow w.heap.size 22 1 (.slice (some ⟨q3,o3,none⟩) (k+1) cs) (k+1) vs):=a_z (S:=[]) HV.2.1 (Only.of (a_a E _)) (by simp);have H6:Hid ((E.alloc (.cells #[.slice M J L] 22)).heap[E.heap.size]?=some (.cells [.slice M J L].toArray 22 (0,0))):=Array.getElem?_push_size;have H7:Hid (∀ y∈[Value.slice M J L],y.oneCell'=true):=fun y hy=>by simp at hy;subst hy;rfl
      have H8:Hid (w.heap.size<=(E.alloc (.cells #[.slice M J L] 22)).heap.size):=by show _<=_;have:=O.2.size;simp;omega
      have H9:Hid (∀ v0 V,V.ownsRow w.heap.size 22 1 v0 (k+1+1) (vs++[.slice M J L])->Only [22] (E.alloc (.cells #[.slice M J L] 22)) V->(∀ w',Below w.heap.size w' (E.alloc (.cells #[.slice M J L] 22))->Below w.heap.size w' V)->(OwnS V w.heap.size v0 (S++[oo])/\Bw w V)/\V.heap[w.heap.size]?=some (.cells #[.slice p n c,.slice (some ⟨q,o,none⟩) I c2] 25 (0,0))):=fun v0 V g1 g2 g3=>by
       have hb:=a_a E (.cells #[.slice M J L] 22);refine ⟨⟨OwnS.push (W:=E.alloc (.cells #[.slice M J L] 22)) (vs:=vs) (by rw [au.out];exact g1) HV.2.2.1 (fun i hi=>?_) (HV.1.up hb) g2,g3 w (a_c O.2 hb)⟩,g2.keep ((hb.block _ (a_k af.out)).trans af.out) (by decide)⟩;obtain ⟨a',b',c',e',h'⟩:=HV.2.2.2 i hi;exact ⟨a',b',c',e',h'.up hb⟩
      clear HV O af aj HO HX;go_wp2_with (at_builtin;refine a_6 shT (by decide) (by decide) rfl (.tmp 43) (.tmp 45) rfl w.heap.size _ (k+1) vs rfl H5.out _ [.slice M J L] rfl H6.out rfl H7.out aG H8.out ?_;intro v0 V H0 O0 B0)
      obtain ⟨hA,hX⟩:=H9.out v0 V H0.out O0.out B0.out;have HA:Hid (OwnS V w.heap.size v0 (S++[oo])/\Bw w V):=hA;have aL:Hid (V.heap[w.heap.size]?=some (.cells #[.slice p n c,.slice (some ⟨q,o,none⟩) I c2] 25 (0,0))):=hX;clear hA hX H0 O0 B0 H5 H6 H7 H8 H9;go_wp2;go_roundg (I - (k+1))
      case measure=>omega
      case rel=>exact ⟨k+1,S++[oo],by omega,rfl,by first|rfl|simp,HA,aE,aL⟩
    ·rw [decide_eq_false ah]
     have er:r=none:=by
      rw [<- HK.1];refine b_k (i:=k+1) ?_ ap;rw [a_H HS.out,ac.out,if_pos ⟨(d_a s).2 ae,ah⟩]
     subst er;clear ah ae cO cK ac HN;go_wp2;go_ret2;exact ⟨_,rfl,rfl,a_c HO.2 Z⟩
   ·replace t4:=t4.trans (decide_eq_false ae);have aR:Hid (¬ s=d_5):=fun h=>ae ((d_a s).1 h);clear ae;obtain ⟨q3,o3,a3,b3,d3,rfl,s3,ak⟩:=aj.2 k (by omega);have m3:Hid (Nums .i64 wr (.slice a3 b3 d3) (shA S k)):=ak;clear ak g1;go_wp2;generalize ag:alloc _ _=W3;have Z:Hid (Bw wr W3):=by rw [<- ag];exact a_a wr _
    obtain ⟨e0,e1,e2⟩:W3.cell? ⟨wr.heap.size,0,none⟩=some (.string s)/\W3.cell? ⟨wr.heap.size,1,none⟩=some (.int .i64 a)/\W3.cell? ⟨wr.heap.size,2,none⟩=some (.int .i64 b):=by rw [<- ag];simp [go_sem]
    replace s3:=a_g Z s3;have aJ:=a_h e0;have aA:=a_h s3;clear ag y0 y1 y2;refine q_G [⟨5,38,OutR xo w.heap.size⟩,⟨6,32,OutR xo w.heap.size⟩,⟨7,39,OutV xo w.heap.size⟩] 9 49 (by kernel_rfl) rfl rfl 8 _ rfl (by decide) rfl (by kernel_rfl) (by kernel_rfl) (fun _ _ _ _ h=>h) (by rfl) ?_ ?_
    ·exact upC (fun _ _ _=>OutR.up) (upC (fun _ _ _=>OutR.up) (upC (fun _ _ _=>OutV.up) upN))
    apply Exists.intro;refine ⟨?yl2,?wk2,?pk2,?rest2⟩
    case wk2=>
     intro x;simp only [take_succ_cons,take_zero]
     iterate 5
      apply c_w;rfl;rfl
      ·intro F hF hf K hK hFc hFf
       go_big_quiet_op
       exact hK
      (try simp only [a_v])
     refine c_g rfl rfl ?_ ?_
     ·intro F hF hf d hFc hFf;simp [a_j,a_e,go_sem,hFc,aJ,aA,e0,e1,e2,s3];have R:=a_c Z (hF.below d);refine (cO.out (F d) a3 b3 d3 (m3.out.up R)).mono ?_;rintro e' w8 ⟨v8,rfl,h8,aM⟩;exact ⟨_,rfl,h8.low (Nat.le_trans HO.2.size R.size),aM⟩
     (try simp only [a_v])
     refine c_g rfl rfl ?_ ?_
     ·intro F hF hf d hFc hFf;simp [a_j,a_e,go_sem];exact ⟨hf _ mS (by rfl) d,Below.refl _ _⟩
     (try simp only [a_v])
     refine c_g rfl rfl ?_ ?_
     ·intro F hF hf d hFc hFf;obtain ⟨u9,e9,h9⟩:=(hf _ (mC mS) (by rfl) d).tup;simp only [] at e9;simp [a_j,a_e,go_sem,e9];exact ⟨h9,Below.refl _ _⟩
     (try simp only [a_v])
     apply c_w;rfl;rfl
     ·intro F hF hf K hK hFc hFf;obtain ⟨u9,e9,-⟩:=(hf _ (mC mS) (by rfl) w).tup;simp only [] at e9;rw [e9] at hK ⊢
      go_big_quiet_op
      exact hK
     (try simp only [a_v])
     refine b_A ?_;exact rfl
    case pk2=>
     intro x;simp only [b_q,foldl_cons,foldl_nil,a_v]
    case yl2=>
     intro x hx;obtain ⟨W9,h9⟩:=hx _ (mC mS) (by rfl);obtain ⟨u9,e9,-⟩:=OutR.tup h9;simp only [] at e9;refine ⟨.bool xo.isSome,fun t ht=>?_,.inl ⟨by rfl,fun w=>?_⟩⟩
     ·cases ht;rfl
     ·simp [execOp,Act.eval,e9,go_sem]
    intro E xs R hf;simp only [drop_succ_cons,drop_zero];have h7:=hf _ (mC (mC mS));simp only [] at h7;have H:=a_c Z R;have O:Hid (OwnS E w.heap.size (.slice (some ⟨q3,o3,none⟩) (k+1) cs) S/\Bw w E):=⟨HO.1.up H,a_c HO.2 H⟩
    have af:Hid (E.heap[w.heap.size]?=some (.cells #[.slice p n c,.slice (some ⟨q,o,none⟩) I c2] 25 (0,0))):=(H.block _ al).trans HX.out;clear hf R H e0 e1 e2 s3 m3 cO cK Z;cases xo with
    | none=>
     have er:r=none:=by
      rw [<- HK.1];refine b_k (i:=k+1) ?_ ap;rw [a_H HS.out,ac.out]
      (try (split <;> rfl))
     subst er;obtain ⟨v7,e7⟩:∃ v7,xs 7=v7:=⟨_,rfl⟩
     rw [e7];clear h7 e7;go_wp2;go_ret2;exact ⟨_,rfl,rfl,O.2⟩
    | some oo=>
     obtain ⟨M,J,L,e7,h7⟩:=h7;rw [e7]
     have aE:Hid (shN d ls (k+1)=some (S++[oo])):=by
      show _=_;rw [a_H HS.out,ac.out,if_neg fun h=>aR.out h.1];rfl
     obtain ⟨vs,ad,ao⟩:=O.1;have ai:vs.length=S.length:=by have:=ad.1;omega
     have HV:Hid (OwnK .i64 3 E w.heap.size (.slice M J L) oo/\E.ownsRow w.heap.size 22 1 (.slice (some ⟨q3,o3,none⟩) (k+1) cs) (k+1) vs/\vs.length=S.length/\∀ i,i < S.length->∃ a b c,vs[i]?=some (.slice a b c)/\OwnK .i64 3 E w.heap.size (.slice a b c) (shA S i)):=⟨h7,by rw [au.out] at ad;exact ad,ai,ao⟩
     have aG:k+1+1<=1073741825:=by omega
     clear h7 e7 ad ao ai ac HN;have H5:Hid ((E.alloc (.cells #[.slice M J L] 22)).ownsRow w.heap.size 22 1 (.slice (some ⟨q3,o3,none⟩) (k+1) cs) (k+1) vs):=a_z (S:=[]) HV.2.1 (Only.of (a_a E _)) (by simp);have H6:Hid ((E.alloc (.cells #[.slice M J L] 22)).heap[E.heap.size]?=some (.cells [.slice M J L].toArray 22 (0,0))):=Array.getElem?_push_size;have H7:Hid (∀ y∈[Value.slice M J L],y.oneCell'=true):=fun y hy=>by simp at hy;subst hy;rfl
     have H8:Hid (w.heap.size<=(E.alloc (.cells #[.slice M J L] 22)).heap.size):=by show _<=_;have:=O.2.size;simp;omega
     have H9:Hid (∀ v0 V,V.ownsRow w.heap.size 22 1 v0 (k+1+1) (vs++[.slice M J L])->Only [22] (E.alloc (.cells #[.slice M J L] 22)) V->(∀ w',Below w.heap.size w' (E.alloc (.cells #[.slice M J L] 22))->Below w.heap.size w' V)->(OwnS V w.heap.size v0 (S++[oo])/\Bw w V)/\V.heap[w.heap.size]?=some (.cells #[.slice p n c,.slice (some ⟨q,o,none⟩) I c2] 25 (0,0))):=fun v0 V g1 g2 g3=>by
      have hb:=a_a E (.cells #[.slice M J L] 22);refine ⟨⟨OwnS.push (W:=E.alloc (.cells #[.slice M J L] 22)) (vs:=vs) (by rw [au.out];exact g1) HV.2.2.1 (fun i hi=>?_) (HV.1.up hb) g2,g3 w (a_c O.2 hb)⟩,g2.keep ((hb.block _ (a_k af.out)).trans af.out) (by decide)⟩;obtain ⟨a',b',c',e',h'⟩:=HV.2.2.2 i hi;exact ⟨a',b',c',e',h'.up hb⟩
     clear HV O af aj HO HX;go_wp2_with (at_builtin;refine a_6 shT (by decide) (by decide) rfl (.tmp 43) (.tmp 45) rfl w.heap.size _ (k+1) vs rfl H5.out _ [.slice M J L] rfl H6.out rfl H7.out aG H8.out ?_;intro v0 V H0 O0 B0)
     obtain ⟨hA,hX⟩:=H9.out v0 V H0.out O0.out B0.out;have HA:Hid _:=hA;have aL:Hid _:=hX;clear hA hX H0 O0 B0 H5 H6 H7 H8 H9;go_wp2;go_roundg (I - (k+1))
     case measure=>omega
     case rel=>exact ⟨k+1,S++[oo],by omega,rfl,by first|rfl|simp,HA,aE,aL⟩
  ·obtain rfl:k=I:=by omega
   have er:r=some S:=by rw [<- HK.1,HK.2.1.1];exact HS.out
   subst er;go_wp2;go_ret2;exact ⟨_,rfl,⟨_,rfl,by have:=HO.1;exact this⟩,HO.2⟩
theorem d_V (p p2:Option Addr) (n c R c2:Nat) (d:List Int) (ls:List Ly) (ai:R<=1073741823) (w:World) (hK:Hid (Kz w)) (h1:Nums .i64 w (.slice p n c) d) (hL:LyR 0 w p2 R ls):
  Calls Tryz.prog 22 #[.agg #[.slice p n c,.slice p2 R c2]] w fun e w'=>∃ ps cs,e = .returned (.tuple #[.slice ps (nS d ls).length cs,.int .i64 (nE d ls)])/\OwnS w' w.heap.size (.slice ps (nS d ls).length cs) (nS d ls)/\Bw w w':=by
 obtain ⟨E,eE⟩:∃ E,nE d ls=E:=⟨_,rfl⟩
 obtain ⟨SS,eS⟩:∃ S,nS d ls=S:=⟨_,rfl⟩
 have J:Hid (nE d ls=E/\nS d ls=SS):=⟨eE,eS⟩
 rw [eE,eS];clear eE eS;obtain ⟨fb,ad⟩:∃ f,b_O d ls=f:=⟨_,rfl⟩
 have cN:Hid (∀ W,Bw w W->Calls Tryz.prog 35 #[.agg #[.slice p n c,.slice p2 R c2]] W fun e w'=>e = .returned (.bool fb)/\Bw W w'):=fun W hW=>by
  rw [<- ad];exact g_y p p2 n c R c2 d ls (by omega) W (Hid.up_kz hK hW) (h1.up hW) (hL.up hW)
 have HF:Hid _:=ad;have HA:Hid (Nums .i64 w (.slice p n c) d/\LyR 0 w p2 R ls):=⟨h1,hL⟩
 clear ad h1 hL;go_enter Tryz.func22,Tryz.ntmps22;go_wp2_with fail
 generalize ab:alloc _ _=W0;have af:Hid (Bw w W0):=by rw [<- ab];exact a_a w _
 obtain ⟨g0,g1⟩:W0.cell? ⟨w.heap.size,0,none⟩=some (.slice p n c)/\W0.cell? ⟨w.heap.size,1,none⟩=some (.slice p2 R c2):=by rw [<- ab];simp [go_sem]
 clear ab;refine (cN.out W0 af).mono ?_;rintro e w1 ⟨rfl,V⟩;have H:Hid _:=a_c af V;replace g0:=a_g V g0;replace g1:=a_g V g1;clear V cN af;cases fb with
 | false=>
  have L:E=1:=by rw [<- J.1];exact l_G (by rw [HF.out];simp)
  have e2:SS = []:=by rw [<- J.2];exact (h_P (by rw [J.1,L];decide)).1
  subst L e2;go_wp2;go_ret2;exact ⟨_,_,rfl,OwnS.nil _ _,H⟩
 | true=>
 go_wp2_with fail
 refine (h_6 p p2 n c R c2 d ls HF.out ai w1 (HA.1.up H) (HA.2.up H)).mono ?_;rintro e w2 ⟨v2,rfl,O,I⟩;have ac:Hid _:=a_c H I;replace g0:=a_g I g0;replace g1:=a_g I g1;obtain ⟨x,ex⟩:∃ x,shN d ls ls.length=x:=⟨_,rfl⟩
 rw [ex] at O;cases x with
 | none=>
  have L:E=4:=by rw [<- J.1];exact d_q HF.out ex
  have e2:SS = []:=by rw [<- J.2];exact (h_P (by rw [J.1,L];decide)).1
  have hr:=O;subst L e2 hr;clear O ex I;go_wp2;go_ret2;exact ⟨_,_,rfl,OwnS.nil _ _,ac⟩
 | some S=>
  obtain ⟨u,rfl,Z⟩:=O;obtain ⟨ps,cs,rfl,aa⟩:=Z.rd;obtain ⟨sl,M⟩:∃ sl,S.length=sl:=⟨_,rfl⟩
  rw [M] at aa Z ⊢;have HS:Hid (OwnS w2 w.heap.size (.slice ps sl cs) S/\S.length=sl):=⟨Z.low H.size,M⟩
  obtain ⟨aj,ah⟩:=(b_a d ls).1 HF.out;have cT:=i_6 p p2 ps n c R c2 sl cs d ls S (NetOk.of HF.out ex) (fun k hk=>e_y aj ah (Nat.le_refl _) ex k (by rw [<- c_N ex,M];exact hk)) (by omega) w2 (HA.2.up ac) aa;obtain ⟨q,eq⟩:∃ q,d_7 ls S=q:=⟨_,rfl⟩
  rw [eq] at cT;have HQ:Hid (d_7 ls S=q/\shN d ls ls.length=some S):=⟨eq,ex⟩
  clear Z aa M ex I eq aj ah;go_wp2_with fail
  refine cT.mono ?_;rintro e w3 ⟨rfl,ae⟩;have ag:Hid _:=a_c ac ae;have ak:Hid _:=HS.1.up ae;clear ae cT;cases q with
  | true=>
   have L:E=2:=by rw [<- J.1];exact l_H HF.out HQ.2 HQ.1
   have e2:SS = []:=by rw [<- J.2];exact (h_P (by rw [J.1,L];decide)).1
   subst L e2;go_wp2;go_ret2;exact ⟨_,_,rfl,OwnS.nil _ _,ag⟩
  | false=>
   have h3:=h_O HF.out HQ.2 HQ.1;have L:E=0:=by rw [<- J.1];exact h3.1
   have e2:SS=S:=by rw [<- J.2];exact h3.2.1
   subst L e2;clear h3;go_wp2;go_ret2;rw [HS.2];exact ⟨_,_,rfl,ak.out,ag⟩
theorem k_6 (p R:Option Addr) (n c I Z:Nat) (d:List Int) (ls:List Ly) (ac:I<=1073741823) (w:World) (hK:Hid (Kz w)) (h1:Nums .i64 w (.slice p n c) d) (hL:LyR 0 w R I ls):
  Calls Tryz.prog 17 #[.agg #[.slice p n c,.slice R I Z]] w fun e w'=>e = .returned (.tuple #[.int .i64 (nP d ls),.int .i64 (nE d ls)])/\Bw w w':=by
 obtain ⟨E,eE⟩:∃ E,nE d ls=E:=⟨_,rfl⟩
 obtain ⟨PN,eP⟩:∃ P,nP d ls=P:=⟨_,rfl⟩
 obtain ⟨SS,eS⟩:∃ S,nS d ls=S:=⟨_,rfl⟩
 obtain ⟨sl,J⟩:∃ sl,SS.length=sl:=⟨_,rfl⟩
 have HE:Hid (nE d ls=E/\nP d ls=PN/\nS d ls=SS/\SS.length=sl):=⟨eE,eP,eS,J⟩
 have cS:Hid (∀ W,Bw w W->Calls Tryz.prog 22 #[.agg #[.slice p n c,.slice R I Z]] W fun e w'=>∃ ps cs,e = .returned (.tuple #[.slice ps sl cs,.int .i64 E])/\OwnS w' W.heap.size (.slice ps sl cs) SS/\Bw W w'):=fun W hW=>by
  have:=d_V p R n c I Z d ls ac W (Hid.up_kz hK hW) (h1.up hW) (hL.up hW);rw [eE,eS,J] at this;exact this
 have HA:Hid (LyR 0 w R I ls):=hL;rw [eE,eP];clear eE eP eS J h1 hL;go_enter Tryz.func17,Tryz.ntmps17;go_wp2_with fail
 generalize M:alloc _ _=W0;have ab:Hid (Bw w W0):=by rw [<- M];exact a_a w _
 obtain ⟨g0,g1⟩:W0.cell? ⟨w.heap.size,0,none⟩=some (.slice p n c)/\W0.cell? ⟨w.heap.size,1,none⟩=some (.slice R I Z):=by rw [<- M];simp [go_sem]
 clear M;refine (cS.out W0 ab).mono ?_;rintro e w1 ⟨ps,cs,rfl,O,H⟩;have L:Hid (Bw w w1):=a_c ab H;replace g0:=a_g H g0;replace g1:=a_g H g1;by_cases h0:E=0
 ·subst h0;obtain ⟨S,hf,hs,ht⟩:=c_H HE.1;obtain ⟨_,h4,h5⟩:=h_O hf hs ht;rw [HE.2.2.1] at h4;subst h4;obtain ⟨p',c',e',V⟩:=O.rd;cases e';have cc:=c_y p R ps n c I Z _ cs d ls SS (NetOk.of hf hs) (by omega) w1 (HA.out.up L) V;rw [<- h5,HE.2.1] at cc;clear O H hf hs ht h5 V cS;go_wp2_with fail
  refine cc.mono ?_;rintro e w2 ⟨rfl,aa⟩;have ad:Hid _:=a_c L aa;clear aa cc;go_wp2;go_ret2;exact ⟨rfl,ad⟩
 ·have ae:(E != 0)=true:=by simpa using h0
  have eP:PN=0:=by rw [<- HE.2.1];exact (h_P (by rw [HE.1];exact h0)).2
  subst eP;clear O H cS;go_wp2;go_ret2;exact ⟨rfl,L⟩
end Go.Proofs.YtkfpainpomobfaaGreatDoor.Wd
namespace Go.Proofs.YtkfpainpomobfaaGreatDoor.Wd
def f_o (b:UInt8):Bool:=b==32 || b==9 || b==10
def d_9 (r:Nat):Bool:=r==32 || r==9 || r==10
/-- One step of reading: the word under way, and those that were read. -/
def b_7 (s:ByteArray) (pos:Nat) (x:List (Nat×Nat)×Option Nat):List (Nat×Nat)×Option Nat:=
 if f_o (s.get! pos) then (match x.2 with|some a=>(x.1++[(a,pos)],none)|none=>(x.1,none)) else (match x.2 with|some a=>(x.1,some a)|none=>(x.1,some pos))
/-- The first n bytes are read. -/
def b_e (s:ByteArray):Nat->List (Nat×Nat)×Option Nat
 | 0=>([],none)
 | n+1=>b_7 s n (b_e s n)
theorem i_7 {s:ByteArray} {A:Nat} {x:List (Nat×Nat)×Option Nat} {a:Nat} (h:f_o (s.get! A)=false) (E:x.2=some a):b_7 s A x=x:=by
 obtain ⟨l,st⟩:=x;cases E;simp [b_7,h]
theorem h_7 {s:ByteArray} {n a:Nat} (A:(b_e s n).2=some a):∀ k,(∀ j,j < k->f_o (s.get! (n+j))=false)->b_e s (n+k)=b_e s n
 | 0,_=>rfl
 | k+1,h=>by
  have E:=h_7 A k fun j H=>h j (by omega);show b_7 s (n+k) (b_e s (n+k))=_;rw [i_7 (h k (by omega)) (by rw [E];exact A),E]
theorem g_P {b:UInt8} (h:128<=b.toNat):f_o b=false:=by
 unfold f_o;have A:¬ b=32:=fun e=>by rw [e] at h;exact absurd h (by decide)
 have E:¬ b=9:=fun e=>by rw [e] at h;exact absurd h (by decide)
 have H:¬ b=10:=fun e=>by rw [e] at h;exact absurd h (by decide)
 simp [A,E,H]
theorem m_j (b:UInt8):f_o b=d_9 b.toNat:=by
 have k:∀ c:UInt8,(b==c)=(b.toNat==c.toNat):=fun c=>by
  by_cases h:b=c
  ·rw [h,beq_self_eq_true,beq_self_eq_true]
  ·rw [beq_false_of_ne h,beq_false_of_ne fun e=>h (UInt8.toNat_inj.1 e)]
 show (b==32 || b==9 || b==10)=_;rw [k 32,k 9,k 10];rfl
/-- What is read of one rune: the byte itself, or bytes that are no blank. -/
theorem h_8 (s:ByteArray) (A:Nat) (h:A < s.size):(∃ k,(Utf8.decode s A).2=k+1/\A+(k+1)<=s.size/\(∀ j,j < k->128<=(s.get! (A+1+j)).toNat))/\d_9 (Utf8.decode s A).1=f_o (s.get! A):=by
 rw [Lib.decode_at,m_j];generalize e0:(s.get! A).toNat=b0;generalize I:(s.get! (A+1)).toNat=b1;generalize O:(s.get! (A+2)).toNat=b2;generalize e3:(s.get! (A+3)).toNat=b3
 have H:∀ b r:Nat,128<=b->128<=r->d_9 r=d_9 b:=fun b r Z h2=>by
  have k:∀ x:Nat,128<=x->d_9 x=false:=fun x hx=>by
   unfold d_9;have V:¬ x=32:=by omega
   have R:¬ x=9:=by omega
   have q3:¬ x=10:=by omega
   simp [V,R,q3]
  rw [k b Z,k r h2]
 have g1:∀ j,j < 1->s.get! (A+1+j)=s.get! (A+1):=fun j E=>by rw [show A+1+j=A+1 by omega]
 unfold Lib.decodeN
 split
 ·exact ⟨⟨0,rfl,by omega,fun j E=>by omega⟩,rfl⟩
 split
 ·rename_i M J
  split
  ·rename_i L
   exact ⟨⟨1,rfl,by omega,fun j E=>by rw [g1 j E,I];omega⟩,H _ _ (by omega) (by omega)⟩
  ·exact ⟨⟨0,rfl,by omega,fun j E=>by omega⟩,H _ _ (by omega) (by omega)⟩
 split
 ·rename_i M _ J
  split
  ·rename_i L
   refine ⟨⟨2,rfl,by omega,fun j E=>?_⟩,H _ _ (by omega) (by omega)⟩;rcases (show j=0∨j=1 by omega) with rfl|rfl
   ·rw [show A+1+0=A+1 by omega,I];omega
   ·rw [show A+1+1=A+2 by omega,O];omega
  ·exact ⟨⟨0,rfl,by omega,fun j E=>by omega⟩,H _ _ (by omega) (by omega)⟩
 split
 ·rename_i M _ _ J
  split
  ·rename_i L
   refine ⟨⟨3,rfl,by omega,fun j E=>?_⟩,H _ _ (by omega) (by omega)⟩;rcases (show j=0∨j=1∨j=2 by omega) with rfl|rfl|rfl
   ·rw [show A+1+0=A+1 by omega,I];omega
   ·rw [show A+1+1=A+2 by omega,O];omega
   ·rw [show A+1+2=A+3 by omega,e3];omega
  ·exact ⟨⟨0,rfl,by omega,fun j E=>by omega⟩,H _ _ (by omega) (by omega)⟩
 ·exact ⟨⟨0,rfl,by omega,fun j E=>by omega⟩,H _ _ (by omega) (by omega)⟩
theorem g_Q (s:ByteArray):∀ (f A:Nat),s.size - A<=f->A<=s.size->Lib.spansFromP d_9 s f A (b_e s A).2 (b_e s A).1=b_e s s.size
 | 0,A,hf,hp=>by
  obtain rfl:A=s.size:=by omega
  rfl
 | f+1,A,hf,hp=>by
  by_cases h:A < s.size
  ·obtain ⟨⟨k,O,V,hj⟩,R⟩:=h_8 s A h
   have L:¬ ((b_e s (A+1)).2=none)->b_e s (A+(k+1))=b_e s (A+1):=fun hn=>by
    cases H:(b_e s (A+1)).2 with
    | none=>exact absurd H hn
    | some a=>rw [show A+(k+1)=A+1+k by omega];exact h_7 H k fun j J=>g_P (hj j J)
   have E:=g_Q s f (A+(k+1)) (by omega) V;have M:b_e s (A+1)=b_7 s A (b_e s A):=rfl;unfold Lib.spansFromP;rw [if_pos h,R,O];cases hb:f_o (s.get! A) with
   | false=>
    have H:(b_e s (A+1)).2≠none:=by
     rw [M];unfold b_7;rw [hb];cases (b_e s A).2 <;> simp
    rw [L H,M] at E;unfold b_7 at E;rw [hb] at E;cases I:(b_e s A).2 with
    | none=>rw [I] at E;simpa using E
    | some a=>rw [I] at E;simpa using E
   | true=>
    have Z:k=0:=by
     have hl:(s.get! A).toNat < 128:=by
      rcases Nat.lt_or_ge (s.get! A).toNat 128 with h|h
      ·exact h
      ·rw [g_P h] at hb;cases hb
     have:(Utf8.decode s A).2=1:=by rw [Lib.decode_at];unfold Lib.decodeN;rw [if_pos hl]
     omega
    subst Z;rw [show A+(0+1)=A+1 by omega,M] at E;unfold b_7 at E;rw [hb] at E;cases I:(b_e s A).2 with
    | none=>rw [I] at E;simpa using E
    | some a=>rw [I] at E;simpa using E
  ·obtain rfl:A=s.size:=by omega
   rw [Lib.spansFromP_end _ _ _ _ _ _ h]
/-- A text's words. -/
def d_h (s:ByteArray):List ByteArray:=(Lib.closeSpans s (b_e s s.size)).map fun x=>s.extract x.1 x.2
theorem k_7 (s:ByteArray):Lib.goFieldsP d_9 s=d_h s:=by
 unfold Lib.goFieldsP Lib.spansOfP d_h;rw [<- g_Q s s.size 0 (by omega) (by omega)];rfl
def kIn:ByteArray:=⟨#[105,110]⟩
def u_y (b:UInt8):Bool:=decide (48<=b.toNat/\b.toNat<=57)
def l_C (w:ByteArray):Nat->Int
 | 0=>0
 | i+1=>l_C w i*10+(((w.get! i).toNat:Int) - 48)
abbrev u_H (w:ByteArray):Prop:=(1<=w.size/\w.size<=4)/\¬ (1 < w.size/\(w.get! 0).toNat=48)
def c_K (w:ByteArray):Nat->Bool
 | 0=>true
 | i+1=>c_K w i && u_y (w.get! i)
/-- A number in a text. -/
def l_D (w:ByteArray):Option Int:=if u_H w/\c_K w w.size=true then some (l_C w w.size) else none
theorem h_9 {w:ByteArray} {n:Nat} (h:c_K w n=true):∀ {i},i < n->u_y (w.get! i)=true:=by
 induction n with
 | zero=>intro i A;omega
 | succ n ih=>
  simp only [c_K,Bool.and_eq_true] at h;intro i A;rcases Nat.lt_succ_iff_lt_or_eq.1 A with E|rfl
  ·exact ih h.1 E
  ·exact h.2
theorem j_2 {w:ByteArray}:∀ {n:Nat},c_K w n=true->0<=l_C w n/\l_C w n<=10 ^ n - 1
 | 0,_=>by simp [l_C]
 | n+1,h=>by
  simp only [c_K,Bool.and_eq_true] at h;have E:=j_2 h.1;have A:=of_decide_eq_true h.2;simp only [l_C];have e:(10:Int) ^ (n+1)=10 ^ n*10:=Int.pow_succ 10 n;omega
theorem k_8 {w:ByteArray} {n:Nat} (A:n<=4) (h:c_K w n=true):0<=l_C w n/\l_C w n<=9999:=by
 have:=j_2 h;rcases (show n=0∨n=1∨n=2∨n=3∨n=4 by omega) with rfl|rfl|rfl|rfl|rfl <;> omega
/-- Numbers ahead, at most so many, and the words behind them. -/
def a_2:List ByteArray->Nat->List Int×List ByteArray
 | [],_=>([],[])
 | w :: r,0=>([],w :: r)
 | w :: r,m+1=>match l_D w with
  | some v=>(v :: (a_2 r m).1,(a_2 r m).2)
  | none=>([],w :: r)
theorem c_W:∀ (A:List ByteArray) (m:Nat),(a_2 A m).1.length<=m/\(a_2 A m).2.length+(a_2 A m).1.length=A.length
 | [],m=>by simp [a_2]
 | w :: r,0=>by simp [a_2]
 | w :: r,m+1=>by
  have:=c_W r m;simp only [a_2];cases l_D w with
  | none=>simp
  | some v=>simp only [List.length_cons];omega
theorem k_9 (A:List ByteArray):a_2 A 0=([],A):=by cases A <;> rfl
theorem l_a {w:ByteArray} {r:List ByteArray} {m:Nat} {v:Int} (h:l_D w=some v):a_2 (w :: r) (m+1)=(v :: (a_2 r m).1,(a_2 r m).2):=by simp only [a_2,h]
theorem l_b {w:ByteArray} {r:List ByteArray} {m:Nat} (h:l_D w=none):a_2 (w :: r) (m+1)=([],w :: r):=by simp only [a_2,h]
/-- The layers of so many words. -/
def i_O:Nat->List ByteArray->Option (List Ly)
 | 0,_=>some []
 | _+1,[]=>some []
 | f+1,w :: r=>if a_m w=5∨(a_2 r (b_Z (a_m w))).1.length≠b_Z (a_m w) then none else (i_O f (a_2 r (b_Z (a_m w))).2).map fun ls=>(w,(a_2 r (b_Z (a_m w))).1.getD 0 0,(a_2 r (b_Z (a_m w))).1.getD 1 0) :: ls
theorem i_a:∀ (f g:Nat) (A:List ByteArray),A.length<=f->A.length<=g->i_O f A=i_O g A
 | 0,0,_,_,_=>rfl
 | 0,g+1,[],_,_=>rfl
 | 0,g+1,w :: r,h,_=>by simp at h
 | f+1,0,[],_,_=>rfl
 | f+1,0,w :: r,_,h=>by simp at h
 | f+1,g+1,[],_,_=>rfl
 | f+1,g+1,w :: r,h1,h2=>by
  have:=(c_W r (b_Z (a_m w))).2;simp only [List.length_cons] at h1 h2;unfold i_O;rw [i_a f g _ (by omega) (by omega)]
def o_d (ws:List ByteArray):Option (List Int×List Ly):=match ws with
 | []=>none
 | w :: r=>if w=kIn/\(a_2 r 2).1≠[] then (i_O (a_2 r 2).2.length (a_2 r 2).2).map fun ls=>((a_2 r 2).1,ls) else none
/-- What Parse answers. -/
def pE (s:ByteArray):Int:=if 16384 < s.size then 2 else match o_d (d_h s) with
 | none=>7
 | some x=>nE x.1 x.2
def pX (s:ByteArray):List Int×List Ly:=if pE s=0 then (o_d (d_h s)).getD ([],[]) else ([],[])
/-- What is written of a net. -/
def dgB (x:Int):ByteArray:=⟨(Lib.decDigits x.toNat).toArray⟩
def lyW (l:Ly):List ByteArray:=l.1 :: (if a_m l.1=1 then [dgB l.2.1,dgB l.2.2] else if a_m l.1 < 4 then [dgB l.2.1] else [])
def o_K (d:List Int) (ls:List Ly):List ByteArray:=kIn :: (d.map dgB++ls.flatMap lyW)
def o_L (ws:List ByteArray):ByteArray:=⟨(Lib.join (ws.map (·.data.toList)) [32]).toArray⟩
def r_3 (d:List Int) (ls:List Ly):ByteArray:=if nE d ls=0 then o_L (o_K d ls) else ⟨#[]⟩
end Go.Proofs.YtkfpainpomobfaaGreatDoor.Wd
namespace Go.Proofs.YtkfpainpomobfaaGreatDoor.Wd
open Go.RowKit List World Nat
/-- A byte of a text, as the walk reads it. -/
theorem j_3 (s:ByteArray) (i:Nat) (h:i < s.size) (x:Int) (A:(((s.get! i).toNat:Nat):Int)=x) (W:World):(Instr.index 9 (.string s) (.int .i64 (i:Int))).run Tryz.prog W = .ok (.int .u8 x) W:=by
 rw [run_index_string (P:=Tryz.prog) W 9 s .i64 (i:Int) Tryz.underlying9,dif_pos ⟨by omega,by omega⟩,<- A]
 have e:s[(i:Int).toNat]'(by simpa using h)=s.get! i:=by
  have E:(i:Int).toNat=i:=by simp
  simp only [E];exact (getElem!_pos s.data i h).symm
 rw [e]
theorem i_b (s:ByteArray) (w:World):
  Calls Tryz.prog 80 #[.string s] w fun e w'=>e = .returned (.tuple #[.int .i64 ((l_D s).getD 0),.bool (l_D s).isSome])/\w'=w:=by
 obtain ⟨r,er⟩:∃ r,l_D s=r:=⟨_,rfl⟩
 have J:Hid _:=er;rw [er];clear er;obtain ⟨n,en⟩:∃ n,s.size=n:=⟨_,rfl⟩
 have HN:Hid _:=en;go_enter Tryz.func80,Tryz.ntmps80;by_cases h0:n=0
 ·subst h0;have e:r=none:=by rw [<- J.out];unfold l_D;rw [if_neg fun h=>by have:=h.1.1.1;omega]
  subst e;have am:((s.size:Nat):Int)=0:=by rw [en];rfl
  go_wp2;go_ret2;exact ⟨rfl,rfl⟩
 have g0:((n:Int)==0)=false:=by simpa using (show (n:Int)≠0 by omega)
 by_cases h4:4 < n
 ·have ab:(4:Int) < (n:Int):=by omega
  have e:r=none:=by rw [<- J.out];unfold l_D;rw [if_neg fun h=>by have:=h.1.1.2;omega]
  subst e;go_wp2;go_ret2;exact ⟨rfl,rfl⟩
 have ab:(n:Int)<=4:=by omega
 obtain ⟨V,O⟩:∃ x,(((s.get! 0).toNat:Nat):Int)=x:=⟨_,rfl⟩
 have ae:=j_3 s 0 (by omega) V O;rw [show ((0:Nat):Int)=0 from rfl] at ae
 have Z:Hid (l_D s=if ¬ (1 < n/\V=48)/\c_K s n=true then some (l_C s n) else none):=by
  show _=_;subst en;unfold l_D;by_cases E:1 < s.size/\V=48
  ·rw [if_neg,if_neg fun h=>h.1 E];intro h;exact h.1.2 ⟨by omega,by have:=E.2;omega⟩
  ·by_cases H:c_K s s.size=true
   ·rw [if_pos ⟨⟨⟨by omega,by omega⟩,fun h=>E ⟨by omega,by have:=h.2;omega⟩⟩,H⟩,if_pos ⟨E,H⟩]
   ·rw [if_neg fun h=>H h.2,if_neg fun h=>H h.2]
 clear O;by_cases E:1 < n/\V=48
 ·have e:r=none:=by rw [<- J.out,Z.out,if_neg fun h=>h.1 E]
  obtain ⟨al,ac⟩:=E;subst e ac;have af:(1:Int) < (n:Int):=by omega
  clear Z J;go_wp2;go_ret2;exact ⟨rfl,rfl⟩
 have A:Hid (r=if c_K s n=true then some (l_C s n) else none):=by
  show _=_;rw [<- J.out,Z.out];by_cases H:c_K s n=true
  ·rw [if_pos ⟨E,H⟩,if_pos H]
  ·rw [if_neg fun h=>H h.2,if_neg H]
 have M:(n:Int)<=1∨(1 < (n:Int)/\(V==48)=false):=by
  rcases Nat.lt_or_ge 1 n with h|h
  ·exact .inr ⟨by omega,by simpa using fun e=>E ⟨h,e⟩⟩
  ·exact .inl (by omega)
 clear Z E J;rcases M with aa|⟨aa,ah⟩
 all_goals
  go_wp2_with fail
  go_loopg [4,26] n (fun gg u v wr=>∃ (k:Nat) (x:Int),k<=n/\gg=n - k/\u = .int .i64 x/\v = .int .i64 (k:Int)/\Hid (x=l_C s k/\c_K s k=true)/\wr=w)
  case atStart=>exact ⟨0,0,by omega,by omega,rfl,rfl,⟨rfl,rfl⟩,rfl⟩
  case round=>
   obtain ⟨k,x,hk,hg,rfl,rfl,I,rfl⟩:=hrel;by_cases R:k < n
   ·have aj:(k:Int) < (n:Int):=by omega
    obtain ⟨b,eb⟩:∃ b,(((s.get! k).toNat:Nat):Int)=b:=⟨_,rfl⟩
    have hb:=j_3 s k (by omega) b eb
    have ak:0<=b/\b<=255:=by
     have:=(s.get! k).toNat_lt;omega
    have ad:=k_8 (show k<=4 by omega) I.2;rw [<- I.1] at ad;have Hb:Hid _:=eb;clear eb;by_cases ai:b < 48
    ·have e:r=none:=by
      rw [A.out,if_neg fun h=>?_];have:=of_decide_eq_true (h_9 h R);have:=Hb.out;omega
     subst e;clear A;go_wp2;go_ret2;exact ⟨rfl,rfl⟩
    by_cases an:57 < b
    ·have e:r=none:=by
      rw [A.out,if_neg fun h=>?_];have:=of_decide_eq_true (h_9 h R);have:=Hb.out;omega
     subst e;have L:48<=b:=by omega
     clear A;go_wp2;go_ret2;exact ⟨rfl,rfl⟩
    have L:48<=b:=by omega
    have ag:b<=57:=by omega
    obtain ⟨y,ey⟩:∃ y,x*10+(b - 48)=y:=⟨_,rfl⟩
    have HY:Hid (y=l_C s (k+1)/\c_K s (k+1)=true):=by
     refine ⟨by rw [<- ey,I.1,<- Hb.out];rfl,?_⟩;simp only [c_K,I.2,Bool.true_and];exact decide_eq_true (by have:=Hb.out;omega)
    go_wp2;go_roundg (n - (k+1))
    case measure=>omega
    case rel=>exact ⟨k+1,y,by omega,rfl,by first|rfl|simp [ey],by first|rfl|simp,HY,rfl⟩
   ·obtain rfl:k=n:=by omega
    have e:r=some x:=by rw [A.out,if_pos I.2,I.1]
    subst e;clear A;go_wp2;go_ret2;exact ⟨rfl,rfl⟩
def wdA (ws:List ByteArray) (i:Nat):ByteArray:=ws.getD i ⟨#[]⟩
/-- A slice of words. -/
def StrV (W:World) (v:Value) (ws:List ByteArray):Prop:=∃ p c,v = .slice p ws.length c/\ws.length<=c/\∀ i,i < ws.length->∃ q o,p=some ⟨q,o,none⟩/\W.cell? ⟨q,o+i,none⟩=some (.string (wdA ws i))
theorem StrV.up {W W':World} {v:Value} {A:List ByteArray} (h:StrV W v A) (I:Bw W W'):StrV W' v A:=by
 obtain ⟨p,c,e,H,h⟩:=h
 exact ⟨p,c,e,H,fun i E=>by
  obtain ⟨q,o,e,h⟩:=h i E;exact ⟨q,o,e,a_g I h⟩⟩
theorem h_p (p:Option Addr) (n A:Nat) (h:1<=n) (W:World):Sem.run Tryz.prog (Instr.slice 85 (.slice p n A) (some (.int .i64 1)) none none) W = .ok (sliced p 1 n A 1) W:=by
 have E:∀ W,Sem.run Tryz.prog (sizeOf (Tryz.prog.elem 85)) W = .ok 1 W:=fun W=>by kernel_rfl
 have:=run_slice_l (P:=Tryz.prog) W 85 p n A (by kernel_rfl) .i64 1 (by omega) (by omega);rw [this,E];simp [Result.andThen]
theorem t_z {W:World} {p:Option Addr} {n A:Nat} {x:ByteArray} {I:List ByteArray} (h:StrV W (.slice p n A) (x :: I)):∃ H E L,sliced p 1 n A 1 = .slice H E L/\StrV W (.slice H E L) I:=by
 obtain ⟨V,Z,e,J,h⟩:=h;cases e;refine ⟨_,_,_,rfl,(if A=1 then p else p.map (·.add (1*1))),A - 1,by simp,by simp only [length_cons] at J;omega,fun i R=>?_⟩;obtain ⟨q,o,e,O⟩:=h (i+1) (by simp only [length_cons];omega);obtain ⟨q0,o0,M,_⟩:=h 0 (by simp);subst M;cases e;simp only [length_cons] at J;refine ⟨q,o+1,?_,?_⟩
 ·rw [if_neg (by omega)];simp [a_r]
 ·rw [show o+1+i=o+(i+1) by omega];exact O
theorem StrV.form {W:World} {v:Value} {A:List ByteArray} (h:StrV W v A):∃ p n c,v = .slice p n c/\A.length=n:=by
 obtain ⟨p,c,e,_⟩:=h;exact ⟨p,_,c,e,rfl⟩
theorem d_i (v:Value) (Z:List ByteArray) (m:Nat) (hm:m<=2) (wB w:World) (hB:Bw wB w) (hv:StrV wB v Z):
  Calls Tryz.prog 48 #[v,.int .i64 (m:Int)] w fun e w'=>∃ v1 v2,e = .returned (.tuple #[v1,v2])/\OwnK .i64 3 w' w.heap.size v1 (a_2 Z m).1/\StrV wB v2 (a_2 Z m).2/\Bw w w':=by
 obtain ⟨p0,n0,c0,rfl,ag⟩:=hv.form;have HV:Hid _:=hv;have af:Hid _:=hB;obtain ⟨R,M⟩:∃ R,a_2 Z m=R:=⟨_,rfl⟩
 have HR:Hid _:=M;rw [M];clear M hv hB;have an:(m:Int)<=2:=by omega
 go_enter Tryz.func48,Tryz.ntmps48;go_wp2_with fail
 go_loopg [0,6] n0 (fun gg u v wr=>∃ (I:List ByteArray) (A:List Int),gg=I.length/\Hid (StrV wB u I/\OwnK .i64 3 wr w.heap.size v A/\Bw w wr)/\A.length<=m/\Hid (R=(A++(a_2 I (m - A.length)).1,(a_2 I (m - A.length)).2)))
 case atStart=>exact ⟨Z,[],ag.symm,⟨HV.out,OwnK.nil _ _ _ _,Below.refl _ _⟩,by simp,by show _=_;rw [<- HR.out];simp⟩
 case round=>
  obtain ⟨I,A,hg,H,ak,HE⟩:=hrel;obtain ⟨pu,nu,cu,rfl,ac⟩:=H.1.form;obtain ⟨pa,na,ca,rfl,ae⟩:=H.2.1.nums.lst;have al:=ae.1;clear ae;cases I with
  | nil=>
   obtain rfl:nu=0:=by simpa using ac.symm
   have M:R=(A,[]):=by rw [HE.out];simp [a_2]
   subst M;go_wp2;go_ret2;exact ⟨_,_,rfl,H.2.1,H.1,H.2.2⟩
  | cons u I=>
   obtain rfl:nu=I.length+1:=by simpa using ac.symm
   have aj:(0:Int) < ((I.length+1:Nat):Int):=by omega
   by_cases am:A.length < m
   case neg=>
    have ad:(m:Int)<=(na:Int):=by omega
    have M:R=(A,u :: I):=by rw [HE.out,show m - A.length=0 by omega,k_9];simp
    subst M;go_wp2;go_ret2;exact ⟨_,_,rfl,H.2.1,H.1,H.2.2⟩
   have ad:(na:Int) < (m:Int):=by omega
   obtain ⟨pp,cc,e,ao,L⟩:=H.1.up (a_c af.out H.2.2);cases e;obtain ⟨q,o,rfl,h0⟩:=L 0 (by simp);rw [Nat.add_zero] at h0;have ah:=h0;clear h0 L;obtain ⟨p',n',c',es,hcut⟩:=t_z H.1;have ab:=h_p (some ⟨q,o,none⟩) (I.length+1) cu (by omega);rw [es] at ab;have O:Hid _:=hcut;clear hcut es;have V:=i_b u wr;obtain ⟨x,ex⟩:∃ x,l_D u=x:=⟨_,rfl⟩
   rw [ex] at V;cases x with
   | none=>
    have M:R=(A,u :: I):=by rw [HE.out,show m - A.length=m - A.length - 1+1 by omega,l_b ex];simp
    subst M;simp only [Option.getD_none,Option.isSome_none] at V;clear ex;go_wp2_with fail
    refine V.mono ?_;rintro e J ⟨rfl,rfl⟩;clear V;go_wp2;go_ret2;exact ⟨_,_,rfl,H.2.1,H.1,H.2.2⟩
   | some x=>
    have ai:Hid (R=((A++[x])++(a_2 I (m - (A++[x]).length)).1,(a_2 I (m - (A++[x]).length)).2)):=by
     show _=_;rw [HE.out,show m - A.length=m - (A++[x]).length+1 by simp;omega,l_a ex];simp
    simp only [Option.getD_some,Option.isSome_some] at V;clear ex HE;go_wp2_with fail
    refine V.mono ?_;rintro e J ⟨rfl,rfl⟩;clear V;have H5:Hid (OwnK .i64 3 (J.alloc (.cells #[.int .i64 x] 3)) w.heap.size (.slice pa na ca) A):=H.2.1.up (a_a J _);have H6:Hid (Nums .i64 (J.alloc (.cells #[.int .i64 x] 3)) (.slice (some ⟨J.heap.size,0,none⟩) 1 1) [x]):=a_8 (k:=.i64) J [x] 1 (0,0) rfl;have H7:Hid (A.length+[x].length<=1073741824):=by show _<=_;simp;omega
    have H8:Hid (w.heap.size<=(J.alloc (.cells #[.int .i64 x] 3)).heap.size):=by show _<=_;have:=H.2.2.size;simp;omega
    have H9:Hid (Bw J (J.alloc (.cells #[.int .i64 x] 3))):=a_a J _;have aa:Hid (Bw w (J.alloc (.cells #[.int .i64 x] 3))):=k_U H.2.2 _;clear H ah;go_wp2_with (at_builtin;refine a_x e_g (by decide) rfl (.tmp 27) (.tmp 29) rfl w.heap.size _ A rfl H5.out _ [x] rfl H6.out H7.out H8.out w aa.out ?_;intro v0 w0 H0 B0)
    have HF:Hid (StrV wB (.slice p' n' c') I/\OwnK .i64 3 w0 w.heap.size v0 (A++[x])/\Bw w w0):=⟨O.out,H0.out,B0⟩
    clear O H0 B0 H5 H6 H7 H8 H9 aa;go_wp2;go_roundg I.length
    case measure=>rw [hg];simp
    case rel=>exact ⟨I,A++[x],rfl,HF,by simp;omega,ai⟩
theorem q_V {W:World} {b:Nat} {H A E:Value} {e:TypeId} (h:W.heap[b]?=some (.cells #[H,A,E] e (0,0))):(W.cell? ⟨b,0,none⟩=some H/\W.frozen? ⟨b,0,none⟩=false)/\(W.cell? ⟨b,1,none⟩=some A/\W.frozen? ⟨b,1,none⟩=false)/\(W.cell? ⟨b,2,none⟩=some E/\W.frozen? ⟨b,2,none⟩=false):=by
 simp [cell?,frozen?,h]
theorem m_k {W U:World} {b:Nat} {t:TypeId} {J M O I E A:Value} (h:W.heap[b]?=some (.cells #[J,M,O] t (0,0))) (e:((W.setCell ⟨b,0,none⟩ I).setCell ⟨b,1,none⟩ E).setCell ⟨b,2,none⟩ A=U):
  U.cell? ⟨b,0,none⟩=some I/\U.cell? ⟨b,1,none⟩=some E/\U.cell? ⟨b,2,none⟩=some A/\∀ w B,B<=b->Below B w W->Below B w U:=by
 have H:U.heap[b]?=some (.cells #[I,E,A] t (0,0)):=by
  rw [<- e,a_l (a_l (a_l h))];rfl
 refine ⟨by simp [cell?,H],by simp [cell?,H],by simp [cell?,H],fun w B hb L=>?_⟩;rw [<- e];exact ((L.setCell (p:=⟨b,0,none⟩) hb _).setCell (p:=⟨b,1,none⟩) hb _).setCell (p:=⟨b,2,none⟩) hb _
theorem i_8 (J:ByteArray) (c1 V O:Int) (l:List Int) (hl:l.length<=2) (p:Option Addr) (n c:Nat) (w:World) (hv:Nums .i64 w (.slice p n c) l):
  Calls Tryz.prog 50 #[.agg #[.string J,.int .i64 c1,.int .i64 V,.int .i64 O],.slice p n c] w fun e w'=>e = .returned (.agg #[.string J,.int .i64 (l.getD 0 0),.int .i64 (l.getD 1 0)])/\Bw w w':=by
 obtain ⟨x,ex⟩:∃ x,l.getD 0 0=x:=⟨_,rfl⟩
 obtain ⟨y,ey⟩:∃ y,l.getD 1 0=y:=⟨_,rfl⟩
 have HL:Hid (l.getD 0 0=x/\l.getD 1 0=y/\l.length<=2):=⟨ex,ey,hl⟩
 rw [ex,ey];clear ex ey hl;have HV:Hid (Nums .i64 w (.slice p n c) l):=hv
 have hn:Hid (l.length=n):=by
  obtain ⟨_,_,_,e,h⟩:=hv.lst;cases e;exact h.1
 clear hv;obtain ⟨H,I⟩:∃ H,(((w.alloc (.cells #[.string J,.int .i64 c1,.int .i64 V,.int .i64 O] 110)).alloc (.cells #[.string ⟨#[]⟩,.int .i64 0,.int .i64 0] 69)).alloc (.cells #[.int .i64 0,.int .i64 0] 108))=H:=⟨_,rfl⟩
 have hz:H.heap.size=w.heap.size+3:=by rw [<- I];simp
 have HA:Hid (Bw w H):=by show Below _ _ _;rw [<- I];go_grown
 have HC:Hid (H.heap[w.heap.size]?=some (.cells #[.string J,.int .i64 c1,.int .i64 V,.int .i64 O] 110 (0,0))/\H.heap[w.heap.size+1]?=some (.cells #[.string ⟨#[]⟩,.int .i64 0,.int .i64 0] 69 (0,0))/\H.heap[w.heap.size+2]?=some (.cells [Value.int .i64 0,.int .i64 0].toArray 108 (0,0))):=by
  show _/\_/\_;rw [<- I];refine ⟨?_,?_,?_⟩
  ·exact ((a_a _ _).block _ (by simp;omega)).trans (((a_a _ _).block _ (by simp)).trans Array.getElem?_push_size)
  ·exact ((a_a _ _).block _ (by simp)).trans (by rw [show w.heap.size+1=(w.alloc (.cells #[.string J,.int .i64 c1,.int .i64 V,.int .i64 O] 110)).heap.size by simp];exact Array.getElem?_push_size)
  ·rw [show w.heap.size+2=((w.alloc (.cells #[.string J,.int .i64 c1,.int .i64 V,.int .i64 O] 110)).alloc (.cells #[.string ⟨#[]⟩,.int .i64 0,.int .i64 0] 69)).heap.size by simp];exact Array.getElem?_push_size
 have R:Hid ((a_N .i64 l).length=Nat.min n 2):=by
  show _=_;have:=HL.2.2;rw [show (a_N .i64 l).length=l.length by simp [a_N],hn.out];exact (Nat.min_eq_left (by rw [<- hn.out];exact this)).symm
 have ab:Hid (0 < (a_N .i64 l).length->(some (⟨w.heap.size+2,0,none⟩:Addr))=some ⟨w.heap.size+2,0,none⟩/\∃ ad,p=some ad/\∀ j v,(a_N .i64 l)[j]?=some v->H.cell? (ad.add j)=some v):=fun h0=>by
  refine ⟨rfl,?_⟩;rcases HV.out.up HA.out with ⟨_,e⟩|⟨ad,_,e,h⟩
  ·rw [e] at h0;simp [a_N] at h0
  ·cases e;exact ⟨ad,rfl,h⟩
 have Z:Hid (0+(a_N .i64 l).length<=[Value.int .i64 0,.int .i64 0].length):=by show _<=_;have:=HL.2.2;simp [a_N];exact this
 have ac:Hid (∀ E:World,E.heap[w.heap.size+2]?=some (.cells (splice [Value.int .i64 0,.int .i64 0] 0 (a_N .i64 l)).toArray 108 (0,0))->Below (w.heap.size+2) H E->(E.cell? ⟨w.heap.size+2,0,none⟩=some (.int .i64 x)/\E.cell? ⟨w.heap.size+2,1,none⟩=some (.int .i64 y))/\E.cell? ⟨w.heap.size,0,none⟩=some (.string J)/\Hid (E.heap[w.heap.size+1]?=some (.cells #[.string ⟨#[]⟩,.int .i64 0,.int .i64 0] 69 (0,0))/\Bw w E)):=fun E h5 A=>by
  refine ⟨?_,?_,?_,?_⟩
  ·have L:=HL.1;have M:=HL.2.1;have h3:=HL.2.2;unfold cell?;rw [h5]
   match l,L,M,h3 with
   | [],L,M,_=>subst L M;exact ⟨rfl,rfl⟩
   | [a],L,M,_=>subst L M;exact ⟨rfl,rfl⟩
   | [a,b],L,M,_=>subst L M;exact ⟨rfl,rfl⟩
  ·unfold cell?;rw [show E.heap[w.heap.size]?=_ from (A.block _ (by omega)).trans HC.1];rfl
  ·exact (A.block _ (by omega)).trans HC.2.1
  ·exact HA.trans (A.mono (by omega))
 go_enter Tryz.func50,Tryz.ntmps50;go_wp2_with (have hR:=HC.2.2;(try rw [I]);refine wpList_copy_splice rfl (.tmp 6) (.tmp 7) 22 22 rfl 3 Tryz.underlying22 (by kernel_rfl) _ _ _ _ _ _ rfl rfl (w.heap.size+2) 0 _ 108 hR (a_N .i64 l) R.out ab.out Z.out (d_L _ _) (w.heap.size+2) H (Below.refl _ _) (Nat.le_refl _) ?_;intro E aa A;obtain ⟨⟨f0,f1⟩,f2,f3⟩:=ac.out E aa.out A;obtain ⟨⟨g0,k0⟩,⟨g1,k1⟩,⟨g2,k2⟩⟩:=q_V f3.1;clear aa A hR)
 generalize hU:setCell _ _ _=U;obtain ⟨u0,u1,u2,ae⟩:=m_k f3.1 hU;exact bodyPost_ret (v:=.agg #[.string J,.int .i64 x,.int .i64 y]) (by simp [results,Tryz.results50,go_sem,u0,u1,u2]) rfl ⟨rfl,ae w _ (by omega) f3.2⟩
end Go.Proofs.YtkfpainpomobfaaGreatDoor.Wd
namespace Go.Proofs
open Go.Shelf
def Tryz.lays156_ren:Go.Shelf.Ren:=⟨fun|156=>54|165=>82|166=>83|169=>84|240=>112|241=>113|276=>143|277=>144|n=>n,fun|31=>85|9=>9|3=>3|4=>4|0=>0|20=>20|72=>147|76=>151|70=>144|37=>145|75=>150|127=>177|164=>195|5=>5|80=>153|n=>n,fun|n=>n⟩
theorem Tryz.lays156:Go.Proofs.Lays.n156 Tryz.prog Tryz.lays156_ren:={
 mixed:=by kernel_rfl
 f156:=Tryz.func54.trans (congrArg some (by kernel_rfl))
 f165:=Tryz.func82.trans (congrArg some (by kernel_rfl))
 f166:=Tryz.func83.trans (congrArg some (by kernel_rfl))
 f169:=Tryz.func84.trans (congrArg some (by kernel_rfl))
 f240:=Tryz.func112.trans (congrArg some (by kernel_rfl))
 f241:=Tryz.func113.trans (congrArg some (by kernel_rfl))
 f276:=Tryz.func143.trans (congrArg some (by kernel_rfl))
 f277:=Tryz.func144.trans (congrArg some (by kernel_rfl))
 t0:=Tryz.underlying0
 a0:=Tryz.isAgg0
 z0:=Tryz.sizeOf0
 v0:=Tryz.zeroValue0
 t3:=Tryz.underlying3
 a3:=Tryz.isAgg3
 z3:=Tryz.sizeOf3
 v3:=Tryz.zeroValue3
 t4:=Tryz.underlying4
 a4:=Tryz.isAgg4
 z4:=Tryz.sizeOf4
 v4:=Tryz.zeroValue4
 t9:=Tryz.underlying9
 a9:=Tryz.isAgg9
 z9:=Tryz.sizeOf9
 v9:=Tryz.zeroValue9
 t20:=Tryz.underlying20
 a20:=Tryz.isAgg20
 z20:=Tryz.sizeOf20
 v20:=Tryz.zeroValue20
 t31:=Tryz.underlying85
 a31:=Tryz.isAgg85
 z31:=Tryz.sizeOf85
 v31:=Tryz.zeroValue85
 t37:=Tryz.underlying145
 a37:=Tryz.isAgg145
 z37:=Tryz.sizeOf145
 v37:=Tryz.zeroValue145
 t70:=Tryz.underlying144
 a70:=Tryz.isAgg144
 z70:=Tryz.sizeOf144
 v70:=Tryz.zeroValue144
 t72:=Tryz.underlying147
 a72:=Tryz.isAgg147
 z72:=Tryz.sizeOf147
 v72:=Tryz.zeroValue147
 t75:=Tryz.underlying150
 a75:=Tryz.isAgg150
 z75:=Tryz.sizeOf150
 v75:=Tryz.zeroValue150
 t76:=Tryz.underlying151
 a76:=Tryz.isAgg151
 z76:=Tryz.sizeOf151
 v76:=Tryz.zeroValue151
 t127:=Tryz.underlying177
 a127:=Tryz.isAgg177
 z127:=Tryz.sizeOf177
 v127:=Tryz.zeroValue177
 t164:=Tryz.underlying195
 a164:=Tryz.isAgg195
 z164:=Tryz.sizeOf195
 v164:=Tryz.zeroValue195 }
theorem Tryz.Builder_Extra_156:Builder.Extra Tryz.prog Tryz.lays156_ren:={
 sizeBuilder:=by kernel_rfl
 liesBuilder:=by kernel_rfl
 t5:=Tryz.underlying5
 a5:=Tryz.isAgg5
 z5:=Tryz.sizeOf5
 v5:=Tryz.zeroValue5
 infoByte:=by kernel_rfl
 cellsByte:=by kernel_rfl
 sizeByte:=by kernel_rfl
 neB5:=by decide }
open Go.RowKit in
theorem Tryz.strings_Join (L o c:Nat) (H:List ByteArray) (E:ByteArray) (w:World) (A:∀ (j:Nat) x,H[j]?=some x->w.cell? ⟨L,o+j,none⟩=some (.string x)) (M:L < w.heap.size) (O:H.length<=140737488355328) (I:H.length<=c) (J:(Lib.join (H.map (·.data.toList)) E.data.toList).length<=140737488355328):
  Calls Tryz.prog 54 #[.slice (some ⟨L,o,none⟩) H.length c,.string E] w fun e R=>e = .returned (.string ⟨(Lib.join (H.map (·.data.toList)) E.data.toList).toArray⟩)/\Below w.heap.size w R:=Any.strings_Join Tryz.lays156 Tryz.Builder_Extra_156 L o c H E w A M O I J
def Tryz.lays229_ren:Go.Shelf.Ren:=⟨fun|229=>51|n=>n,fun|9=>9|40=>115|31=>85|152=>141|3=>3|0=>0|4=>4|21=>21|154=>143|n=>n,fun|n=>n⟩
theorem Tryz.lays229:Go.Proofs.Lays.n229 Tryz.prog Tryz.lays229_ren:={
 mixed:=by kernel_rfl
 f229:=Tryz.func51.trans (congrArg some (by kernel_rfl))
 t0:=Tryz.underlying0
 a0:=Tryz.isAgg0
 z0:=Tryz.sizeOf0
 v0:=Tryz.zeroValue0
 t3:=Tryz.underlying3
 a3:=Tryz.isAgg3
 z3:=Tryz.sizeOf3
 v3:=Tryz.zeroValue3
 t4:=Tryz.underlying4
 a4:=Tryz.isAgg4
 z4:=Tryz.sizeOf4
 v4:=Tryz.zeroValue4
 t9:=Tryz.underlying9
 a9:=Tryz.isAgg9
 z9:=Tryz.sizeOf9
 v9:=Tryz.zeroValue9
 t21:=Tryz.underlying21
 a21:=Tryz.isAgg21
 z21:=Tryz.sizeOf21
 v21:=Tryz.zeroValue21
 t31:=Tryz.underlying85
 a31:=Tryz.isAgg85
 z31:=Tryz.sizeOf85
 v31:=Tryz.zeroValue85
 t40:=Tryz.underlying115
 a40:=Tryz.isAgg115
 z40:=Tryz.sizeOf115
 v40:=Tryz.zeroValue115
 t152:=Tryz.underlying141
 a152:=Tryz.isAgg141
 z152:=Tryz.sizeOf141
 v152:=Tryz.zeroValue141
 t154:=Tryz.underlying143
 a154:=Tryz.isAgg143
 z154:=Tryz.sizeOf143
 v154:=Tryz.zeroValue143 }
open Go.RowKit Go.Lib in
theorem Tryz.strings_FieldsFunc (g:Nat) (E:Array Value) (J:∀ args w,(callFunc g args).run Tryz.prog w = .ok (.enter g args) w) (p:Nat->Bool) (s:ByteArray) (w:World) (I:s.size<=4294967296) (hp:PredAt Tryz.prog g E encR p w):
  Calls Tryz.prog 51 #[.string s,.func (.func g) #[] E] w fun e H=>∃ A,e = .returned (.slice (some ⟨A,0,none⟩) (Lib.goFieldsP p s).length (Lib.goFieldsP p s).length)/\w.heap.size<=A/\
   H.ownsRow w.heap.size 9 1 (.slice (some ⟨A,0,none⟩) (Lib.goFieldsP p s).length (Lib.goFieldsP p s).length) (Lib.goFieldsP p s).length ((Lib.goFieldsP p s).map Value.string)/\Below w.heap.size w H:=Any.strings_FieldsFunc Tryz.lays229 g E J p s w I hp (by kernel_rfl) (by kernel_rfl)
end Go.Proofs
namespace Go.Proofs.YtkfpainpomobfaaGreatDoor.Wd
open Go.RowKit List World Nat
section
variable {P : Program} {ops : Array Oper} {Q : Exit -> Act -> World -> Prop}
/-- The first m of n have come up. -/
def i_9 (n m:Nat):Array Bool:=Array.replicate m true++Array.replicate (n - m) false
theorem f_8 {n m:Nat} (h:m<=n):(i_9 n m).size=n:=by simp [i_9];omega
theorem f_9 {n m j:Nat} (h:j < m) (b:Bool):(i_9 n m).getD j b=true:=by
 simp [i_9,Array.getD_eq_getD_getElem?,Array.getElem?_append,h]
theorem d_F {n m j:Nat} (h:m<=j) (A:j < n) (b:Bool):(i_9 n m).getD j b=false:=by
 simp [i_9,Array.getD_eq_getD_getElem?,Array.getElem?_append,Nat.not_lt.2 h,Array.getElem?_replicate];rw [if_pos (by omega)];rfl
theorem j_4 {n m j:Nat} (h:m<=n) (A:n<=j) (b:Bool):(i_9 n m).getD j b=b:=by
 simp [i_9,Array.getD_eq_getD_getElem?,Array.getElem?_append,Nat.not_lt.2 (Nat.le_trans h A),Array.getElem?_replicate];rw [if_neg (by omega)];rfl
theorem d_W {n m:Nat} (h:m<=n):(i_9 n m).toList.count false=n - m:=by
 simp [i_9,count_replicate]
theorem q_W {n m:Nat} {l:Array Bool} (L:l.size=n) (M:m<=n) (O:∀ j,j < m->l.getD j false=true) (R:∀ j,m<=j->j < n->l.getD j true=false):l=i_9 n m:=by
 refine Array.ext (by rw [L,f_8 M]) fun j J H=>?_;have A:j < n:=by omega
 rcases Nat.lt_or_ge j m with c|c
 ·have E:=O j c;have I:=f_9 (n:=n) c false;simp only [Array.getD_eq_getD_getElem?,Array.getElem?_eq_getElem J,Array.getElem?_eq_getElem H,Option.getD_some] at E I;rw [E,I]
 ·have E:=R j c A;have I:=d_F c A true;simp only [Array.getD_eq_getD_getElem?,Array.getElem?_eq_getElem J,Array.getElem?_eq_getElem H,Option.getD_some] at E I;rw [E,I]
/-- The region from operation number m on, in any order that it may take. -/
def e_a (P:Program) (ops:Array Oper) (Q:Exit->Act->World->Prop) (m:Nat) (a:Act) (w:World):Prop:=wpAny P .any ops Q (ops.size - m) (i_9 ops.size m) a w
theorem h_q {a:Act} {w:World} (m:Nat) (E:m=ops.size) (h:Q .normal a w):e_a P ops Q m a w:=by
 subst E;unfold e_a;rw [Nat.sub_self];refine ⟨eq_nil_iff_forall_not_mem.2 fun i A=>?_,h⟩;exact b_0 (by rw [d_W (Nat.le_refl _),Nat.sub_self]) i (mem_ready.1 A).1
theorem a_7 {id:Nat} {a:Act} {w:World} (A:P.follows .mixedOrders=true) (h:e_a P ops Q 0 a { w with drawn:=w.drawn+1 }):(Code.region id ops true).wp P Q a w:=by
 refine wp_region_any A ?_;unfold e_a at h;have:i_9 ops.size 0=Array.replicate ops.size false:=by simp [i_9]
 rw [this,Nat.sub_zero] at h;exact h
/-- The rest is in the order of the text. -/
def s_e (ops:Array Oper) (m:Nat):Bool:=
 decide (m<=ops.size) && ((range ops.size).all fun i=>match ops[i]? with
  | none=>false
  | some o=>(o.after.all fun e=>!Region.binds .any e || decide (e.on < i)) && (range i).all fun j=>decide (j < m) || b_v o j)
theorem c_z {a:Act} {w:World} (m:Nat) (L:s_e ops m=true) (h:wpList P ops Q (ops.toList.drop m) a w):e_a P ops Q m a w:=by
 simp only [s_e,Bool.and_eq_true,decide_eq_true_eq] at L;obtain ⟨O,A⟩:=L
 have hb:∀ i o,ops[i]?=some o->∀ e∈o.after,Region.binds .any e=true->e.on < i:=by
  intro i o E e he I;have:=all_eq_true.1 A i (mem_range.2 (Array.getElem?_eq_some_iff.1 E).1);simp only [E,Bool.and_eq_true] at this;have H:=Array.all_eq_true_iff_forall_mem.1 this.1 e he;simpa [I] using H
 have V:∀ i o,ops[i]?=some o->∀ j,m<=j->j < i->b_v o j=true:=by
  intro i o E j M J;have:=all_eq_true.1 A i (mem_range.2 (Array.getElem?_eq_some_iff.1 E).1);simp only [E,Bool.and_eq_true] at this;have:=all_eq_true.1 this.2 j (mem_range.2 J);simp only [Bool.or_eq_true,decide_eq_true_eq] at this;rcases this with h|h
  ·omega
  ·exact h
 exact j_U hb V _ m _ a w (f_8 O) (Nat.le_refl _) (d_W O) (fun j M=>f_9 M false) (fun j H R=>d_F H R true) h
/-- A family of worlds of a class, which holds with each world all that keep what stood in it. -/
structure FamC (C:World->Prop) (F:World->World):Prop where
 cls:∀ d,C (F d)
 on:∀ d W,Below (F d).heap.size (F d) W->∃ d',W=F d'
theorem o_M {C:World->Prop} (A:∀ W W',C W->Below W.heap.size W W'->C W') {W:World} (h:C W):FamC C (e_1 W):=
 ⟨fun d=>A _ _ h (a_5 W d),fun d W' hb=>f_z ((a_5 W d).trans (hb.mono (a_5 W d).size))⟩
theorem FamC.call {C:World->Prop} {F:World->World} (hF:FamC C F) {P:Program} {f:FuncId} {args:Array Value} {d:World} {v:Value}
  (h:Calls P f args (F d) fun e E=>e = .returned v/\Below (F d).heap.size (F d) E):Calls P f args (F d) fun e A=>e = .returned v/\∃ d',A=F d':=
 h.mono fun _ _ ⟨he,hb⟩=>⟨he,hF.on d _ hb⟩
/-- The walk of a segment in the order of the text; operation number c is the one that may write (none, if c is not among the told). -/
def a_3 (P:Program) (ops:Array Oper) (C:Bool->World->Prop) (T:World->World->Prop) (c:Nat) (ks:List Told) (x:Nat->Value) (G:Act):Nat->List Oper->Act->Prop
 | _,[],a=>a=G
 | i,o :: l,a=>match a_E ks i with
  | none=>∃ v,(∀ b F,FamC (C b) F->b_Y ops ks o x F->if Region.wanted o (yielded ops a.tmps)=true then ∀ K:Act->Prop,K (a.put o.dst v)->o.quiet P a (fun W=>∃ d,W=F d) K else v=undef)/\a_3 P ops C T c ks x G (i+1) l (a.put o.dst v)
  | some e=>(Region.wanted o (yielded ops a.tmps)=true/\(i≠c->∀ b F,FamC (C b) F->b_Y ops ks o x F->∀ d,a_j P o a (F d) e.φ)/\(i=c->∀ W,C false W->b_Y ops ks o x (fun _=>W)->b_i P o a W (fun v W'=>e.φ v W'/\C true W'/\T W W')))/\a_3 P ops C T c ks x G (i+1) l (a.put (some e.t) (x e.k))
theorem q_X {a:Act} {t:Nat} {v:Value} (h:a.tmps.size<=t):a.put (some t) v=a:=by
 cases a;simp only at h;simp [Act.put,Array.setIfInBounds,Nat.not_lt.2 h]
/-- The slot that an operation writes; one beyond the frame's where it writes none (a store). -/
def dstOf (n:Nat) (o:Oper) (t:Tmp):Prop:=o.dst=some t∨(o.dst=none/\n<=t)
theorem dstOf.put {n:Nat} {o:Oper} {t:Tmp} (h:dstOf n o t) {a:Act} (A:a.tmps.size=n) (v:Value):a.put (some t) v=a.put o.dst v:=by
 rcases h with h|⟨h,E⟩
 ·rw [h]
 ·rw [h,q_X (by omega)];rfl
theorem g_a {C:Bool->World->Prop} {T:World->World->Prop} {c:Nat} {ks:List Told} {x:Nat->Value} {G:Act} {n:Nat}:∀ (l:List Oper) (i:Nat) (a:Act),a.tmps.size=n->(∀ j e,a_E ks (i+j)=some e->∀ o,l[j]?=some o->dstOf n o e.t)->a_3 P ops C T c ks x G i l a->
  G.tmps.size=a.tmps.size/\G.defers=a.defers/\∀ t,t∉s_a l->G.tmps[t]?=a.tmps[t]?
 | [],i,a,_,_,h=>by
  obtain rfl:a=G:=h;exact ⟨rfl,rfl,fun _ _=>rfl⟩
 | o :: l,i,a,hn,hk,h=>by
  obtain ⟨v,I⟩:∃ v,a_3 P ops C T c ks x G (i+1) l (a.put o.dst v):=by
   rw [a_3] at h
   split at h
   ·obtain ⟨v,_,E⟩:=h;exact ⟨v,E⟩
   ·rename_i e he
    have:=hk 0 e he o rfl;exact ⟨_,by rw [<- this.put hn];exact h.2⟩
  obtain ⟨J,E,O⟩:=g_a l (i+1) _ (by rw [a_V];exact hn) (fun j e he o R=>hk (j+1) e (by rw [show i+(j+1)=i+1+j by omega];exact he) o (by simpa using R)) I;refine ⟨by rw [J,a_V],by rw [E,c_k],fun t H=>?_⟩
  rw [O t (fun M=>H (by
   obtain ⟨x,L,A⟩:=mem_filterMap.1 M;exact mem_filterMap.2 ⟨x,mem_cons_of_mem _ L,A⟩)),b_T (fun A=>H (mem_filterMap.2 ⟨o,mem_cons_self,A⟩))]
/-- What an operation yields in the last frame G. -/
def g_R (P:Program) (ops:Array Oper) (C:Bool->World->Prop) (T:World->World->Prop) (c:Nat) (ks:List Told) (x:Nat->Value) (G:Act) (i:Nat) (o:Oper):Prop:=
 match a_E ks i with
  | none=>∀ b F,FamC (C b) F->b_Y ops ks o x F->(Region.wanted o (yielded ops G.tmps)=true/\∃ v,(∀ t,o.dst=some t->G.tmps[t]?=some v)/\∀ d,o.quietAt P G (fun W=>∃ d,W=F d) (F d) v)∨(Region.wanted o (yielded ops G.tmps)=false/\∀ t,o.dst=some t->G.tmps[t]?=some undef)
  | some e=>Region.wanted o (yielded ops G.tmps)=true/\(i≠c->∀ b F,FamC (C b) F->b_Y ops ks o x F->∀ d,a_j P o G (F d) e.φ)/\(i=c->∀ W,C false W->b_Y ops ks o x (fun _=>W)->b_i P o G W (fun v W'=>e.φ v W'/\C true W'/\T W W'))
theorem m_l {C:Bool->World->Prop} {T:World->World->Prop} {c:Nat} {ks:List Told} {x:Nat->Value} {G:Act} (n:Nat):∀ (l:List Oper) (i:Nat) (a:Act),a.tmps.size=n->(∀ o,o∈l->∀ cs b,o.op≠.select cs b)->d_6 ops n l=true->
  (∀ j e,a_E ks (i+j)=some e->∀ o,l[j]?=some o->dstOf n o e.t)->a_3 P ops C T c ks x G i l a->∀ j o,l[j]?=some o->g_R P ops C T c ks x G (i+j) o
 | [],_,_,_,_,_,_,_,j,o,O=>by simp at O
 | o :: l,i,a,hn,hs,V,hk,h,j,p,hp=>by
  have aa:=g_a (o :: l) i a hn hk h;rw [d_6,Bool.and_eq_true,Bool.and_eq_true] at V;obtain ⟨⟨I,L⟩,V⟩:=V
  have E:∀ t,t∈o.looksAt ops->G.tmps[t]?=a.tmps[t]?:=fun t J=>aa.2.2 t (fun hm=>by
   have:=all_eq_true.1 L t hm;simp at this;exact this J)
  have he:=c_e (ops:=ops) (hs o mem_cons_self) E;have hw:=b_J E;have M:∀ j e,a_E ks (i+1+j)=some e->∀ o,l[j]?=some o->dstOf n o e.t:=fun j e he o O=>hk (j+1) e (by rw [show i+(j+1)=i+1+j by omega];exact he) o (by simpa using O)
  have H:∀ v,a_3 P ops C T c ks x G (i+1) l (a.put o.dst v)->∀ j p,(o :: l)[j+1]?=some p->g_R P ops C T c ks x G (i+(j+1)) p:=fun v Z j p hp=>by
   have:=m_l n l (i+1) (a.put o.dst v) (by rw [a_V];exact hn) (fun o O=>hs o (mem_cons_of_mem _ O)) V M Z j p (by simpa using hp);rw [show i+(j+1)=i+1+j by omega];exact this
  have A:∀ v,a_3 P ops C T c ks x G (i+1) l (a.put o.dst v)->∀ t,o.dst=some t->G.tmps[t]?=some v:=by
   intro v Z t J;rw [J] at I Z;simp at I;rw [(g_a l (i+1) _ (by rw [a_V];exact hn) M Z).2.2 t I.2,c_J (by rw [hn];exact I.1)]
  rw [a_3] at h;cases R:a_E ks i with
  | none=>
   rw [R] at h;obtain ⟨v,h1,h2⟩:=h;cases j with
   | succ j=>exact H v h2 j p hp
   | zero=>
    simp only [getElem?_cons_zero,Option.some.injEq] at hp;subst hp;unfold g_R;rw [Nat.add_zero,R];intro b F hF hf;have h3:=h1 b F hF hf;by_cases c:Region.wanted o (yielded ops a.tmps)=true
    ·rw [if_pos c] at h3;obtain ⟨u,hu,hK⟩:=h3 (fun a'=>a'=a.put o.dst v) rfl
     left
     refine ⟨hw.trans c,u,?_,fun d=>?_⟩
     ·intro t J;rw [A v h2 t J];rw [J] at hK I;simp at I;have e1:(a.put (some t) u).tmps[t]?=(a.put (some t) v).tmps[t]?:=congrArg (fun a=>a.tmps[t]?) hK;rw [c_J (by rw [hn];exact I.1),c_J (by rw [hn];exact I.1)] at e1;exact e1.symm
     ·have:=hu _ ⟨d,rfl⟩;unfold Oper.quietAt at *;rw [he];exact this
    ·rw [if_neg c] at h3
     right
     refine ⟨hw.trans (by simpa using c),fun t J=>?_⟩;rw [A v h2 t J,h3]
  | some e=>
   rw [R] at h;have ad:=hk 0 e R o rfl;cases j with
   | succ j=>exact H (x e.k) (by rw [<- ad.put hn];exact h.2) j p hp
   | zero=>
    simp only [getElem?_cons_zero,Option.some.injEq] at hp;subst hp;unfold g_R;rw [Nat.add_zero,R];obtain ⟨g1,g2,g3⟩:=h.1;refine ⟨hw.trans g1,fun ab b F hF hf d=>?_,fun ac W hW hf=>?_⟩
    ·have:=g2 ab b F hF hf d;unfold a_j at *;rw [he];exact this
    ·have:=g3 ac W hW hf;unfold b_i at *;rw [he];exact this
/-- The shape of the segment from k to m: what stands from m on waits for all of it. -/
def t_k (ops:Array Oper) (k m:Nat):Bool:=
 decide (m<=ops.size) && Region.noSelect ops &&
 ((range ops.size).all fun i=>match ops[i]? with
  | none=>false
  | some o=>(o.after.all fun e=>!Region.binds .any e || decide (e.on < i)) && (decide (i<=m) || (range i).any fun j=>decide (m<=j) && b_v o j)) &&
 (decide (ops.size<=m) || (range m).all fun j=>decide (j < k) || (range (m+1)).any fun n=>decide (j < n) && match ops[n]? with
  | none=>false
  | some o=>b_v o j) &&
 ((range m).all fun i=>decide (i < k) || match ops[i]? with
  | none=>false
  | some o=>(range m).all fun j=>decide (j < k) || match (ops[j]?).bind (·.dst) with
   | none=>true
   | some t=>(!(o.looksAt ops).contains t || b_v o j) && (i==j || o.dst != some t))
/-- Each told operation is in the segment and writes the slot that it names; no two of them write one slot. -/
def o_N (ops:Array Oper) (ks:List Told) (k m n:Nat):Bool:=
 (ks.all fun e=>decide (k<=e.k) && decide (e.k < m) && (decide (e.t < n) && (((ops[e.k]?).bind (·.dst))==some e.t) || decide (n<=e.t) && (((ops[e.k]?).bind (·.dst))==none) && ops.toList.all fun o=>!(o.looksAt ops).contains e.t)) && decide (ks.map (·.t)).Nodup && decide (ks.map (·.k)).Nodup
structure InvS (ops:Array Oper) (C:Bool->World->Prop) (c:Nat) (ks:List Told) (k m:Nat) (G:Act) (listed:Array Bool) (s:Act) (W:World) (x:Nat->Value):Prop where
 size:listed.size=ops.size
 done:∀ j,j < k->listed.getD j false=true
 head:∀ j,m<=j->j < ops.size->listed.getD j true=false
 fsize:s.tmps.size=G.tmps.size
 fdef:s.defers=G.defers
 slot:∀ t,(∀ j o,k<=j->j < m->ops[j]?=some o->o.dst=some t->listed.getD j false=true)->s.tmps[t]?=G.tmps[t]?
 cls:C (listed.getD c false) W
 told:∀ e,e∈ks->listed.getD e.k false=true->e.φ (x e.k) W
 closed:∀ j o,ops[j]?=some o->listed.getD j false=true->∀ e∈o.after,Region.binds .any e=true->listed.getD e.on false=true
theorem InvS.all {C:Bool->World->Prop} {c:Nat} {W:World} {ks:List Told} {k m:Nat} {G s:Act} {A:Array Bool} {x:Nat->Value} (H:InvS ops C c ks k m G A s W x) (h:∀ j,j < m->A.getD j false=true):s=G:=by
 have E:s.tmps=G.tmps:=Array.ext_getElem? fun t=>H.slot t fun j _ _ J _ _=>h j J;have I:=H.fdef;cases s;cases G;simp only at E I;rw [E,I]
theorem q_Y {C:Bool->World->Prop} {T:World->World->Prop} {c:Nat} {ks:List Told} {k m n:Nat} {G:(Nat->Value)->Act} {G0:Act} (hB:t_k ops k m=true) (hK:o_N ops ks k m n=true) (bd:k<=m)
  (hC:∀ b W W',C b W->Below W.heap.size W W'->C b W')
  (a3:(∃ e,e∈ks/\e.k=c)∨m<=c)
  (hφ:∀ e,e∈ks->∀ v W W',e.φ v W->Below W.heap.size W W'->e.φ v W')
  (hT:∀ e,e∈ks->e.k≠c->∀ v W W',e.φ v W->C false W->T W W'->e.φ v W')
  (hG:∀ x,G x=b_q ks x G0) (hn:G0.tmps.size=n)
  (aT:∀ x i o,k<=i->i < m->ops[i]?=some o->g_R P ops C T c ks x (G x) i o)
  (ht:∀ W x,C (decide (c < m)) W->(∀ e,e∈ks->e.φ (x e.k) W)->e_a P ops Q m (G x) W):
  ∀ (fuel:Nat) (A:Array Bool) (s:Act) (W:World) (x:Nat->Value),A.toList.count false=fuel->InvS ops C c ks k m (G x) A s W x->wpAny P .any ops Q fuel A s W:=by
 simp only [t_k,Bool.and_eq_true,decide_eq_true_eq] at hB;obtain ⟨⟨⟨⟨hm,aU⟩,al⟩,am⟩,hX⟩:=hB;simp only [o_N,Bool.and_eq_true,decide_eq_true_eq] at hK;obtain ⟨⟨hK,a6⟩,a5⟩:=hK
 have aM:∀ e,e∈ks->(k<=e.k/\e.k < m)/\((e.t < n/\(ops[e.k]?).bind (·.dst)=some e.t)∨((n<=e.t/\(ops[e.k]?).bind (·.dst)=none)/\∀ o,o∈ops->(o.looksAt ops).contains e.t=false)):=by
  intro e he;have:=all_eq_true.1 hK e he;simp only [Bool.and_eq_true,Bool.or_eq_true,decide_eq_true_eq,beq_iff_eq] at this;refine ⟨this.1,this.2.imp id fun h=>⟨h.1,fun o L=>?_⟩⟩;have:=all_eq_true.1 h.2 o (Array.mem_toList_iff.2 L);simpa using this
 have hb:∀ i o,ops[i]?=some o->∀ e∈o.after,Region.binds .any e=true->e.on < i:=by
  intro i o L e he ba;have:=all_eq_true.1 al i (mem_range.2 (Array.getElem?_eq_some_iff.1 L).1);simp only [L,Bool.and_eq_true] at this;have O:=Array.all_eq_true_iff_forall_mem.1 this.1 e he;simpa [ba] using O
 have a1:∀ i o,ops[i]?=some o->m < i->∃ j,m<=j/\j < i/\b_v o j=true:=by
  intro i o L hj;have:=all_eq_true.1 al i (mem_range.2 (Array.getElem?_eq_some_iff.1 L).1);simp only [L,Bool.and_eq_true] at this;have:=this.2;simp only [Bool.or_eq_true,decide_eq_true_eq] at this;rcases this with h|h
  ·omega
  ·obtain ⟨j,a7,aH⟩:=any_eq_true.1 h;simp only [Bool.and_eq_true,decide_eq_true_eq] at aH;exact ⟨j,aH.1,mem_range.1 a7,aH.2⟩
 have hS:m < ops.size->∀ j,k<=j->j < m->∃ n o,j < n/\n<=m/\ops[n]?=some o/\b_v o j=true:=by
  intro ar j ab hj;rw [Bool.or_eq_true] at am;rcases am with h|h
  ·simp at h;omega
  ·have h0:=all_eq_true.1 h j (mem_range.2 hj);rw [Bool.or_eq_true] at h0;rcases h0 with h0|h0
   ·simp at h0;omega
   ·obtain ⟨n,hk,O⟩:=any_eq_true.1 h0;simp only [Bool.and_eq_true,decide_eq_true_eq] at O;have aG:n < ops.size:=by have:=mem_range.1 hk;omega
    have L:ops[n]?=some ops[n]:=Array.getElem?_eq_getElem aG;rw [L] at O;exact ⟨n,_,O.1,by have:=mem_range.1 hk;omega,L,O.2⟩
 have aY:∀ i o,k<=i->i < m->ops[i]?=some o->∀ j t,k<=j->j < m->(ops[j]?).bind (·.dst)=some t->(t∈o.looksAt ops->b_v o j=true)/\(i≠j->o.dst≠some t):=by
  intro i o aw hi L j t ab hj hd;have h0:=all_eq_true.1 hX i (mem_range.2 hi);rw [Bool.or_eq_true] at h0;have h0:_:=h0.resolve_left (by simp;omega);simp only [L] at h0;have O:=all_eq_true.1 h0 j (mem_range.2 hj);rw [Bool.or_eq_true] at O;have this:=O.resolve_left (by simp;omega);simp only [hd,Bool.and_eq_true,Bool.or_eq_true,bne_iff_ne,beq_iff_eq,Bool.not_eq_true',contains_eq_mem,decide_eq_false_iff_not] at this;refine ⟨fun hl=>?_,fun ao=>?_⟩
  ·rcases this.1 with h|h
   ·exact absurd hl h
   ·exact h
  ·rcases this.2 with h|h
   ·exact absurd h ao
   ·exact h
 have aa:∀ x,(G x).tmps.size=n:=fun x=>by rw [hG,e_4];exact hn
 have a8:∀ x e,e∈ks->e.t < n->(G x).tmps[e.t]?=some (x e.k):=fun x e he ar=>by
  rw [hG];exact h_i x ks G0 a6 e he (by rw [hn];exact ar)
 have ai:∀ (A:Array Bool) (s:Act) (W:World) (x:Nat->Value),InvS ops C c ks k m (G x) A s W x->(∀ j,j < m->A.getD j false=true)->wpAny P .any ops Q (A.toList.count false) A s W:=by
  intro A s W x E H;have hs:=E.all H;have hl:=q_W E.size hm H E.head
  have aJ:A.getD c false=decide (c < m):=by
   rw [hl];rcases Nat.lt_or_ge c m with h|h
   ·rw [f_9 h];simp [h]
   ·have:decide (c < m)=false:=by simp;omega
    rw [this];rcases Nat.lt_or_ge c ops.size with h'|h'
    ·exact d_F h h' _
    ·exact j_4 hm h' _
  have h:=ht W x (by rw [<- aJ];exact E.cls) (fun e he=>E.told e he (H _ (aM e he).1.2));unfold e_a at h;rw [hl,d_W hm,hs];exact h
 intro fuel
 induction fuel with
 | zero=>
  intro A s W x hc E;have H:∀ j,j < m->A.getD j false=true:=fun j hj=>f_1 (by rw [E.size];omega) (b_0 hc j);have:=ai A s W x E H;rw [hc] at this;exact this
 | succ fuel ih=>
  intro A s W x hc E
  refine ⟨fun hr=>by
   obtain ⟨i,hi⟩:=e_3 hc;exact absurd hr (e_i E.size hb i hi),fun i hi=>?_⟩
  obtain ⟨ak,o,L,H⟩:=mem_ready.1 hi;have aX:i < ops.size:=(Array.getElem?_eq_some_iff.1 L).1
  have aw:k<=i:=by
   rcases Nat.lt_or_ge i k with h|h
   ·have O:=E.done i h;have h2:=(b_w ak).2;rw [O] at h2;cases h2
   ·exact h
  rcases Nat.lt_or_ge i m with az|az
  ·have aA:∀ t,t∈o.looksAt ops->s.tmps[t]?=(G x).tmps[t]?:=fun t af=>
    E.slot t fun j oj ab hj ac hd=>a_w ((aY i o aw az L j t ab hj (by rw [ac];exact hd)).1 af) H
   have he:=c_e (ops:=ops) (Region.noSelect_spec aU i o · · L) aA;have aC:=b_J aA
   have ae:∀ e,e∈ks->(o.looksAt ops).contains e.t=true->A.getD e.k false=true:=fun e M af=>by
    obtain ⟨O,⟨_,h3⟩|h3⟩:=aM e M
    ·exact a_w ((aY i o aw az L e.k e.t O.1 O.2 h3).1 (by simpa using af)) H
    ·have:=h3.2 o (Array.mem_of_getElem? L);rw [af] at this;cases this
   have av:b_Y ops ks o x (e_1 W):=fun e M af d=>hφ e M _ _ _ (E.told e M (ae e M af)) (a_5 W d);have ah:=aT x i o aw az L;unfold g_R at ah;have aP:=o_M (hC (A.getD c false)) E.cls;obtain ⟨d0,aW⟩:=f_z (Below.refl W.heap.size W)
   have au:∀ e,e∈ks->e.k≠i->(A.setIfInBounds i true).getD e.k false=true->A.getD e.k false=true:=fun e _ ao h=>by
    rw [getD_set_ne false (Ne.symm ao)] at h;exact h
   have ap:∀ j,j < k->(A.setIfInBounds i true).getD j false=true:=fun j hj=>by rw [getD_set_ne false (by omega)];exact E.done j hj
   unfold wpOp;simp only [L];cases an:a_E ks i with
   | none=>
    rw [an] at ah;have ah:=ah _ _ aP av;have aR:=f_3 an
    have bb:i≠c:=by
     rcases a3 with ⟨e,a2,a9⟩|h
     ·rw [<- a9];exact fun h=>aR e a2 h.symm
     ·omega
    have R:∀ (v:Value) (W':World),(∀ t,o.dst=some t->(G x).tmps[t]?=some v)->Below W.heap.size W W'->wpAny P .any ops Q fuel (A.setIfInBounds i true) (s.put o.dst v) W':=by
     intro v W' hv aN;refine ih _ _ W' x (c_f ak hc) ⟨by simpa using E.size,ap,fun j hj aI=>by rw [getD_set_ne true (by omega)];exact E.head j hj aI,by rw [a_V];exact E.fsize,by rw [c_k];exact E.fdef,fun t ag=>?_,by rw [getD_set_ne false bb];exact hC _ _ _ E.cls aN,fun e M hl=>hφ e M _ _ _ (E.told e M (au e M (aR e M) hl)) aN,d_T L H E.closed⟩;by_cases hd:o.dst=some t
     ·rw [hv t hd,hd];exact c_J (by rw [E.fsize];exact (Array.getElem?_eq_some_iff.1 (hv t hd)).1)
     ·rw [b_T hd];refine E.slot t fun j oj ab hj ac aq=>?_;have:=ag j oj ab hj ac aq;by_cases c:i=j
      ·subst c;rw [L] at ac;cases ac;exact absurd aq hd
      ·rw [getD_set_ne false c] at this;exact this
    rcases ah with ⟨hw,v,hv,hq⟩|⟨hw,hu⟩
    ·rw [if_pos (aC.trans hw)]
     left
     have hq:=hq d0;rw [<- aW] at hq;unfold Oper.wp;unfold Oper.quietAt at hq;rw [he];generalize (execOp (G x).eval o).run P W=r at hq;cases r with
     | halt x w'=>exact hq.elim
     | ok n w'=>
      cases n <;> simp only [Oper.quietUpon] at hq <;> simp only [Oper.upon]
      case value u=>
       obtain ⟨e1,e2⟩:=hq;rw [e1,e2];exact R v W hv (Below.refl _ _)
      case skip=>
       obtain ⟨e1,e2⟩:=hq;rw [e1,<- e2];exact R v W hv (Below.refl _ _)
      case enter f args=>
       obtain ⟨e1,hc⟩:=hq;rw [e1];exact hc.mono fun e ay ⟨he,d,aS⟩=>by subst he;rw [aS];exact R v _ hv (a_5 W d)
    ·rw [if_neg (by rw [aC,hw];exact Bool.false_ne_true)];exact R undef W hu (Below.refl _ _)
   | some e=>
    rw [an] at ah;obtain ⟨M,aZ⟩:=b_K an;subst aZ
    have ad:(e.t < n/\o.dst=some e.t)∨(n<=e.t/\o.dst=none):=by
     have:=(aM e M).2;rw [L] at this;exact this.imp id fun h=>h.1
    have aB:∀ I,I∈ks->I.k=e.k->I=e:=fun I V hk=>by
     have O:=e_5 ks a5 I V;rw [hk,an] at O;exact (Option.some.inj O).symm
    have R:∀ (v:Value) (W':World),e.φ v W'->C ((A.setIfInBounds e.k true).getD c false) W'->(∀ I,I∈ks->I.k≠e.k->∀ u,A.getD I.k false=true->I.φ u W->I.φ u W')->wpAny P .any ops Q fuel (A.setIfInBounds e.k true) (s.put o.dst v) W':=by
     intro v W' hv aV aL;refine ih _ _ W' (upd x e.k v) (c_f ak hc) ⟨by simpa using E.size,ap,fun j hj aI=>by rw [getD_set_ne true (by omega)];exact E.head j hj aI,by rw [a_V,E.fsize,aa,aa],by rw [c_k,E.fdef,hG,hG,c_V,c_V],fun t ag=>?_,aV,fun I Z hl=>?_,d_T L H E.closed⟩
     ·by_cases hd:o.dst=some t
      ·rw [hd];rcases ad with ⟨ar,ad⟩|⟨_,ad⟩
       case inr=>rw [ad] at hd;cases hd
       obtain rfl:e.t=t:=by rw [ad] at hd;exact Option.some.inj hd
       rw [a8 _ e M ar,c_J (by rw [E.fsize,aa];exact ar)];show some v=some (if e.k=e.k then v else x e.k);rw [if_pos rfl]
      ·by_cases aD:n<=t
       ·rw [b_T hd,Array.getElem?_eq_none (by rw [E.fsize,aa];exact aD),Array.getElem?_eq_none (by rw [aa];exact aD)]
       rw [b_T hd,hG,f_2 x e.k v t ks G0 G0 rfl rfl (fun I V aG hh=>by
        have aO:e.t=t:=by rw [<- aB I V aG];exact hh
        rcases ad with ⟨_,ad⟩|⟨a0,_⟩
        ·exact hd (by rw [ad,aO])
        ·exact aD (aO ▸ a0)),<- hG]
       refine E.slot t fun j oj ab hj ac aq=>?_;have:=ag j oj ab hj ac aq;by_cases c:e.k=j
       ·subst c;rw [L] at ac;cases ac;exact absurd aq hd
       ·rw [getD_set_ne false c] at this;exact this
     ·by_cases c:I.k=e.k
      ·obtain rfl:=aB I Z c;show I.φ (if I.k=I.k then v else x I.k) W';rw [if_pos rfl];exact hv
      ·show I.φ (if I.k=e.k then v else x I.k) W';rw [if_neg c];have ax:=au I Z c hl;exact aL I Z c _ ax (E.told I Z ax)
    obtain ⟨hw,hy,hz⟩:=ah;rw [if_pos (aC.trans hw)]
    left
    by_cases aj:e.k=c
    ·have aJ:A.getD c false=false:=by rw [<- aj];exact (b_w ak).2
     have aE:=E.cls;rw [aJ] at aE;have hy:=hz aj W aE (fun I Z af _=>E.told I Z (ae I Z af))
     have a4:(A.setIfInBounds e.k true).getD c false=true:=by
      rw [aj] at ak ⊢;have:=(b_w ak).1;simp [this]
     have J:∀ (v:Value) (W':World),(e.φ v W'/\C true W'/\T W W')->wpAny P .any ops Q fuel (A.setIfInBounds e.k true) (s.put o.dst v) W':=fun v W' ⟨O,h2,h3⟩=>
      R v W' O (by rw [a4];exact h2) (fun I V ao u _ hu=>hT I V (by rw [<- aj];exact ao) u W W' hu aE h3)
     unfold Oper.wp;unfold b_i at hy;rw [he];generalize (execOp (G x).eval o).run P W=r at hy;cases r with
     | halt x w'=>exact hy.elim
     | ok n w'=>
      cases n <;> simp only [a_Z] at hy <;> simp only [Oper.upon]
      case value u=>exact J u w' hy
      case skip=>exact J undef w' hy
      case enter f args=>
       obtain ⟨e1,hc⟩:=hy;rw [e1];exact hc.mono fun I ay ⟨v,V,O⟩=>by subst V;exact J v ay O
    ·have hy:=hy aj _ _ aP av d0;rw [<- aW] at hy
     have J:∀ (v:Value) (W':World),e.φ v W'->Below W.heap.size W W'->wpAny P .any ops Q fuel (A.setIfInBounds e.k true) (s.put o.dst v) W':=fun v W' O h2=>
      R v W' O (by rw [getD_set_ne false aj];exact hC _ _ _ E.cls h2) (fun I V _ u _ hu=>hφ I V u W W' hu h2)
     unfold Oper.wp;unfold a_j at hy;rw [he];generalize (execOp (G x).eval o).run P W=r at hy;cases r with
     | halt x w'=>exact hy.elim
     | ok n w'=>
      cases n <;> simp only [a_e] at hy <;> simp only [Oper.upon]
      case value u=>exact J u w' hy.1 hy.2
      case skip=>exact J undef w' hy.1 hy.2
      case enter f args=>
       obtain ⟨e1,hc⟩:=hy;rw [e1];exact hc.mono fun I ay ⟨v,V,O,h2⟩=>by subst V;exact J v ay O h2
  ·obtain rfl:i=m:=by
    rcases Nat.lt_or_ge m i with c|c
    ·obtain ⟨j,h0,O,h2⟩:=a1 i o L c;have h3:=a_w h2 H;have h4:=(b_w (E.head j h0 (by omega))).2;rw [h3] at h4;cases h4
    ·omega
   have hl:∀ d j,i - j=d->k<=j->j < i->A.getD j false=true:=by
    intro d
    induction d using Nat.strongRecOn with
    | _ d ihd=>
     intro j hd ab hj;obtain ⟨n,on,bc,hn,aF,aQ⟩:=hS aX j ab hj;rcases Nat.lt_or_ge n i with c|c
     ·have:=ihd (i - n) (by omega) n rfl (by omega) c;exact a_w aQ (E.closed n on aF this)
     ·obtain rfl:n=i:=by omega
      rw [L] at aF;cases aF;exact a_w aQ H
   have ax:∀ j,j < i->A.getD j false=true:=fun j hj=>by
    rcases Nat.lt_or_ge j k with c|c
    ·exact E.done j c
    ·exact hl (i - j) j rfl c hj
   have h:=ai A s W x E ax;rw [hc] at h;exact h.2 i hi
/-- THE LAW of one segment, from k to m. -/
theorem seg {a:Act} {w:World} {l:List Oper} (C:Bool->World->Prop) (T:World->World->Prop) (c:Nat) (ks:List Told) (k m n:Nat) (hn:a.tmps.size=n) (I:l=(ops.toList.drop k).take (m - k)) (hB:(decide (k<=m) && t_k ops k m && d_6 ops n l)=true) (hK:o_N ops ks k m n=true)
  (hC:∀ b W W',C b W->Below W.heap.size W W'->C b W') (hw:C false w)
  (ae:(∃ e,e∈ks/\e.k=c)∨m<=c)
  (hφ:∀ e,e∈ks->∀ v W W',e.φ v W->Below W.heap.size W W'->e.φ v W')
  (hT:∀ e,e∈ks->e.k≠c->∀ v W W',e.φ v W->C false W->T W W'->e.φ v W')
  (h:∃ G:(Nat->Value)->Act,(∀ x,a_3 P ops C T c ks x (G x) k l a)/\(∀ x,G x=b_q ks x (G fun _=>undef))/\
   ∀ W x,C (decide (c < m)) W->(∀ e,e∈ks->e.φ (x e.k) W)->e_a P ops Q m (G x) W):e_a P ops Q k a w:=by
 obtain ⟨G,h1,h2,h3⟩:=h;simp only [Bool.and_eq_true,decide_eq_true_eq] at hB;obtain ⟨⟨E,ac⟩,ag⟩:=hB;have L:=ac;simp only [t_k,Bool.and_eq_true,decide_eq_true_eq] at L;have V:=L.1.1.1.1;have Z:=hK;simp only [o_N,Bool.and_eq_true,decide_eq_true_eq] at Z
 have ab:∀ e,e∈ks->k<=e.k/\e.k < m:=fun e O=>by
  have:=all_eq_true.1 Z.1.1 e O;simp only [Bool.and_eq_true,Bool.or_eq_true,decide_eq_true_eq,beq_iff_eq] at this;exact this.1
 have M:∀ j,k+j < m->l[j]?=ops[k+j]?:=by
  intro j H;rw [I,getElem?_take_of_lt (by omega),getElem?_drop];simp
 have hk:∀ j e,a_E ks (k+j)=some e->∀ o,l[j]?=some o->dstOf n o e.t:=by
  intro j e he o A;obtain ⟨O,aa⟩:=b_K he;have:=all_eq_true.1 Z.1.1 e O;simp only [Bool.and_eq_true,Bool.or_eq_true,decide_eq_true_eq,beq_iff_eq] at this;rw [M j (by rw [<- aa];exact this.1.2)] at A;have h4:=this.2;rw [aa,A] at h4;exact h4.imp (fun h=>h.2) fun h=>⟨h.1.2,h.1.1⟩
 have ad:∀ o,o∈l->∀ cs b,o.op≠.select cs b:=by
  intro o A cs b;rw [I] at A;obtain ⟨j,H,e⟩:=getElem_of_mem (mem_of_mem_drop (mem_of_mem_take A));exact Region.noSelect_spec L.1.1.1.2 j o cs b (by rw [<- e];simp at H ⊢)
 have ak:∀ x,(G x).tmps.size=n:=fun x=>by rw [(g_a l k a hn hk (h1 x)).1,hn]
 have R:=g_a l k a hn hk (h1 fun _=>undef);unfold e_a;refine q_Y (C:=C) (T:=T) (c:=c) (ks:=ks) (k:=k) (m:=m) (n:=n) (G:=G) (G0:=G fun _=>undef) ac hK E hC ae hφ hT h2 (ak _) (fun x i o ap hi A=>?_) h3 _ _ _ _ (fun _=>undef) ?_ ⟨f_8 (Nat.le_trans E V),fun j H=>f_9 H _,fun j H aj=>d_F (Nat.le_trans E H) aj _,R.1.symm,R.2.1.symm,fun t hc=>?_,?_,fun e he I=>?_,fun j o A I e he an=>?_⟩
 ·have:=m_l n l k a hn ad ag hk (h1 x) (i - k) o (by rw [M (i - k) (by omega),show k+(i - k)=i by omega];exact A);rw [show k+(i - k)=i by omega] at this;exact this
 ·exact d_W (Nat.le_trans E V)
 ·refine (R.2.2 t fun am=>?_).symm;obtain ⟨o,A,hd⟩:=mem_filterMap.1 am;obtain ⟨j,H,e⟩:=getElem_of_mem A;have aq:j < m - k:=by rw [I] at H;simp at H;omega
  have af:ops[k+j]?=some o:=by rw [<- M j (by omega),getElem?_eq_getElem H,e]
  have J:k+j < ops.size:=(Array.getElem?_eq_some_iff.1 af).1;have:=hc (k+j) o (by omega) (by omega) af hd;rw [d_F (by omega) J] at this;cases this
 ·have:(i_9 ops.size k).getD c false=false:=by
   have ah:k<=c:=by
    rcases ae with ⟨e,ai,al⟩|h
    ·rw [<- al];exact (ab e ai).1
    ·omega
   rcases Nat.lt_or_ge c ops.size with h|h
   ·exact d_F ah h _
   ·exact j_4 (Nat.le_trans E V) h _
  rw [this];exact hw
 ·obtain ⟨h4,h5⟩:=ab e he;rw [d_F h4 (by omega)] at I;cases I
 ·have J:j < ops.size:=(Array.getElem?_eq_some_iff.1 A).1
  have ao:j < k:=by
   rcases Nat.lt_or_ge j k with h|h
   ·exact h
   ·rw [d_F h J] at I;cases I
  have h6:=all_eq_true.1 L.1.1.2 j (mem_range.2 J);simp only [A,Bool.and_eq_true] at h6;have h7:=Array.all_eq_true_iff_forall_mem.1 h6.1 e he;have h8:e.on < j:=by simpa [an] using h7
  exact f_9 (by omega) _
theorem o_O {C:Bool->World->Prop} {T:World->World->Prop} {c:Nat} {ks:List Told} {x:Nat->Value} {G a:Act} {i:Nat} {o:Oper} {l:List Oper} (E:a_E ks i=none) (H:Region.wanted o (yielded ops a.tmps)=true)
  (h:∃ v,(∀ b F,FamC (C b) F->b_Y ops ks o x F->∀ K:Act->Prop,K (a.put o.dst v)->o.quiet P a (fun W=>∃ d,W=F d) K)/\a_3 P ops C T c ks x G (i+1) l (a.put o.dst v)):a_3 P ops C T c ks x G i (o :: l) a:=by
 rw [a_3,E];obtain ⟨v,A,I⟩:=h;exact ⟨v,fun b F hF hf=>by rw [if_pos H];exact A b F hF hf,I⟩
theorem d_n {C:Bool->World->Prop} {T:World->World->Prop} {c:Nat} {ks:List Told} {x:Nat->Value} {G a:Act} {i:Nat} {o:Oper} {l:List Oper} {v:Value} (E:a_E ks i=none) (H:Region.wanted o (yielded ops a.tmps)=true)
  (A:∀ b F,FamC (C b) F->b_Y ops ks o x F->∀ K:Act->Prop,K (a.put o.dst v)->(∀ d,C b (F d))->o.quiet P a (fun W=>∃ d,W=F d) K) (I:a_3 P ops C T c ks x G (i+1) l (a.put o.dst v)):a_3 P ops C T c ks x G i (o :: l) a:=
 o_O E H ⟨v,fun b F hF hf K hK=>A b F hF hf K hK hF.cls,I⟩
theorem a_U {C:Bool->World->Prop} {T:World->World->Prop} {c:Nat} {ks:List Told} {x:Nat->Value} {G a:Act} {i:Nat} {o:Oper} {l:List Oper} {e:Told} (H:a_E ks i=some e) (A:i≠c) (I:Region.wanted o (yielded ops a.tmps)=true)
  (E:∀ b F,FamC (C b) F->b_Y ops ks o x F->∀ d,a_j P o a (F d) e.φ) (J:a_3 P ops C T c ks x G (i+1) l (a.put (some e.t) (x e.k))):a_3 P ops C T c ks x G i (o :: l) a:=by
 rw [a_3,H];exact ⟨⟨I,fun _=>E,fun h=>absurd h A⟩,J⟩
theorem c_P {C:Bool->World->Prop} {T:World->World->Prop} {c:Nat} {ks:List Told} {x:Nat->Value} {G a:Act} {i:Nat} {o:Oper} {l:List Oper} {e:Told} (H:a_E ks i=some e) (A:i=c) (I:Region.wanted o (yielded ops a.tmps)=true)
  (E:∀ W,C false W->b_Y ops ks o x (fun _=>W)->b_i P o a W (fun v W'=>e.φ v W'/\C true W'/\T W W')) (J:a_3 P ops C T c ks x G (i+1) l (a.put (some e.t) (x e.k))):a_3 P ops C T c ks x G i (o :: l) a:=by
 rw [a_3,H];exact ⟨⟨I,fun h=>absurd A h,fun _=>E⟩,J⟩
theorem e_b {C:Bool->World->Prop} {T:World->World->Prop} {c:Nat} {ks:List Told} {x:Nat->Value} {G a:Act} {i:Nat} (h:a=G):a_3 P ops C T c ks x G i [] a:=h
end
end Go.Proofs.YtkfpainpomobfaaGreatDoor.Wd
namespace Go.Proofs
open Go.Shelf
def Tryz.lays134_ren:Go.Shelf.Ren:=⟨fun|134=>214|129=>169|n=>n,fun|53=>162|3=>3|4=>4|46=>185|5=>5|9=>9|n=>n,fun|n=>n⟩
theorem Tryz.lays134:Go.Proofs.Lays.n134 Tryz.prog Tryz.lays134_ren:={
 mixed:=by kernel_rfl
 f129:=Tryz.func169.trans (congrArg some (by kernel_rfl))
 f134:=Tryz.func214.trans (congrArg some (by kernel_rfl))
 t3:=Tryz.underlying3
 a3:=Tryz.isAgg3
 z3:=Tryz.sizeOf3
 v3:=Tryz.zeroValue3
 t4:=Tryz.underlying4
 a4:=Tryz.isAgg4
 z4:=Tryz.sizeOf4
 v4:=Tryz.zeroValue4
 t5:=Tryz.underlying5
 a5:=Tryz.isAgg5
 z5:=Tryz.sizeOf5
 v5:=Tryz.zeroValue5
 t9:=Tryz.underlying9
 a9:=Tryz.isAgg9
 z9:=Tryz.sizeOf9
 v9:=Tryz.zeroValue9
 t46:=Tryz.underlying185
 a46:=Tryz.isAgg185
 z46:=Tryz.sizeOf185
 v46:=Tryz.zeroValue185
 t53:=Tryz.underlying162
 a53:=Tryz.isAgg162
 z53:=Tryz.sizeOf162
 v53:=Tryz.zeroValue162 }
theorem Tryz.bits_LeadingZeros64 (x:Int) (w:World) (H:0<=x) (A:x<=18446744073709551615):
  Calls Tryz.prog 214 #[.int .u64 x] w fun e E=>e = .returned (.int .i64 (64 - (Lib.bitLen x.toNat:Int)))/\E=w:=Any.bits_LeadingZeros64 Tryz.lays134 x w H A
def Tryz.lays264_ren:Go.Shelf.Ren:=⟨fun|264=>176|n=>n,fun|53=>162|46=>185|n=>n,fun|n=>n⟩
theorem Tryz.lays264:Go.Proofs.Lays.n264 Tryz.prog Tryz.lays264_ren:={
 mixed:=by kernel_rfl
 f264:=Tryz.func176.trans (congrArg some (by kernel_rfl))
 t46:=Tryz.underlying185
 a46:=Tryz.isAgg185
 z46:=Tryz.sizeOf185
 v46:=Tryz.zeroValue185
 t53:=Tryz.underlying162
 a53:=Tryz.isAgg162
 z53:=Tryz.sizeOf162
 v53:=Tryz.zeroValue162 }
open Go.RowKit Go.Lib in
theorem Tryz.bits_Mul64 (x y:Nat) (A:x < 18446744073709551616) (E:y < 18446744073709551616) (w:World):
  Calls Tryz.prog 176 #[.int .u64 x,.int .u64 y] w fun e H=>e = .returned (.tuple #[.int .u64 ((x*y / 18446744073709551616:Nat):Int),.int .u64 ((x*y % 18446744073709551616:Nat):Int)])/\H=w:=Any.bits_Mul64 Tryz.lays264 x y A E w
def Tryz.lays212_ren:Go.Shelf.Ren:=⟨fun|212=>209|263=>218|264=>176|n=>n,fun|46=>185|51=>227|146=>258|53=>162|148=>232|n=>n,fun|n=>n⟩
theorem Tryz.lays212:Go.Proofs.Lays.n212 Tryz.prog Tryz.lays212_ren:={
 mixed:=by kernel_rfl
 f212:=Tryz.func209.trans (congrArg some (by kernel_rfl))
 f263:=Tryz.func218.trans (congrArg some (by kernel_rfl))
 f264:=Tryz.func176.trans (congrArg some (by kernel_rfl))
 t46:=Tryz.underlying185
 a46:=Tryz.isAgg185
 z46:=Tryz.sizeOf185
 v46:=Tryz.zeroValue185
 t51:=Tryz.underlying227
 a51:=Tryz.isAgg227
 z51:=Tryz.sizeOf227
 v51:=Tryz.zeroValue227
 t53:=Tryz.underlying162
 a53:=Tryz.isAgg162
 z53:=Tryz.sizeOf162
 v53:=Tryz.zeroValue162
 t146:=Tryz.underlying258
 a146:=Tryz.isAgg258
 z146:=Tryz.sizeOf258
 v146:=Tryz.zeroValue258
 t148:=Tryz.underlying232
 a148:=Tryz.isAgg232
 z148:=Tryz.sizeOf232
 v148:=Tryz.zeroValue232 }
open Go.RowKit Go.Lib in
theorem Tryz.bits_Mul (x y:Nat) (A:x < 18446744073709551616) (E:y < 18446744073709551616) (w:World):
  Calls Tryz.prog 209 #[.int .u64 x,.int .u64 y] w fun e H=>e = .returned (.tuple #[.int .u64 ((x*y / 18446744073709551616:Nat):Int),.int .u64 ((x*y % 18446744073709551616:Nat):Int)])/\H=w:=Any.bits_Mul Tryz.lays212 x y A E w
end Go.Proofs
namespace Go.Proofs.YtkfpainpomobfaaGreatDoor.Fx
open Go.RowKit List World Nat
theorem ret_int {k:IntKind} {a b:Int} (h:a=b):Ending.returned (.int k a) = .returned (.int k b):=by rw [h]
theorem bound_any (b:Bool) (w:World):
  Calls Tryz.prog 175 #[.bool b] w fun e A=>e = .returned (.int .i64 (lim b))/\A=w:=by
 cases b
 all_goals
  go_enter Tryz.func175,Tryz.ntmps175;go_wp2;go_ret;exact ⟨rfl,rfl⟩
theorem size_any (a:Int) (n:Nat) (I:InR a) (A:a.natAbs=n) (w:World):
  Calls Tryz.prog 177 #[.int .i64 a] w fun e E=>e = .returned (.int .u64 n)/\E=w:=by
 unfold InR at I;have H:Hid (a.natAbs=n):=A;clear A;by_cases h:a < 0
 all_goals
  go_enter Tryz.func177,Tryz.ntmps177;go_wp2;go_ret;refine ⟨ret_int ?_,rfl⟩;have A:=H.out
  try simp only [IntKind.wrap_u64]
  omega
theorem j_5 (b:Bool) (n:Nat) (E:n < 18446744073709551616) (w:World):
  Calls Tryz.prog 178 #[.bool b,.int .u64 n] w fun e A=>e = .returned (.int .i64 (hold (sg b n)))/\A=w:=by
 by_cases h:9223372036854775807 < n
 ·go_enter Tryz.func178,Tryz.ntmps178;go_wp2_with (go_at_call 175;refine (bound_any _ _).mono ?_;rintro e A ⟨rfl,rfl⟩)
  go_ret;exact ⟨ret_int (h_l b n h),rfl⟩
 ·cases b
  all_goals
   go_enter Tryz.func178,Tryz.ntmps178;go_wp2;go_ret
   first|exact ⟨ret_int (q_H n (by omega)),rfl⟩|exact ⟨ret_int (l_8 n (by omega)),rfl⟩
theorem g_b (q r d:Nat) (H:q < 18446744073709551615) (I:r < d) (E:d<=9223372036854775808) (w:World):
  Calls Tryz.prog 208 #[.int .u64 q,.int .u64 r,.int .u64 d] w fun e A=>e = .returned (.int .u64 (nr q r d:Nat))/\A=w:=by
 go_enter Tryz.func208,Tryz.ntmps208;go_wp2
 all_goals
  go_ret;refine ⟨ret_int ?_,rfl⟩
  try simp only [beq_iff_eq,beq_eq_false_iff_ne,ne_eq] at *
  unfold nr
  split <;> omega
theorem j_a (E A:Nat) (J:E < 2147483648) (H:A < 18446744073709551616) (w:World):
  Calls Tryz.prog 179 #[.int .u64 E,.int .u64 A] w fun e I=>e = .returned (.int .u64 (rq (E*18446744073709551616+A) 4294967296:Nat))/\I=w:=by
 go_enter Tryz.func179,Tryz.ntmps179;go_wp2_with fail
 rw [joinN E A (by omega) H,t_v A H];have c:=g_b (E*4294967296+A / 4294967296) (A % 4294967296) 4294967296 (by omega) (by omega) (by omega) w;rw [show ((4294967296:Nat):Int)=4294967296 from rfl] at c;refine c.mono ?_;rintro e I ⟨rfl,rfl⟩;go_wp2;go_ret;refine ⟨ret_int ?_,rfl⟩;rw [<- o_B,q_I,q_J]
theorem of_any (n:Int) (A:InR n) (w:World):
  Calls Tryz.prog 215 #[.int .i64 n] w fun e E=>e = .returned (.int .i64 (hold (n*4294967296)))/\E=w:=by
 unfold InR at A;by_cases H:n > 2147483647
 ·go_enter Tryz.func215,Tryz.ntmps215;go_wp2;go_ret;exact ⟨ret_int (e_7 (by omega)).symm,rfl⟩
 ·by_cases I:n < -2147483648
  ·go_enter Tryz.func215,Tryz.ntmps215;go_wp2;go_ret;exact ⟨ret_int (e_8 (by omega)).symm,rfl⟩
  ·go_enter Tryz.func215,Tryz.ntmps215;go_wp2;go_ret;refine ⟨ret_int ?_,rfl⟩;rw [d_B (by omega) (by omega)]
theorem add_any (a b:Int) (E:InR a) (hb:InR b) (w:World):
  Calls Tryz.prog 146 #[.int .i64 a,.int .i64 b] w fun e A=>e = .returned (.int .i64 (hold (a+b)))/\A=w:=by
 go_enter Tryz.func146,Tryz.ntmps146;go_wp2_with (go_at_call 175;refine (bound_any _ _).mono ?_;rintro e A ⟨rfl,rfl⟩)
 all_goals
  go_ret
  first
  |exact ⟨ret_int (l_9 a b E hb ‹_›),rfl⟩
  |exact ⟨ret_int (o_y a b E hb ‹_›),rfl⟩
theorem sub_any (a b:Int) (E:InR a) (hb:InR b) (w:World):
  Calls Tryz.prog 147 #[.int .i64 a,.int .i64 b] w fun e A=>e = .returned (.int .i64 (hold (a - b)))/\A=w:=by
 go_enter Tryz.func147,Tryz.ntmps147;go_wp2_with (go_at_call 175;refine (bound_any _ _).mono ?_;rintro e A ⟨rfl,rfl⟩)
 all_goals
  go_ret
  first
  |exact ⟨ret_int (m_a a b E hb ‹_›),rfl⟩
  |exact ⟨ret_int (o_A a b E hb ‹_›),rfl⟩
theorem o_P (x y E A:Nat) (H:x < 18446744073709551616) (J:y < 18446744073709551616) (I:E=x*y / 18446744073709551616) (M:A=x*y % 18446744073709551616) (w:World):
  Calls Tryz.prog 176 #[.int .u64 x,.int .u64 y] w fun e L=>e = .returned (.tuple #[.int .u64 E,.int .u64 A])/\L=w:=by
 subst I M;exact Tryz.bits_Mul64 x y H J w
theorem mul_any (a b:Int) (R:InR a) (hb:InR b) (w:World):
  Calls Tryz.prog 148 #[.int .i64 a,.int .i64 b] w fun e I=>e = .returned (.int .i64 (mulI a b))/\I=w:=by
 have hx:a.natAbs<=9223372036854775808:=by unfold InR at R;omega
 have hy:b.natAbs<=9223372036854775808:=by unfold InR at hb;omega
 obtain ⟨x,L⟩:∃ x,a.natAbs=x:=⟨_,rfl⟩
 obtain ⟨y,J⟩:∃ y,b.natAbs=y:=⟨_,rfl⟩
 obtain ⟨A,V⟩:∃ A,A=x*y / 18446744073709551616:=⟨_,rfl⟩
 obtain ⟨H,Z⟩:∃ H,H=x*y % 18446744073709551616:=⟨_,rfl⟩
 have hh:A<=4611686018427387904:=by
  have:=Nat.mul_le_mul (L ▸ hx) (J ▸ hy);omega
 have hl:H < 18446744073709551616:=by omega
 have E:Hid (a.natAbs=x/\b.natAbs=y/\A=x*y / 18446744073709551616/\H=x*y % 18446744073709551616):=⟨L,J,V,Z⟩
 have O:x < 18446744073709551616:=by omega
 have M:y < 18446744073709551616:=by omega
 clear L J V Z;by_cases hf:A < 2147483648
 all_goals
  go_enter Tryz.func148,Tryz.ntmps148;go_wp2_with fail
  refine (size_any a x R E.1 _).mono ?_;rintro e I ⟨rfl,rfl⟩;go_wp2_with fail
  refine (size_any b y hb E.2.1 _).mono ?_;rintro e I ⟨rfl,rfl⟩;go_wp2_with fail
  refine (o_P x y A H O M E.2.2.1 E.2.2.2 _).mono ?_;rintro e I ⟨rfl,rfl⟩;go_wp2_with fail
 ·refine (j_a A H hf hl _).mono ?_;rintro e I ⟨rfl,rfl⟩;go_wp2_with fail
  refine (j_5 _ _ (o_C A H hf hl) _).mono ?_;rintro e I ⟨rfl,rfl⟩;go_wp2;go_ret;exact ⟨ret_int (o_D a b x y E.1 E.2.1 A H E.2.2.1 E.2.2.2),rfl⟩
 ·refine (bound_any _ _).mono ?_;rintro e I ⟨rfl,rfl⟩;go_wp2;go_ret;exact ⟨ret_int (q_K a b x y E.1 E.2.1 (by have:=E.2.2.1;omega)),rfl⟩
end Go.Proofs.YtkfpainpomobfaaGreatDoor.Fx
