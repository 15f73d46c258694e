/- The reference's Run: a parameter's Leaf, -/
import Derived.Test.YtkfpainpomobfaaGreatDoorR16
set_option linter.unusedVariables false
set_option linter.unusedSimpArgs false
set_option maxHeartbeats 16000000
set_option maxRecDepth 16000
namespace Go.Proofs.YtkfpainpomobfaaGreatDoor.Wd
open Go.RowKit Fx List World Nat
/-- Behind a place, one by one. -/
def lay:List Value->Nat->List Value->List Value
 | l,_,[]=>l
 | l,i,a :: t=>lay (l.set i a) (i+1) t
theorem t_5 {n:Nat} {l:List Value} (h:l.length=n+1):∃ a t,l=a :: t/\t.length=n:=by
 cases l with
 | nil=>simp at h
 | cons a t=>exact ⟨a,t,rfl,by simpa using h⟩
theorem n_G {n:Nat} {l:List Value} (h:l.length=n+16):∃ Z a2 R a4 V a6 a7 a8 O A J H L M I E t,l=Z :: a2 :: R :: a4 :: V :: a6 :: a7 :: a8 :: O :: A :: J :: H :: L :: M :: I :: E :: t/\t.length=n:=by
 iterate 16
  replace h:=t_5 h;obtain ⟨_,l,rfl,h⟩:=h
 exact ⟨_,_,_,_,_,_,_,_,_,_,_,_,_,_,_,_,_,rfl,h⟩
/-- So many letters. -/
def fs (f:Nat->Value):Nat->List Value
 | 0=>[]
 | k+1=>f k :: fs f k
theorem n_H {f g:Nat->Value}:∀ n,(∀ k,k < n->f k=g k)->fs f n=fs g n
 | 0,_=>rfl
 | n+1,h=>by rw [fs,fs,h n (lt_succ_self n),n_H n fun k A=>h k (lt_succ_of_lt A)]
theorem s_Y:∀ u:List Value,∃ f,u=fs f u.length
 | []=>⟨fun _=>undef,rfl⟩
 | a :: t=>by
  obtain ⟨f,h⟩:=s_Y t;refine ⟨fun k=>if k=t.length then a else f k,?_⟩;rw [length_cons,fs,if_pos rfl,n_H t.length fun k A=>if_neg (ne_of_lt A),<- h]
theorem mid {n m:Nat} {X Y l:List Value} (E:l.take n=X) (A:l.drop m=Y) (H:n<=m) (I:m<=l.length):∃ f,l=X++(fs f (m - n)++Y):=by
 subst E A;obtain ⟨f,h⟩:=s_Y ((l.drop n).take (m - n));rw [show ((l.drop n).take (m - n)).length=m - n by simp;omega] at h;refine ⟨f,?_⟩;rw [<- h,show l.drop m=(l.drop n).drop (m - n) by rw [drop_drop];congr 1;omega,take_append_drop,take_append_drop]
/-- The region of a number in a code. -/
def b_9 (n:Nat):Code->Option Code
 | .region i o d=>match beq i n with
  | true=>some (.region i o d)
  | false=>none
 | .seq a b=>match b_9 n a with
  | some c=>some c
  | none=>b_9 n b
 | .cond _ a b=>match b_9 n a with
  | some c=>some c
  | none=>b_9 n b
 | .block _ c=>b_9 n c
 | .loop c=>b_9 n c
 | .scope c=>b_9 n c
 | _=>none
theorem p_A {w:World} {B M H ml ui mi j2 nA cA np cp:Nat} {ms m1:List Nd} {ps dd X O:List Int} {u15:Value} {Z L:Array Value} {ZA pp:Option Addr} {x y:Int} {I A J V:Nat} {D0:Int} {W0:World} {l:List Value} {Q:Exit->Act->World->Prop} {cd:Code} (HC:Hid (r_F/\r_G/\RLfC/\RDoC)) (ap:Hid (ms.length=ml)) (ah:Hid (StR w B M ms ps u15 Z H L (.slice (some ⟨I,A,none⟩) J V) dd W0)) (hx:L[1]?=some (.int .i64 x)) (hy:L[2]?=some (.int .i64 y)) (ae:Hid (Nx ms (spL [x,D0,y] X) m1 O/\RI [x,D0,y])) (ao:Hid (∀ W,Rr B w W->Nums .i64 W (.slice ZA nA cA) X)) (ad:Hid (∀ W,Sem.run Tryz.prog (Instr.slice 26 (.slice pp np cp) (some (.int .i64 (ui:Int))) (some (.int .i64 (j2:Int))) none) W = .ok (.slice ZA nA cA) W)) (ab:Hid (∀ W M_,StR w B M M_ ps u15 Z H L (.slice (some ⟨I,A,none⟩) J V) dd W->W.cell? ⟨I,A,none⟩=some (.int .i64 D0))) (av:IntKind.i64.wrap ((ui:Int)+(mi:Int))=(j2:Int)) (ar:(0:Int) < (J:Int)) (aq:cd=(Tryz.f11.body.bind (b_9 39)).getD .skip) (hl:l.length=272) (hh:[some (.pointer (some ⟨M,0,none⟩)),some (.slice pp np cp),some (.int .i64 (ui:Int)),some (.pointer (some ⟨H,0,none⟩)),some (.slice (some ⟨I,A,none⟩) J V),some (.int .i64 (mi:Int))] = [l[0]?,l[2]?,l[18]?,l[20]?,l[21]?,l[27]?])
  (hQ:∀ W5,StR w B M m1 ps u15 Z H L (.slice (some ⟨I,A,none⟩) J V) dd W5->∀ l_:List Value,l_.length=272->l_.take 209=lay (lay (l.take 209) 13 [.int .i64 0]) 23 [.int .i64 (ml:Int)]->l_.drop 229=l.drop 229->Q .normal ⟨l_.toArray,[]⟩ W5):Code.wp Tryz.prog cd Q ⟨l.toArray,[]⟩ W0:=by
 haveI:Nonempty World:=⟨w⟩
 subst aq
 iterate 17
  replace hl:=n_G hl;obtain ⟨_,_,_,_,_,_,_,_,_,_,_,_,_,_,_,_,l,rfl,hl⟩:=hl
 obtain rfl:=eq_nil_of_length_eq_zero hl;simp only [getElem?_cons_succ,getElem?_cons_zero,List.cons.injEq,Option.some.injEq,and_true] at hh;obtain ⟨rfl,rfl,rfl,rfl,rfl,rfl⟩:=hh
 conv=>arg 2;whnf
 refine a_7 (by kernel_rfl) ?_;refine seg (fun q_ W=>match q_ with|false=>StR w B M ms ps u15 Z H L (.slice (some ⟨I,A,none⟩) J V) dd W|true=>StR w B M m1 ps u15 Z H L (.slice (some ⟨I,A,none⟩) J V) dd W) (fun W W'=>Only SR W W') 16 [⟨8,218,LitI [x,D0,y]⟩,⟨15,225,LitT [x,D0,y] (.slice ZA nA cA)⟩,⟨16,226,EqV (.tuple #[.int .i64 (ml:Int),.int .i64 0])⟩,⟨17,209,EqV (.tuple #[.int .i64 (ml:Int),.int .i64 0])⟩,⟨18,227,EqV (.int .i64 (ml:Int))⟩,⟨19,228,EqV (.int .i64 0)⟩,⟨20,23,EqV (.int .i64 (ml:Int))⟩,⟨21,13,EqV (.int .i64 0)⟩] 0 22 272 rfl rfl (by kernel_rfl) (by rfl) ?_ ?_ ?_ ?_ ?_ ?_
 ·intro q_ W W' h hb;cases q_
  ·exact StR.up h hb
  ·exact StR.up h hb
 ·exact ah.out.up ⟨rfl,rfl,rfl,Nat.le_refl _,fun _ _=>rfl⟩
 ·exact .inl ⟨_,(mC (mC mS)),rfl⟩
 ·intro e he v W W' h hb;simp only [mem_cons,not_mem_nil,or_false] at he;rcases he with rfl|rfl|rfl|rfl|rfl|rfl|rfl|rfl
  ·exact LitI.up h hb
  ·exact LitT.up h hb
  all_goals exact h
 ·intro e he al v W W' h hc ht;simp only [mem_cons,not_mem_nil,or_false] at he;rcases he with rfl|rfl|rfl|rfl|rfl|rfl|rfl|rfl
  ·exact OwnK.only h ht (by decide)
  ·exact LitT.only h ht
  ·exact absurd rfl al
  all_goals exact h
 apply Exists.intro;refine ⟨fun x_=>?_,?_,?_⟩
 ·simp only [drop_succ_cons,drop_zero,take_succ_cons,take_zero]
  iterate 8
   apply d_n;rfl;rfl
   ·intro b F hF hf K hK hFc
    have E:∀ d,∃ M_,StR w B M M_ ps u15 Z H L (.slice (some ⟨I,A,none⟩) J V) dd (F d):=fun d=>by
     cases b
     ·exact ⟨_,hFc d⟩
     ·exact ⟨_,hFc d⟩
    have ag:∀ d,(F d).cell? ⟨H,1,none⟩=some (.int .i64 x):=fun d=>(E d).elim fun _ h=>h.cl hx;have ak:∀ d,(F d).cell? ⟨H,2,none⟩=some (.int .i64 y):=fun d=>(E d).elim fun _ h=>h.cl hy;have ai:∀ d,(F d).cell? ⟨I,A,none⟩=some (.int .i64 D0):=fun d=>(E d).elim fun _ h=>ab.out _ _ h;have aj:=ad.out;clear hFc E
    go_big_quiet_op
    exact hK
   (try simp only [a_v])
  refine a_U rfl (by decide) rfl ?_ ?_
  ·intro b F hF hf d;have hFc:=hF.cls;simp [a_j,a_e,go_sem];exact ⟨(b_b (k:=.i64) (e:=3) (F d) [x,D0,y] 3 rfl (by decide)).low (zero_le _),a_a _ _⟩
  iterate 6
   (try simp only [a_v])
   apply d_n;rfl;rfl
   ·intro b F hF hf K hK hFc
    have E:∀ d,∃ M_,StR w B M M_ ps u15 Z H L (.slice (some ⟨I,A,none⟩) J V) dd (F d):=fun d=>by
     cases b
     ·exact ⟨_,hFc d⟩
     ·exact ⟨_,hFc d⟩
    have ag:∀ d,(F d).cell? ⟨H,1,none⟩=some (.int .i64 x):=fun d=>(E d).elim fun _ h=>h.cl hx;have ak:∀ d,(F d).cell? ⟨H,2,none⟩=some (.int .i64 y):=fun d=>(E d).elim fun _ h=>h.cl hy;have ai:∀ d,(F d).cell? ⟨I,A,none⟩=some (.int .i64 D0):=fun d=>(E d).elim fun _ h=>ab.out _ _ h;have aj:=ad.out;clear hFc E
    go_big_quiet_op
    exact hK
  (try simp only [a_v])
  refine a_U rfl (by decide) rfl ?_ ?_
  ·intro b F hF hf d;have hFc:=hF.cls;have R:=hf _ mS (by rfl) d;obtain ⟨af,n4,c4,e4⟩:=OwnK.form_ R;have e4:x_ 8=_:=e4;simp [a_j,a_e,go_sem,e4];exact ⟨⟨af,n4,c4,rfl,by rw [<- e4];exact R⟩,Below.refl _ _⟩
  (try simp only [a_v])
  refine c_P rfl rfl rfl ?_ ?_
  ·intro W hW hf;obtain ⟨af,n4,c4,e4,aa⟩:=hf _ (mC mS) (by rfl) W;have aa:=OwnK.nums aa;have e4:x_ 15=_:=e4;simp [b_i,a_Z,go_sem,e4];refine (StR.leaf HC.2.2.1 ap.out ae.1 ae.2 hW aa (ao.out _ (StR.r hW))).mono ?_;rintro e' w6 ⟨rfl,am,an⟩;exact ⟨_,rfl,rfl,am,an⟩
  (try simp only [a_v])
  refine a_U rfl (by decide) rfl ?_ ?_
  ·intro b F hF hf d;have hFc:=hF.cls;have R:x_ 16=_:=hf _ (mC (mC mS)) (by rfl) d;simp [a_j,a_e,go_sem,R];exact ⟨rfl,Below.refl _ _⟩
  iterate 2
   (try simp only [a_v])
   refine a_U rfl (by decide) rfl ?_ ?_
   ·intro b F hF hf d;have hFc:=hF.cls;have R:x_ 17=_:=hf _ (mC (mC (mC mS))) (by rfl) d;simp [a_j,a_e,go_sem,R];exact ⟨rfl,Below.refl _ _⟩
  (try simp only [a_v])
  refine a_U rfl (by decide) rfl ?_ ?_
  ·intro b F hF hf d;have hFc:=hF.cls;have R:x_ 18=_:=hf _ (mC (mC (mC (mC mS)))) (by rfl) d;simp [a_j,a_e,go_sem,R];exact ⟨rfl,Below.refl _ _⟩
  (try simp only [a_v])
  refine a_U rfl (by decide) rfl ?_ ?_
  ·intro b F hF hf d;have hFc:=hF.cls;have R:x_ 19=_:=hf _ (mC (mC (mC (mC (mC mS))))) (by rfl) d;simp [a_j,a_e,go_sem,R];exact ⟨rfl,Below.refl _ _⟩
  (try simp only [a_v])
  refine e_b ?_;exact rfl
 ·intro x_;simp only [b_q,foldl_cons,foldl_nil,a_v]
 ·intro w5 ac hC hf;have hS:StR w B M m1 ps u15 Z H L (.slice (some ⟨I,A,none⟩) J V) dd w5:=hC;have g1:ac 20 = .int .i64 (ml:Int):=hf _ (mC (mC (mC (mC (mC (mC mS))))));have g2:ac 21 = .int .i64 0:=hf _ (mC (mC (mC (mC (mC (mC (mC mS)))))));have au:Hid (StR w B M m1 ps u15 Z H L (.slice (some ⟨I,A,none⟩) J V) dd w5):=hS;refine h_q 22 rfl ?_;rw [g1,g2];have hq:=hQ _ hS;exact hq _ rfl rfl rfl
theorem p_B {w:World} {B J E ml ui mi j2 nA cA np cp:Nat} {ms m1:List Nd} {ps dd X O:List Int} {u15:Value} {R I:Array Value} {ZA pp:Option Addr} {x y:Int} {L:Value} {PK:Int} {W0:World} {l:List Value} {Q:Exit->Act->World->Prop} {cd:Code} (HC:Hid (r_F/\r_G/\RLfC/\RDoC)) (am:Hid (ms.length=ml)) (af:Hid (StR w B J ms ps u15 R E I L dd W0)) (hx:I[1]?=some (.int .i64 x)) (hy:I[2]?=some (.int .i64 y)) (ac:Hid (Nx ms (spL [x,PK] X) m1 O/\RI [x,PK])) (al:Hid (∀ W,Rr B w W->Nums .i64 W (.slice ZA nA cA) X)) (ab:Hid (∀ W,Sem.run Tryz.prog (Instr.slice 26 (.slice pp np cp) (some (.int .i64 (ui:Int))) (some (.int .i64 (j2:Int))) none) W = .ok (.slice ZA nA cA) W)) (ap:IntKind.i64.wrap (x*PK)=(mi:Int)) (aq:IntKind.i64.wrap ((ui:Int)+(mi:Int))=(j2:Int)) (an:cd=(Tryz.f11.body.bind (b_9 24)).getD .skip) (hl:l.length=272) (hh:[some (.pointer (some ⟨J,0,none⟩)),some (.slice pp np cp),some (.int .i64 (ui:Int)),some (.pointer (some ⟨E,0,none⟩)),some (.int .i64 PK)] = [l[0]?,l[2]?,l[18]?,l[20]?,l[26]?])
  (hQ:∀ W5,StR w B J m1 ps u15 R E I L dd W5->∀ l_:List Value,l_.length=272->l_.take 98=lay (lay (l.take 98) 13 [.int .i64 0]) 23 [.int .i64 (ml:Int)]->l_.drop 117=l.drop 117->Q .normal ⟨l_.toArray,[]⟩ W5):Code.wp Tryz.prog cd Q ⟨l.toArray,[]⟩ W0:=by
 haveI:Nonempty World:=⟨w⟩
 subst an
 iterate 17
  replace hl:=n_G hl;obtain ⟨_,_,_,_,_,_,_,_,_,_,_,_,_,_,_,_,l,rfl,hl⟩:=hl
 obtain rfl:=eq_nil_of_length_eq_zero hl;simp only [getElem?_cons_succ,getElem?_cons_zero,List.cons.injEq,Option.some.injEq,and_true] at hh;obtain ⟨rfl,rfl,rfl,rfl,rfl⟩:=hh
 conv=>arg 2;whnf
 refine a_7 (by kernel_rfl) ?_;refine seg (fun q_ W=>match q_ with|false=>StR w B J ms ps u15 R E I L dd W|true=>StR w B J m1 ps u15 R E I L dd W) (fun W W'=>Only SR W W') 15 [⟨4,103,LitI [x,PK]⟩,⟨14,113,LitT [x,PK] (.slice ZA nA cA)⟩,⟨15,114,EqV (.tuple #[.int .i64 (ml:Int),.int .i64 0])⟩,⟨16,98,EqV (.tuple #[.int .i64 (ml:Int),.int .i64 0])⟩,⟨17,115,EqV (.int .i64 (ml:Int))⟩,⟨18,116,EqV (.int .i64 0)⟩,⟨19,23,EqV (.int .i64 (ml:Int))⟩,⟨20,13,EqV (.int .i64 0)⟩] 0 21 272 rfl rfl (by kernel_rfl) (by rfl) ?_ ?_ ?_ ?_ ?_ ?_
 ·intro q_ W W' h hb;cases q_
  ·exact StR.up h hb
  ·exact StR.up h hb
 ·exact af.out.up ⟨rfl,rfl,rfl,Nat.le_refl _,fun _ _=>rfl⟩
 ·exact .inl ⟨_,(mC (mC mS)),rfl⟩
 ·intro e he v W W' h hb;simp only [mem_cons,not_mem_nil,or_false] at he;rcases he with rfl|rfl|rfl|rfl|rfl|rfl|rfl|rfl
  ·exact LitI.up h hb
  ·exact LitT.up h hb
  all_goals exact h
 ·intro e he ai v W W' h hc ht;simp only [mem_cons,not_mem_nil,or_false] at he;rcases he with rfl|rfl|rfl|rfl|rfl|rfl|rfl|rfl
  ·exact OwnK.only h ht (by decide)
  ·exact LitT.only h ht
  ·exact absurd rfl ai
  all_goals exact h
 apply Exists.intro;refine ⟨fun V=>?_,?_,?_⟩
 ·simp only [drop_succ_cons,drop_zero,take_succ_cons,take_zero]
  iterate 4
   apply d_n;rfl;rfl
   ·intro b F hF hf K hK hFc
    have A:∀ d,∃ M_,StR w B J M_ ps u15 R E I L dd (F d):=fun d=>by
     cases b
     ·exact ⟨_,hFc d⟩
     ·exact ⟨_,hFc d⟩
    have ae:∀ d,(F d).cell? ⟨E,1,none⟩=some (.int .i64 x):=fun d=>(A d).elim fun _ h=>h.cl hx;have ah:∀ d,(F d).cell? ⟨E,2,none⟩=some (.int .i64 y):=fun d=>(A d).elim fun _ h=>h.cl hy;have ag:=ab.out;clear hFc A
    go_big_quiet_op
    exact hK
   (try simp only [a_v])
  refine a_U rfl (by decide) rfl ?_ ?_
  ·intro b F hF hf d;have hFc:=hF.cls;simp [a_j,a_e,go_sem];exact ⟨(b_b (k:=.i64) (e:=3) (F d) [x,PK] 2 rfl (by decide)).low (zero_le _),a_a _ _⟩
  iterate 9
   (try simp only [a_v])
   apply d_n;rfl;rfl
   ·intro b F hF hf K hK hFc
    have A:∀ d,∃ M_,StR w B J M_ ps u15 R E I L dd (F d):=fun d=>by
     cases b
     ·exact ⟨_,hFc d⟩
     ·exact ⟨_,hFc d⟩
    have ae:∀ d,(F d).cell? ⟨E,1,none⟩=some (.int .i64 x):=fun d=>(A d).elim fun _ h=>h.cl hx;have ah:∀ d,(F d).cell? ⟨E,2,none⟩=some (.int .i64 y):=fun d=>(A d).elim fun _ h=>h.cl hy;have ag:=ab.out;clear hFc A
    go_big_quiet_op
    exact hK
  (try simp only [a_v])
  refine a_U rfl (by decide) rfl ?_ ?_
  ·intro b F hF hf d;have hFc:=hF.cls;have H:=hf _ mS (by rfl) d;obtain ⟨ad,n4,c4,M⟩:=OwnK.form_ H;have M:V 4=_:=M;simp [a_j,a_e,go_sem,M];exact ⟨⟨ad,n4,c4,rfl,by rw [<- M];exact H⟩,Below.refl _ _⟩
  (try simp only [a_v])
  refine c_P rfl rfl rfl ?_ ?_
  ·intro W hW hf;obtain ⟨ad,n4,c4,M,Z⟩:=hf _ (mC mS) (by rfl) W;have Z:=OwnK.nums Z;have M:V 14=_:=M;simp [b_i,a_Z,go_sem,M];refine (StR.leaf HC.2.2.1 am.out ac.1 ac.2 hW Z (al.out _ (StR.r hW))).mono ?_;rintro e' w6 ⟨rfl,aj,ak⟩;exact ⟨_,rfl,rfl,aj,ak⟩
  (try simp only [a_v])
  refine a_U rfl (by decide) rfl ?_ ?_
  ·intro b F hF hf d;have hFc:=hF.cls;have H:V 15=_:=hf _ (mC (mC mS)) (by rfl) d;simp [a_j,a_e,go_sem,H];exact ⟨rfl,Below.refl _ _⟩
  iterate 2
   (try simp only [a_v])
   refine a_U rfl (by decide) rfl ?_ ?_
   ·intro b F hF hf d;have hFc:=hF.cls;have H:V 16=_:=hf _ (mC (mC (mC mS))) (by rfl) d;simp [a_j,a_e,go_sem,H];exact ⟨rfl,Below.refl _ _⟩
  (try simp only [a_v])
  refine a_U rfl (by decide) rfl ?_ ?_
  ·intro b F hF hf d;have hFc:=hF.cls;have H:V 17=_:=hf _ (mC (mC (mC (mC mS)))) (by rfl) d;simp [a_j,a_e,go_sem,H];exact ⟨rfl,Below.refl _ _⟩
  (try simp only [a_v])
  refine a_U rfl (by decide) rfl ?_ ?_
  ·intro b F hF hf d;have hFc:=hF.cls;have H:V 18=_:=hf _ (mC (mC (mC (mC (mC mS))))) (by rfl) d;simp [a_j,a_e,go_sem,H];exact ⟨rfl,Below.refl _ _⟩
  (try simp only [a_v])
  refine e_b ?_;exact rfl
 ·intro V;simp only [b_q,foldl_cons,foldl_nil,a_v]
 ·intro w5 aa hC hf;have hS:StR w B J m1 ps u15 R E I L dd w5:=hC;have g1:aa 19 = .int .i64 (ml:Int):=hf _ (mC (mC (mC (mC (mC (mC mS))))));have g2:aa 20 = .int .i64 0:=hf _ (mC (mC (mC (mC (mC (mC (mC mS)))))));have ao:Hid (StR w B J m1 ps u15 R E I L dd w5):=hS;refine h_q 21 rfl ?_;rw [g1,g2];have hq:=hQ _ hS;exact hq _ rfl rfl rfl
theorem p_C {w:World} {B J E ml ui mi j2 nA cA np cp:Nat} {ms m1:List Nd} {ps dd X O:List Int} {u15:Value} {R I:Array Value} {ZA pp:Option Addr} {x y:Int} {L:Value} {PK:Int} {j3:Nat} {W0:World} {l:List Value} {Q:Exit->Act->World->Prop} {cd:Code} (HC:Hid (r_F/\r_G/\RLfC/\RDoC)) (am:Hid (ms.length=ml)) (af:Hid (StR w B J ms ps u15 R E I L dd W0)) (hx:I[1]?=some (.int .i64 x)) (hy:I[2]?=some (.int .i64 y)) (ac:Hid (Nx ms (spL [x] X) m1 O/\RI [x])) (al:Hid (∀ W,Rr B w W->Nums .i64 W (.slice ZA nA cA) X)) (ab:Hid (∀ W,Sem.run Tryz.prog (Instr.slice 26 (.slice pp np cp) (some (.int .i64 (j2:Int))) (some (.int .i64 (j3:Int))) none) W = .ok (.slice ZA nA cA) W)) (ap:IntKind.i64.wrap (x*PK)=(mi:Int)) (ar:IntKind.i64.wrap ((ui:Int)+(mi:Int))=(j2:Int)) (aq:IntKind.i64.wrap ((j2:Int)+x)=(j3:Int)) (an:cd=(Tryz.f11.body.bind (b_9 26)).getD .skip) (hl:l.length=272) (hh:[some (.pointer (some ⟨J,0,none⟩)),some (.slice pp np cp),some (.int .i64 (ui:Int)),some (.pointer (some ⟨E,0,none⟩)),some (.int .i64 PK)] = [l[0]?,l[2]?,l[18]?,l[20]?,l[26]?])
  (hQ:∀ W5,StR w B J m1 ps u15 R E I L dd W5->∀ l_:List Value,l_.length=272->l_.take 119=lay (lay (l.take 119) 13 [.int .i64 0]) 24 [.int .i64 (ml:Int)]->l_.drop 145=l.drop 145->Q .normal ⟨l_.toArray,[]⟩ W5):Code.wp Tryz.prog cd Q ⟨l.toArray,[]⟩ W0:=by
 haveI:Nonempty World:=⟨w⟩
 subst an
 iterate 17
  replace hl:=n_G hl;obtain ⟨_,_,_,_,_,_,_,_,_,_,_,_,_,_,_,_,l,rfl,hl⟩:=hl
 obtain rfl:=eq_nil_of_length_eq_zero hl;simp only [getElem?_cons_succ,getElem?_cons_zero,List.cons.injEq,Option.some.injEq,and_true] at hh;obtain ⟨rfl,rfl,rfl,rfl,rfl⟩:=hh
 conv=>arg 2;whnf
 refine a_7 (by kernel_rfl) ?_;refine seg (fun q_ W=>match q_ with|false=>StR w B J ms ps u15 R E I L dd W|true=>StR w B J m1 ps u15 R E I L dd W) (fun W W'=>Only SR W W') 22 [⟨3,123,LitI [x]⟩,⟨21,141,LitT [x] (.slice ZA nA cA)⟩,⟨22,142,EqV (.tuple #[.int .i64 (ml:Int),.int .i64 0])⟩,⟨23,119,EqV (.tuple #[.int .i64 (ml:Int),.int .i64 0])⟩,⟨24,143,EqV (.int .i64 (ml:Int))⟩,⟨25,144,EqV (.int .i64 0)⟩,⟨26,24,EqV (.int .i64 (ml:Int))⟩,⟨27,13,EqV (.int .i64 0)⟩] 0 28 272 rfl rfl (by kernel_rfl) (by rfl) ?_ ?_ ?_ ?_ ?_ ?_
 ·intro q_ W W' h hb;cases q_
  ·exact StR.up h hb
  ·exact StR.up h hb
 ·exact af.out.up ⟨rfl,rfl,rfl,Nat.le_refl _,fun _ _=>rfl⟩
 ·exact .inl ⟨_,(mC (mC mS)),rfl⟩
 ·intro e he v W W' h hb;simp only [mem_cons,not_mem_nil,or_false] at he;rcases he with rfl|rfl|rfl|rfl|rfl|rfl|rfl|rfl
  ·exact LitI.up h hb
  ·exact LitT.up h hb
  all_goals exact h
 ·intro e he ai v W W' h hc ht;simp only [mem_cons,not_mem_nil,or_false] at he;rcases he with rfl|rfl|rfl|rfl|rfl|rfl|rfl|rfl
  ·exact OwnK.only h ht (by decide)
  ·exact LitT.only h ht
  ·exact absurd rfl ai
  all_goals exact h
 apply Exists.intro;refine ⟨fun V=>?_,?_,?_⟩
 ·simp only [drop_succ_cons,drop_zero,take_succ_cons,take_zero]
  iterate 3
   apply d_n;rfl;rfl
   ·intro b F hF hf K hK hFc
    have A:∀ d,∃ M_,StR w B J M_ ps u15 R E I L dd (F d):=fun d=>by
     cases b
     ·exact ⟨_,hFc d⟩
     ·exact ⟨_,hFc d⟩
    have ae:∀ d,(F d).cell? ⟨E,1,none⟩=some (.int .i64 x):=fun d=>(A d).elim fun _ h=>h.cl hx;have ah:∀ d,(F d).cell? ⟨E,2,none⟩=some (.int .i64 y):=fun d=>(A d).elim fun _ h=>h.cl hy;have ag:=ab.out;clear hFc A
    go_big_quiet_op
    exact hK
   (try simp only [a_v])
  refine a_U rfl (by decide) rfl ?_ ?_
  ·intro b F hF hf d;have hFc:=hF.cls;simp [a_j,a_e,go_sem];exact ⟨(b_b (k:=.i64) (e:=3) (F d) [x] 1 rfl (by decide)).low (zero_le _),a_a _ _⟩
  iterate 17
   (try simp only [a_v])
   apply d_n;rfl;rfl
   ·intro b F hF hf K hK hFc
    have A:∀ d,∃ M_,StR w B J M_ ps u15 R E I L dd (F d):=fun d=>by
     cases b
     ·exact ⟨_,hFc d⟩
     ·exact ⟨_,hFc d⟩
    have ae:∀ d,(F d).cell? ⟨E,1,none⟩=some (.int .i64 x):=fun d=>(A d).elim fun _ h=>h.cl hx;have ah:∀ d,(F d).cell? ⟨E,2,none⟩=some (.int .i64 y):=fun d=>(A d).elim fun _ h=>h.cl hy;have ag:=ab.out;clear hFc A
    go_big_quiet_op
    exact hK
  (try simp only [a_v])
  refine a_U rfl (by decide) rfl ?_ ?_
  ·intro b F hF hf d;have hFc:=hF.cls;have H:=hf _ mS (by rfl) d;obtain ⟨ad,n4,c4,M⟩:=OwnK.form_ H;have M:V 3=_:=M;simp [a_j,a_e,go_sem,M];exact ⟨⟨ad,n4,c4,rfl,by rw [<- M];exact H⟩,Below.refl _ _⟩
  (try simp only [a_v])
  refine c_P rfl rfl rfl ?_ ?_
  ·intro W hW hf;obtain ⟨ad,n4,c4,M,Z⟩:=hf _ (mC mS) (by rfl) W;have Z:=OwnK.nums Z;have M:V 21=_:=M;simp [b_i,a_Z,go_sem,M];refine (StR.leaf HC.2.2.1 am.out ac.1 ac.2 hW Z (al.out _ (StR.r hW))).mono ?_;rintro e' w6 ⟨rfl,aj,ak⟩;exact ⟨_,rfl,rfl,aj,ak⟩
  (try simp only [a_v])
  refine a_U rfl (by decide) rfl ?_ ?_
  ·intro b F hF hf d;have hFc:=hF.cls;have H:V 22=_:=hf _ (mC (mC mS)) (by rfl) d;simp [a_j,a_e,go_sem,H];exact ⟨rfl,Below.refl _ _⟩
  iterate 2
   (try simp only [a_v])
   refine a_U rfl (by decide) rfl ?_ ?_
   ·intro b F hF hf d;have hFc:=hF.cls;have H:V 23=_:=hf _ (mC (mC (mC mS))) (by rfl) d;simp [a_j,a_e,go_sem,H];exact ⟨rfl,Below.refl _ _⟩
  (try simp only [a_v])
  refine a_U rfl (by decide) rfl ?_ ?_
  ·intro b F hF hf d;have hFc:=hF.cls;have H:V 24=_:=hf _ (mC (mC (mC (mC mS)))) (by rfl) d;simp [a_j,a_e,go_sem,H];exact ⟨rfl,Below.refl _ _⟩
  (try simp only [a_v])
  refine a_U rfl (by decide) rfl ?_ ?_
  ·intro b F hF hf d;have hFc:=hF.cls;have H:V 25=_:=hf _ (mC (mC (mC (mC (mC mS))))) (by rfl) d;simp [a_j,a_e,go_sem,H];exact ⟨rfl,Below.refl _ _⟩
  (try simp only [a_v])
  refine e_b ?_;exact rfl
 ·intro V;simp only [b_q,foldl_cons,foldl_nil,a_v]
 ·intro w5 aa hC hf;have hS:StR w B J m1 ps u15 R E I L dd w5:=hC;have g1:aa 26 = .int .i64 (ml:Int):=hf _ (mC (mC (mC (mC (mC (mC mS))))));have g2:aa 27 = .int .i64 0:=hf _ (mC (mC (mC (mC (mC (mC (mC mS)))))));have ao:Hid (StR w B J m1 ps u15 R E I L dd w5):=hS;refine h_q 28 rfl ?_;rw [g1,g2];have hq:=hQ _ hS;exact hq _ rfl rfl rfl
/-- The block of a number in a code. -/
def d_c (n:Nat):Code->Option Code
 | .block i c=>match beq i n with
  | true=>some (.block i c)
  | false=>d_c n c
 | .seq a b=>match d_c n a with
  | some c=>some c
  | none=>d_c n b
 | .cond _ a b=>match d_c n a with
  | some c=>some c
  | none=>d_c n b
 | .loop c=>d_c n c
 | .scope c=>d_c n c
 | _=>none
theorem r_H {w:World} {B E I ml ui mi j2 nA cA np cp li M1:Nat} {ms m1 ks:List Nd} {ps dd X O1 O2:List Int} {u15:Value} {nb:Array Value} {ZA pp:Option Addr} {s:ByteArray} {x y:Int} {J A R dc:Nat} {Z:Int} {W2:World} {l:List Value} {Q:Exit->Act->World->Prop} {cd:Code} (HC:Hid (r_F/\r_G/\RLfC/\RDoC)) (ac:Hid (ms.length=ml)) (ai:Hid (StR w B E ms ps u15 nb I #[.string s,.int .i64 x,.int .i64 y] (.slice (some ⟨J,A,none⟩) R dc) dd W2)) (k0:(s.toList == [100,101,110,115,101])=false) (k1:(s.toList == [99,111,110,118])=true) (k2:(s.toList == [112,111,111,108])=false) (k3:(s.toList == [98,101,110,100])=false) (k4:(s.toList == [115,107,105,112])=false) (e1:W2.cell? ⟨I,1,none⟩=some (.int .i64 x)) (e2:W2.cell? ⟨I,2,none⟩=some (.int .i64 y)) (ay:W2.cell? ⟨J,A,none⟩=some (.int .i64 Z)) (ab:Hid (Nx ms (spL [x,Z,y] X) m1 O1/\RI [x,Z,y])) (aA:Hid (Nx m1 (spD 12 (li:Int) (ms.length:Int) 1) ks O2)) (aB:Hid (∀ W,Rr B w W->Nums .i64 W (.slice ZA nA cA) X)) (ax:Hid (∀ W,Sem.run Tryz.prog (Instr.slice 26 (.slice pp np cp) (some (.int .i64 (ui:Int))) (some (.int .i64 (j2:Int))) none) W = .ok (.slice ZA nA cA) W)) (av:Hid (∀ W M_,StR w B E M_ ps u15 nb I #[.string s,.int .i64 x,.int .i64 y] (.slice (some ⟨J,A,none⟩) R dc) dd W->W.cell? ⟨J,A,none⟩=some (.int .i64 Z))) (aE:IntKind.i64.wrap (x*Z)=x*Z) (aG:IntKind.i64.wrap (x*Z*y)=(mi:Int)) (az:IntKind.i64.wrap ((ui:Int)+(mi:Int))=(j2:Int)) (aj:(0:Int) < (R:Int)) (aD:Hid (ml+1=M1)) (aq:Hid (ps.length<=100000)) (aC:cd=(Tryz.f11.body.bind (d_c 2)).getD .skip) (hl:l.length=272) (hh:[some (.pointer (some ⟨E,0,none⟩)),some (.slice pp np cp),some (.int .i64 0),some u15,some (.int .i64 (li:Int)),some (.int .i64 (ui:Int)),some (.pointer (some ⟨I,0,none⟩)),some (.slice (some ⟨J,A,none⟩) R dc),some (.int .i64 0),some (.int .i64 0),some (.int .i64 0),some (.string s)] = [l[0]?,l[2]?,l[13]?,l[15]?,l[17]?,l[18]?,l[20]?,l[21]?,l[23]?,l[24]?,l[25]?,l[86]?])
  (hQ:Hid (∀ (wx:World) (ah:Value) ,(PrG 43 w B E (ps++[(ml:Int)]) ah wx/\(d_o wx B E ks/\Rr B w wx/\w.heap.size<=wx.heap.size)/\wx.heap[w.heap.size]?=some (.cells nb 34 (0,0)))->∀ l_:List Value,l_.length=272->(∃ u17 u23 u24 u26 u27,l_.take 87=lay (lay (lay (l.take 87) 15 [ah]) 17 [u17,.int .i64 (j2:Int)]) 23 [u23,u24,.int .i64 (M1:Int),u26,u27])->l_.drop 265=l.drop 265->Q .normal ⟨l_.toArray,[]⟩ wx)):Code.wp Tryz.prog cd Q ⟨l.toArray,[]⟩ W2:=by
 haveI:Nonempty World:=⟨w⟩
 subst aC
 iterate 17
  replace hl:=n_G hl;obtain ⟨_,_,_,_,_,_,_,_,_,_,_,_,_,_,_,_,l,rfl,hl⟩:=hl
 obtain rfl:=eq_nil_of_length_eq_zero hl;simp only [getElem?_cons_succ,getElem?_cons_zero,List.cons.injEq,Option.some.injEq,and_true] at hh;obtain ⟨rfl,rfl,rfl,rfl,rfl,rfl,rfl,rfl,rfl,rfl,rfl,rfl⟩:=hh
 conv=>arg 2;whnf
 have hx:(#[.string s,.int .i64 x,.int .i64 y]:Array Value)[1]?=some (.int .i64 x):=rfl;have hy:(#[.string s,.int .i64 x,.int .i64 y]:Array Value)[2]?=some (.int .i64 y):=rfl;have ke:=a_h e1;have aF:=a_h ay;go_wp2_with fail
 go_quiet (fail)
 go_wp2_with fail
 have am:=fun m=>ai.out.up (l_m W2 m);refine p_A HC ac (am _) hx hy ab aB ax av az aj rfl rfl rfl ?_;intro w5 ae;rintro l_ au af ak;obtain ⟨u_,rfl⟩:=mid af ak (by decide) (by omega);clear au af ak;simp only [lay,fs,reduceAdd,reduceSub,take_succ_cons,take_zero,drop_succ_cons,drop_zero,set_cons_succ,set_cons_zero,cons_append,nil_append];have M:Hid (StR w B E m1 ps u15 nb I #[.string s,.int .i64 x,.int .i64 y] (.slice (some ⟨J,A,none⟩) R dc) dd w5):=ae;clear ae am ai;have ar:Hid (m1.length=M1/\NodesG m1):=⟨by rw [ab.1.l,ac.out];exact aD.out,ab.1.g⟩
 have cD:=M.out.call HC.2.2.2 ar.1 aA.out ar.2 (by omega) (b:=(ml:Int)) (fun _=>by rw [ac.out]) (by unfold InR;omega);go_wp2_with fail
 refine cD.mono ?_;rintro e w6 ⟨rfl,an⟩;have O:Hid (StR w B E ks ps u15 nb I #[.string s,.int .i64 x,.int .i64 y] (.slice (some ⟨J,A,none⟩) R dc) dd w6):=an
 have aw:Hid (ps.length+1<=1073741824):=by
  show _<=_;have:=aq.out;omega
 clear an cD M
 go_wp2_with (
  at_builtin
  generalize V:alloc _ _=W8;have ag:Hid (Bw w6 W8):=by rw [<- V];exact a_a _ _
  have ad:Hid (W8.heap[w6.heap.size]?=some (.cells (a_N .i64 [(ml:Int)]).toArray 3 (0,0))):=by show _=_;rw [<- V];exact heap_alloc_new _ _
  have H:Hid (StR w B E ks ps u15 nb I #[.string s,.int .i64 x,.int .i64 y] (.slice (some ⟨J,A,none⟩) R dc) dd W8):=O.out.up ag;have ap:Hid (OwnK .i64 3 W8 w.heap.size u15 ps):=H.out.p.own;have ao:Hid (w.heap.size<=W8.heap.size):=H.out.z;obtain ⟨g8,al⟩:∃ z,w6.heap.size=z:=⟨_,rfl⟩
  rw [al] at ad ⊢;have L:ps.length+1<=1073741824:=aw.out;clear V al;refine g_o e_g (by decide) rfl (.tmp 241) (.tmp 243) rfl w.heap.size _ ps rfl ap.out g8 1 [(ml:Int)] rfl ad.out rfl L ao.out ?_;intro v9 w9 H9 G9 A9;have aa:=H.out.grow H9.out G9.out A9.out;have aa:Hid (PrG 43 w B E (ps++[(ml:Int)]) v9 w9/\(d_o w9 B E ks/\Rr B w w9/\w.heap.size<=w9.heap.size)/\w9.heap[w.heap.size]?=some (.cells nb 34 (0,0))):=aa;clear H9 G9 A9 H ad ag ap ao L O)
 have hq:=hQ.out w9 v9 aa.out;exact hq _ rfl ⟨_,_,_,_,_,rfl⟩ rfl
theorem p_D {w:World} {B V eb A ui mi j2 nA cA np cp li M1:Nat} {ms m1 ks:List Nd} {ps dd X O1 O2:List Int} {u15:Value} {nb:Array Value} {ZA pp:Option Addr} {s:ByteArray} {x y:Int} {dp:Option Addr} {Z dc nB cB j3:Nat} {PK:Int} {ZB:Option Addr} {H:List Nd} {Y:List Int} {W2:World} {l:List Value} {Q:Exit->Act->World->Prop} {cd:Code} (HC:Hid (r_F/\r_G/\RLfC/\RDoC)) (aU:Hid (ms.length=A)) (aG:Hid (StR w B V ms ps u15 nb eb #[.string s,.int .i64 x,.int .i64 y] (.slice dp Z dc) dd W2)) (k0:(s.toList == [100,101,110,115,101])=true) (k1:(s.toList == [99,111,110,118])=false) (k2:(s.toList == [112,111,111,108])=false) (k3:(s.toList == [98,101,110,100])=false) (k4:(s.toList == [115,107,105,112])=false) (e1:W2.cell? ⟨eb,1,none⟩=some (.int .i64 x)) (aF:Calls Tryz.prog 21 #[.slice dp Z dc] W2 fun e w'=>e = .returned (.int .i64 PK)/\w'=W2) (aB:Hid (Nx ms (spL [x,PK] X) m1 O1/\RI [x,PK])) (aA:Hid (Nx m1 (spL [x] Y) H O2/\RI [x])) (a5:Hid (∀ W,Rr B w W->Nums .i64 W (.slice ZA nA cA) X)) (a4:Hid (∀ W,Sem.run Tryz.prog (Instr.slice 26 (.slice pp np cp) (some (.int .i64 (ui:Int))) (some (.int .i64 (j2:Int))) none) W = .ok (.slice ZA nA cA) W)) (a2:Hid (∀ W,Rr B w W->Nums .i64 W (.slice ZB nB cB) Y)) (a0:Hid (∀ W,Sem.run Tryz.prog (Instr.slice 26 (.slice pp np cp) (some (.int .i64 (j2:Int))) (some (.int .i64 (j3:Int))) none) W = .ok (.slice ZB nB cB) W)) (aD:IntKind.i64.wrap (x*PK)=(mi:Int)) (aS:IntKind.i64.wrap ((ui:Int)+(mi:Int))=(j2:Int)) (aZ:IntKind.i64.wrap ((j2:Int)+x)=(j3:Int)) (aw:Hid (A+1=M1)) (aE:Hid (Py H (l_r (decide (dd.length=2)) (A+2) (A:Int) ((A+1:Nat):Int) (li:Int)) ks)) (aJ:Hid (Z=dd.length)) (aL:Hid (ps.length<=100000)) (a6:cd=(Tryz.f11.body.bind (d_c 2)).getD .skip) (hl:l.length=272) (hh:[some (.pointer (some ⟨V,0,none⟩)),some (.slice pp np cp),some (.int .i64 0),some u15,some (.int .i64 (li:Int)),some (.int .i64 (ui:Int)),some (.pointer (some ⟨eb,0,none⟩)),some (.slice dp Z dc),some (.int .i64 0),some (.int .i64 0),some (.int .i64 0),some (.string s)] = [l[0]?,l[2]?,l[13]?,l[15]?,l[17]?,l[18]?,l[20]?,l[21]?,l[23]?,l[24]?,l[25]?,l[86]?])
  (hQ:Hid (∀ (wx:World) (aQ:Value) (M:Nat),l_s (decide (dd.length=2)) (A+2)=M->(PrG 43 w B V (ps++[(A:Int),(M1:Int)]) aQ wx/\(d_o wx B V ks/\Rr B w wx/\w.heap.size<=wx.heap.size)/\wx.heap[w.heap.size]?=some (.cells nb 34 (0,0)))->∀ l_:List Value,l_.length=272->(∃ u17 u23 u24 u26 u27,l_.take 87=lay (lay (lay (l.take 87) 15 [aQ]) 17 [u17,.int .i64 (j3:Int)]) 23 [u23,u24,.int .i64 (M:Int),u26,u27])->l_.drop 265=l.drop 265->Q .normal ⟨l_.toArray,[]⟩ wx)):Code.wp Tryz.prog cd Q ⟨l.toArray,[]⟩ W2:=by
 haveI:Nonempty World:=⟨w⟩
 subst a6
 iterate 17
  replace hl:=n_G hl;obtain ⟨_,_,_,_,_,_,_,_,_,_,_,_,_,_,_,_,l,rfl,hl⟩:=hl
 obtain rfl:=eq_nil_of_length_eq_zero hl;simp only [getElem?_cons_succ,getElem?_cons_zero,List.cons.injEq,Option.some.injEq,and_true] at hh;obtain ⟨rfl,rfl,rfl,rfl,rfl,rfl,rfl,rfl,rfl,rfl,rfl,rfl⟩:=hh
 conv=>arg 2;whnf
 have hx:(#[.string s,.int .i64 x,.int .i64 y]:Array Value)[1]?=some (.int .i64 x):=rfl;have hy:(#[.string s,.int .i64 x,.int .i64 y]:Array Value)[2]?=some (.int .i64 y):=rfl;have ke:=a_h e1;go_wp2_with fail
 refine aF.mono ?_;rintro e a8 ⟨rfl,e⟩;have e':=e.symm;subst e';clear e aF;go_wp2_with fail
 refine p_B HC aU aG hx hy aB a5 a4 aD aS rfl rfl rfl ?_;intro w5 aN;rintro l_ aq aa ab;obtain ⟨u_,rfl⟩:=mid aa ab (by decide) (by omega);clear aq aa ab;simp only [lay,fs,reduceAdd,reduceSub,take_succ_cons,take_zero,drop_succ_cons,drop_zero,set_cons_succ,set_cons_zero,cons_append,nil_append];have ap:Hid (StR w B V m1 ps u15 nb eb #[.string s,.int .i64 x,.int .i64 y] (.slice dp Z dc) dd w5):=aN;clear aN aG;have aW:Hid (m1.length=M1/\NodesG m1):=⟨by rw [aB.1.l,aU.out];exact aw.out,aB.1.g⟩
 go_wp2_with fail
 have aC:Hid (m1.length=M1):=aW.1;refine p_C HC aC ap hx hy aA a2 a0 aD aS aZ rfl rfl rfl ?_;intro w6 aI;rintro l_ aq aa ab;obtain ⟨u_,rfl⟩:=mid aa ab (by decide) (by omega);clear aq aa ab;simp only [lay,fs,reduceAdd,reduceSub,take_succ_cons,take_zero,drop_succ_cons,drop_zero,set_cons_succ,set_cons_zero,cons_append,nil_append];have L:Hid (StR w B V H ps u15 nb eb #[.string s,.int .i64 x,.int .i64 y] (.slice dp Z dc) dd w6):=aI;clear aI;have f1:=L.out.cl (i:=1) (v:=.int .i64 x) hx;obtain ⟨M2,az⟩:∃ j:Nat,A+2=j:=⟨_,rfl⟩
 have an:Hid (H.length=M2/\NodesG H):=⟨by rw [aA.1.l,aW.1,<- aw.out];exact az,aA.1.g⟩
 have a7:=a_h f1;obtain ⟨M3,aO⟩:∃ j:Nat,A+3=j:=⟨_,rfl⟩
 obtain ⟨M4,aM⟩:∃ j:Nat,A+4=j:=⟨_,rfl⟩
 obtain ⟨M5,aH⟩:∃ j:Nat,A+5=j:=⟨_,rfl⟩
 have HM:Hid (A+1=M1/\A+2=M2/\A+3=M3/\A+4=M4/\A+5=M5):=⟨aw.out,az,aO,aM,aH⟩
 clear az aO aM aH ap
 have aX:Hid (ps.length+2<=1073741824):=by
  show _<=_;have:=aL.out;omega
 by_cases h2:dd.length=2
 case' pos=>
  have E:=aE.out;rw [decide_eq_true h2] at E;replace E:Py H [spD 14 (li:Int) 0 0,spD 4 (A:Int) ((A+2:Nat):Int) 0,spD 8 ((A+3:Nat):Int) 0 1,spD 2 ((A+4:Nat):Int) ((A+1:Nat):Int) 0] ks:=E;rw [HM.1,HM.2.1,HM.2.2.1,HM.2.2.2.1] at E;obtain ⟨mm,O3,am,I,O4,ad,J,O5,ag,ar,O6,ac,O⟩:=E;obtain rfl:ks=ar:=O;have HY:Hid (l_s (decide (dd.length=2)) (A+2)=M5):=by rw [decide_eq_true h2];exact HM.2.2.2.2
  have a1:((Z:Int)==2)=true:=by
   have:=aJ.out;rw [h2] at this;subst this;rfl
  have HN:Hid (M3+1=M4/\M4+1=M5):=by show _/\_;have:=HM.out;omega
  have cD:=L.out.call HC.2.2.2 an.1 am an.2 (by omega) (b:=-1) (fun h=>absurd h (by unfold d_H;omega)) (by unfold InR;omega);have aj:Hid (mm.length=M3/\NodesG mm):=⟨by rw [am.l,an.1,<- HM.2.1];exact HM.2.2.1,am.g⟩
  have HX:Hid (Nx mm (spD 4 (A:Int) (M2:Int) 0) I O4/\Nx I (spD 8 (M3:Int) 0 1) J O5/\Nx J (spD 2 (M4:Int) (M1:Int) 0) ks O6):=⟨ad,ag,ac⟩
  clear am ad ag ac h2;go_wp2_with fail
  refine cD.mono ?_;rintro e wa ⟨rfl,hS⟩;have ax:Hid (StR w B V mm ps u15 nb eb #[.string s,.int .i64 x,.int .i64 y] (.slice dp Z dc) dd wa):=hS;clear hS cD L;obtain ⟨sc,rfl⟩:∃ z,z=M2:=⟨_,rfl⟩
  obtain ⟨La,rfl⟩:∃ z,z=M3:=⟨_,rfl⟩
  obtain ⟨Lb,rfl⟩:∃ z,z=M4:=⟨_,rfl⟩
  obtain ⟨Lc,rfl⟩:∃ z,z=M5:=⟨_,rfl⟩
 case' neg=>
  have E:=aE.out;rw [decide_eq_false h2] at E;replace E:Py H [spD 4 (A:Int) (li:Int) 0,spD 8 ((A+2:Nat):Int) 0 1,spD 2 ((A+3:Nat):Int) ((A+1:Nat):Int) 0] ks:=E;rw [HM.1,HM.2.1,HM.2.2.1] at E;obtain ⟨I,O4,ad,J,O5,ag,ar,O6,ac,O⟩:=E;obtain rfl:ks=ar:=O;have HY:Hid (l_s (decide (dd.length=2)) (A+2)=M4):=by rw [decide_eq_false h2];exact HM.2.2.2.1
  have a1:((Z:Int)==2)=false:=by
   have:=aJ.out;simp;omega
  have HN:Hid (M2+1=M3/\M3+1=M4):=by show _/\_;have:=HM.out;omega
  have aj:=an;have ax:=L;have HX:Hid (Nx H (spD 4 (A:Int) (li:Int) 0) I O4/\Nx I (spD 8 (M2:Int) 0 1) J O5/\Nx J (spD 2 (M3:Int) (M1:Int) 0) ks O6):=⟨ad,ag,ac⟩
  clear ad ag ac h2 L;obtain ⟨sc,rfl⟩:∃ z,z=li:=⟨_,rfl⟩
  obtain ⟨La,rfl⟩:∃ z,z=M2:=⟨_,rfl⟩
  obtain ⟨Lb,rfl⟩:∃ z,z=M3:=⟨_,rfl⟩
  obtain ⟨Lc,rfl⟩:∃ z,z=M4:=⟨_,rfl⟩
  obtain ⟨mm,rfl⟩:∃ z,z=H:=⟨_,rfl⟩
  obtain ⟨wa,rfl⟩:∃ z,z=w6:=⟨_,rfl⟩
 all_goals
  go_wp2_with fail
  have cD:=ax.out.call HC.2.2.2 aj.1 HX.1 aj.2 (by omega) (b:=(sc:Int)) (fun _=>rfl) (by unfold InR;omega);refine cD.mono ?_;rintro e a3 ⟨rfl,hS⟩;have ah:Hid (StR w B V I ps u15 nb eb #[.string s,.int .i64 x,.int .i64 y] (.slice dp Z dc) dd a3):=hS;have R:Hid (I.length=Lb/\NodesG I):=⟨by rw [HX.1.l,aj.1];exact HN.1,HX.1.g⟩
  clear hS cD ax;go_wp2_with fail
  have cD:=ah.out.call HC.2.2.2 R.1 HX.2.1 R.2 (by omega) (b:=-1) (fun h=>absurd h (by unfold d_H;omega)) (by unfold InR;omega);refine cD.mono ?_;rintro e aY ⟨rfl,hS⟩;have ae:Hid (StR w B V J ps u15 nb eb #[.string s,.int .i64 x,.int .i64 y] (.slice dp Z dc) dd aY):=hS;have af:Hid (J.length=Lc/\NodesG J):=⟨by rw [HX.2.1.l,R.1];exact HN.2,HX.2.1.g⟩
  clear hS cD ah;go_wp2_with fail
  have cD:=ae.out.call HC.2.2.2 af.1 HX.2.2 af.2 (by omega) (b:=(M1:Int)) (fun _=>rfl) (by unfold InR;omega);refine cD.mono ?_;rintro e ak ⟨rfl,hS⟩;have ai:Hid (StR w B V ks ps u15 nb eb #[.string s,.int .i64 x,.int .i64 y] (.slice dp Z dc) dd ak):=hS;clear hS cD ae
  go_wp2_with (
   at_builtin
   generalize ay:alloc _ _=W8;have aP:Hid (Bw ak W8):=by rw [<- ay];exact a_a _ _
   have av:Hid (W8.heap[ak.heap.size]?=some (.cells (a_N .i64 [(A:Int),(M1:Int)]).toArray 3 (0,0))):=by show _=_;rw [<- ay];exact heap_alloc_new _ _
   have al:Hid (StR w B V ks ps u15 nb eb #[.string s,.int .i64 x,.int .i64 y] (.slice dp Z dc) dd W8):=ai.out.up aP;have aV:Hid (OwnK .i64 3 W8 w.heap.size u15 ps):=al.out.p.own;have aT:Hid (w.heap.size<=W8.heap.size):=al.out.z;obtain ⟨g8,aR⟩:∃ z,ak.heap.size=z:=⟨_,rfl⟩
   rw [aR] at av ⊢;have ao:ps.length+2<=1073741824:=aX.out;clear ay aR;refine g_o e_g (by decide) rfl (.tmp 193) (.tmp 196) rfl w.heap.size _ ps rfl aV.out g8 2 [(A:Int),(M1:Int)] rfl av.out rfl ao aT.out ?_;intro v9 w9 H9 G9 A9;have au:=al.out.grow H9.out G9.out A9.out;have au:Hid (PrG 43 w B V (ps++[(A:Int),(M1:Int)]) v9 w9/\(d_o w9 B V ks/\Rr B w w9/\w.heap.size<=w9.heap.size)/\w9.heap[w.heap.size]?=some (.cells nb 34 (0,0))):=au;clear H9 G9 A9 al av aP aV aT ao ai)
  have hq:=hQ.out w9 v9 Lc HY.out au.out;exact hq _ rfl ⟨_,_,_,_,_,rfl⟩ rfl
end Go.Proofs.YtkfpainpomobfaaGreatDoor.Wd
