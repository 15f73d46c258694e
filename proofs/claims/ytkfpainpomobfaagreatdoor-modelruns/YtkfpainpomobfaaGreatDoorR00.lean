/- Nets: what chapter 12 says of shapes and -/
import Derived.WalkKit
import Derived.ProofKit
import Derived.OpenShut
import Derived.ChangeSlices
import Derived.Carry
import Derived.WalkSpells
import Derived.Handy
import Derived.Deep.AppendSrc
import Derived.OwnWalk
import Derived.Laws.AppendOwnNone
import Derived.Laws.OwnMore
import Derived.OneCell
import Derived.RowKit
import Derived.Test.YtkfpainpomobfaaGreatDoorProg
import Derived.Deep.LoopGhost
import Derived.Deep.Draws
import Derived.BigQuiet
import Derived.Deep.QuietTactic
import Derived.WalkSmall
import Derived.Below
set_option linter.unusedVariables false
set_option linter.unusedSimpArgs false
set_option maxHeartbeats 16000000
set_option maxRecDepth 16000
namespace Go.Proofs.YtkfpainpomobfaaGreatDoor.Wd
theorem nn5:¬ (0:Nat)=1/\¬ (0:Nat)=2/\¬ (0:Nat)=3/\¬ (0:Nat)=4/\¬ (1:Nat)=0/\¬ (1:Nat)=2/\¬ (1:Nat)=3/\¬ (1:Nat)=4/\¬ (2:Nat)=0/\¬ (2:Nat)=1/\¬ (2:Nat)=3/\¬ (2:Nat)=4/\¬ (3:Nat)=0/\¬ (3:Nat)=1/\¬ (3:Nat)=2/\¬ (3:Nat)=4/\¬ (4:Nat)=0/\¬ (4:Nat)=1/\¬ (4:Nat)=2/\¬ (4:Nat)=3/\¬ (5:Nat)=0/\¬ (5:Nat)=1/\¬ (5:Nat)=2/\¬ (5:Nat)=3/\¬ (5:Nat)=4:=by decide
/-- A layer: its kind and two numbers. -/
abbrev Ly:=ByteArray×Int×Int
def f_m:ByteArray:=⟨#[100,101,110,115,101]⟩
def i_P:ByteArray:=⟨#[99,111,110,118]⟩
def i_Q:ByteArray:=⟨#[112,111,111,108]⟩
def i_R:ByteArray:=⟨#[98,101,110,100]⟩
def d_5:ByteArray:=⟨#[115,107,105,112]⟩
/-- A kind's place in the table; 5: it is none. -/
def a_m (s:ByteArray):Nat:=if s=f_m then 0 else if s=i_P then 1 else if s=i_Q then 2 else if s=i_R then 3 else if s=d_5 then 4 else 5
def b_N (i:Nat):ByteArray:=[f_m,i_P,i_Q,i_R,d_5].getD i ⟨#[]⟩
theorem c_Q (s:ByteArray):(s=f_m/\a_m s=0)∨(s=i_P/\a_m s=1)∨(s=i_Q/\a_m s=2)∨(s=i_R/\a_m s=3)∨(s=d_5/\a_m s=4)∨((s≠f_m/\s≠i_P/\s≠i_Q/\s≠i_R/\s≠d_5)/\a_m s=5):=by
 by_cases J:s=f_m
 ·exact .inl ⟨J,by rw [J];decide +kernel⟩
 by_cases E:s=i_P
 ·exact .inr (.inl ⟨E,by rw [E];decide +kernel⟩)
 by_cases H:s=i_Q
 ·exact .inr (.inr (.inl ⟨H,by rw [H];decide +kernel⟩))
 by_cases A:s=i_R
 ·exact .inr (.inr (.inr (.inl ⟨A,by rw [A];decide +kernel⟩)))
 by_cases I:s=d_5
 ·exact .inr (.inr (.inr (.inr (.inl ⟨I,by rw [I];decide +kernel⟩))))
 ·exact .inr (.inr (.inr (.inr (.inr ⟨⟨J,E,H,A,I⟩,by simp [a_m,J,E,H,A,I]⟩))))
theorem g_5 (s:ByteArray):a_m s<=5:=by
 rcases c_Q s with h|h|h|h|h|h <;> omega
theorem e_v (s:ByteArray) (h:a_m s < 5):b_N (a_m s)=s:=by
 rcases c_Q s with ⟨rfl,e⟩|⟨rfl,e⟩|⟨rfl,e⟩|⟨rfl,e⟩|⟨rfl,e⟩|⟨_,e⟩
 ·rw [e];rfl
 ·rw [e];rfl
 ·rw [e];rfl
 ·rw [e];rfl
 ·rw [e];rfl
 ·omega
def b_Z (i:Nat):Nat:=if i=1 then 2 else if i < 4 then 1 else 0
def c_h (i:Nat):Int:=if i=0 then 256 else if i=1 then 16 else if i=2 then 16 else if i=3 then 5 else 0
def c_R (i:Nat):Int:=if i=1 then 16 else 0
/-- May a layer's kind and numbers be? -/
abbrev a_L (l:Ly):Prop:=a_m l.1 < 5/\(if 0 < b_Z (a_m l.1) then 1<=l.2.1/\l.2.1<=c_h (a_m l.1) else l.2.1=0)/\(if 1 < b_Z (a_m l.1) then 1<=l.2.2/\l.2.2<=c_R (a_m l.1) else l.2.2=0)
theorem a_s {l:Ly} (h:a_L l):(l.1=f_m/\a_m l.1=0/\(1<=l.2.1/\l.2.1<=256)/\l.2.2=0)∨(l.1=i_P/\a_m l.1=1/\(1<=l.2.1/\l.2.1<=16)/\1<=l.2.2/\l.2.2<=16)∨(l.1=i_Q/\a_m l.1=2/\(1<=l.2.1/\l.2.1<=16)/\l.2.2=0)∨(l.1=i_R/\a_m l.1=3/\(1<=l.2.1/\l.2.1<=5)/\l.2.2=0)∨(l.1=d_5/\a_m l.1=4/\l.2.1=0/\l.2.2=0):=by
 obtain ⟨H,A,E⟩:=h;rcases c_Q l.1 with ⟨e,k⟩|⟨e,k⟩|⟨e,k⟩|⟨e,k⟩|⟨e,k⟩|⟨_,k⟩ <;> rw [k] at H A E <;> simp [b_Z,c_h,c_R] at A E
 ·exact .inl ⟨e,k,A,E⟩
 ·exact .inr (.inl ⟨e,k,A,E⟩)
 ·exact .inr (.inr (.inl ⟨e,k,A,E⟩))
 ·exact .inr (.inr (.inr (.inl ⟨e,k,A,E⟩)))
 ·exact .inr (.inr (.inr (.inr ⟨e,k,A,E⟩)))
 ·omega
/-- What comes in. -/
def InOk (d:List Int):Prop:=(∃ x,d = [x]/\1<=x/\x<=1024)∨∃ x y,d = [x,y]/\(1<=x/\x<=64)/\1<=y/\y<=64
def e_w (d:List Int):Bool:=match d with
 | [x]=>decide (1<=x/\x<=1024)
 | [x,y]=>decide ((1<=x/\x<=64)/\1<=y/\y<=64)
 | _=>false
theorem l_F (d:List Int):e_w d=true↔InOk d:=by
 unfold InOk
 match d with
 | []=>simp [e_w]
 | [x]=>simp [e_w]
 | [x,y]=>
  simp only [e_w,decide_eq_true_eq]
  exact ⟨fun h=>.inr ⟨x,y,rfl,h⟩,fun h=>by
   rcases h with ⟨_,h,_⟩|⟨_,_,h,A⟩
   ·simp at h
   ·simp only [List.cons.injEq,and_true] at h;obtain ⟨rfl,rfl⟩:=h;exact A⟩
 | x :: y :: z :: r=>simp [e_w]
def b_O (d:List Int) (ls:List Ly):Bool:=e_w d && ls.all fun l=>decide (a_L l)
def a_o (l:List Int):Int:=l.foldl (·*·) 1
def c_S (l:Ly) (d:List Int):Option (List Int):=
 if a_m l.1=0 then some [l.2.1]
 else if a_m l.1=1 then (if d.length=2/\l.2.2<=d.getD 1 0 then some [l.2.1,d.getD 1 0 - l.2.2+1] else none)
 else if a_m l.1=2 then (if d.length=2/\l.2.1<=d.getD 1 0 then some [d.getD 0 0,Int.tdiv (d.getD 1 0) l.2.1] else none)
 else some d
def b_L (l:Ly) (d:List Int):List (List Int):=if a_m l.1=0 then [[l.2.1,a_o d],[l.2.1]] else if a_m l.1=1 then [[l.2.1,d.getD 0 0,l.2.2]] else []
def lyD:Ly:=(⟨#[]⟩,0,0)
def lyA (ls:List Ly) (i:Nat):Ly:=ls.getD i lyD
def shA (S:List (List Int)) (i:Nat):List Int:=S.getD i []
/-- May the i-th layer, a skip, add what went into the one ahead? -/
abbrev c_G (ls:List Ly) (S:List (List Int)) (i:Nat):Prop:=0 < i/\(lyA ls (i - 1)).1≠d_5/\shA S (i - 1)=shA S i
def f_H (ls:List Ly) (i:Nat) (S:List (List Int)):Option (List (List Int)):=
 if (lyA ls i).1=d_5/\¬ c_G ls S i then none else (c_S (lyA ls i) (shA S i)).map fun o=>S++[o]
/-- What comes in, and what goes out of the first i layers. -/
def shN (d:List Int) (ls:List Ly):Nat->Option (List (List Int))
 | 0=>some [d]
 | i+1=>(shN d ls i).bind (f_H ls i)
theorem j_E {d:List Int} {ls:List Ly} {i:Nat} (h:shN d ls i=none):∀ k,shN d ls (i+k)=none
 | 0=>h
 | k+1=>by rw [<- Nat.add_assoc];show (shN d ls (i+k)).bind _=none;rw [j_E h k];rfl
theorem b_k {d:List Int} {ls:List Ly} {i n:Nat} (h:shN d ls i=none) (A:i<=n):shN d ls n=none:=by
 have:=j_E h (n - i);rwa [show i+(n - i)=n by omega] at this
theorem a_H {d:List Int} {ls:List Ly} {i:Nat} {S:List (List Int)} (h:shN d ls i=some S):shN d ls (i+1)=f_H ls i S:=by
 show (shN d ls i).bind _=_;rw [h];rfl
theorem c_N {d:List Int} {ls:List Ly}:∀ {i:Nat} {S:List (List Int)},shN d ls i=some S->S.length=i+1
 | 0,S,h=>by cases h;rfl
 | i+1,S,h=>by
  cases A:shN d ls i with
  | none=>rw [b_k A (Nat.le_succ i)] at h;cases h
  | some S0=>
   rw [a_H A] at h;unfold f_H at h
   split at h
   ·cases h
   ·obtain ⟨o,E,rfl⟩:=Option.map_eq_some_iff.1 h;rw [List.length_append,c_N A];rfl
theorem e_x {ls:List Ly} {i:Nat} {S A:List (List Int)} (h:f_H ls i S=some A):∃ o,A=S++[o]/\c_S (lyA ls i) (shA S i)=some o:=by
 unfold f_H at h
 split at h
 ·cases h
 ·obtain ⟨o,E,rfl⟩:=Option.map_eq_some_iff.1 h;exact ⟨o,rfl,E⟩
theorem d_p {ls:List Ly} {i:Nat} (h:i < ls.length):lyA ls i∈ls:=by
 unfold lyA;rw [List.getD_eq_getElem?_getD,List.getElem?_eq_getElem h];exact List.getElem_mem _
theorem e_c {S:List (List Int)} {i:Nat} (T:List (List Int)) (h:i < S.length):shA (S++T) i=shA S i:=by
 unfold shA;rw [List.getD_eq_getElem?_getD,List.getD_eq_getElem?_getD,List.getElem?_append_left h]
theorem f_w (S:List (List Int)) (o:List Int) (i:Nat) (h:S.length=i):shA (S++[o]) i=o:=by
 subst h;unfold shA;simp
theorem InOk.out {l:Ly} {d o:List Int} (A:InOk d) (O:a_L l) (h:c_S l d=some o):InOk o:=by
 unfold c_S at h;rcases a_s O with ⟨_,k,E,H⟩|⟨_,k,E,H⟩|⟨_,k,E,H⟩|⟨_,k,E,H⟩|⟨_,k,E,H⟩ <;> rw [k] at h <;> simp at h
 ·subst h;exact .inl ⟨_,rfl,by omega,by omega⟩
 ·obtain ⟨⟨I,J⟩,rfl⟩:=h;rcases A with ⟨x,rfl,_⟩|⟨x,y,rfl,L,M⟩
  ·simp at I
  ·simp at J ⊢;exact .inr ⟨_,_,rfl,by omega,by omega,by omega⟩
 ·obtain ⟨⟨I,J⟩,rfl⟩:=h;rcases A with ⟨x,rfl,_⟩|⟨x,y,rfl,L,M⟩
  ·simp at I
  ·simp at J ⊢;refine .inr ⟨_,_,rfl,L,?_,?_⟩
   ·rw [Int.tdiv_eq_ediv_of_nonneg (by omega)];exact (Int.le_ediv_iff_mul_le (by omega)).2 (by omega)
   ·rw [Int.tdiv_eq_ediv_of_nonneg (by omega)];have:=Int.ediv_le_self l.2.1 (a:=y) (by omega);omega
 ·subst h;exact A
 ·subst h;exact A
theorem e_y {d:List Int} {ls:List Ly} (H:InOk d) (I:∀ l∈ls,a_L l):∀ {i:Nat} {S:List (List Int)},i<=ls.length->shN d ls i=some S->∀ k,k < i+1->InOk (shA S k)
 | 0,S,_,h,k,hk=>by
  cases h;obtain rfl:k=0:=by omega
  exact H
 | i+1,S,hi,h,k,hk=>by
  cases A:shN d ls i with
  | none=>rw [b_k A (Nat.le_succ i)] at h;cases h
  | some S0=>
   rw [a_H A] at h;obtain ⟨o,rfl,J⟩:=e_x h;have L:=c_N A;rcases Nat.lt_or_ge k (i+1) with E|E
   ·rw [e_c _ (by omega)];exact e_y H I (by omega) A k E
   ·rw [f_w S0 o k (by omega)];exact (e_y H I (by omega) A i (by omega)).out (I _ (d_p (by omega))) J
theorem b_m (x:Int):a_o [x]=x:=by simp [a_o]
theorem b_n (x y:Int):a_o [x,y]=x*y:=by simp [a_o]
theorem b_o (x y z:Int):a_o [x,y,z]=x*y*z:=by simp [a_o]
theorem a_S {x y a b:Int} (A:1<=x/\x<=a) (E:1<=y/\y<=b):1<=x*y/\x*y<=a*b:=by
 refine ⟨?_,Int.mul_le_mul A.2 E.2 (by omega) (by omega)⟩;have:=Int.mul_le_mul A.1 E.1 (by omega) (by omega);omega
theorem InOk.prod {d:List Int} (h:InOk d):1<=a_o d/\a_o d<=4096:=by
 rcases h with ⟨x,rfl,h⟩|⟨x,y,rfl,A,E⟩
 ·rw [b_m];omega
 ·rw [b_n];have:=a_S A E;omega
/-- How many parameters a layer has. -/
def psz (l:Ly) (d:List Int):Int:=if a_m l.1=0 then l.2.1*a_o d+l.2.1 else if a_m l.1=1 then l.2.1*d.getD 0 0*l.2.2 else 0
def b_Q (ls:List Ly) (S:List (List Int)):Nat->Int
 | 0=>0
 | i+1=>b_Q ls S i+psz (lyA ls i) (shA S i)
theorem e_d {l:Ly} {d:List Int} (H:InOk d) (J:a_L l):0<=psz l d/\psz l d<=1049600:=by
 unfold psz;have hp:=H.prod;rcases a_s J with ⟨_,k,A,E⟩|⟨_,k,A,E⟩|⟨_,k,A,E⟩|⟨_,k,A,E⟩|⟨_,k,A,E⟩ <;> rw [k] <;> simp
 ·have:=a_S A hp;omega
 ·rcases H with ⟨x,rfl,h⟩|⟨x,y,rfl,I,L⟩
  ·have:=a_S (a_S A h) E;simp;omega
  ·have:=a_S (a_S A I) E;simp;omega
theorem e_z {ls:List Ly} {S:List (List Int)}:∀ {i:Nat},(∀ k,k < i->InOk (shA S k))->(∀ k,k < i->a_L (lyA ls k))->0<=b_Q ls S i/\b_Q ls S i<=1049600*(i:Int)
 | 0,_,_=>by simp [b_Q]
 | i+1,h,h2=>by
  have:=e_z (fun k A=>h k (by omega)) (fun k A=>h2 k (by omega)) (i:=i);have E:=e_d (h i (by omega)) (h2 i (by omega));simp only [b_Q];omega
/-- More than may be: the reasons, the first i layers' parameters among them. -/
def i_S (S:List (List Int)):Bool:=S.any fun s=>decide (4096 < a_o s)
def o_g (l:Ly) (d:List Int):Bool:=(b_L l d).any fun s=>decide (4096 < a_o s)
def k_Q (ls:List Ly) (S:List (List Int)):Nat->Bool
 | 0=>false
 | i+1=>k_Q ls S i || o_g (lyA ls i) (shA S i)
def d_7 (ls:List Ly) (S:List (List Int)):Bool:=decide (16 < ls.length) || i_S S || k_Q ls S ls.length || decide (4096 < b_Q ls S ls.length)
/-- What Shapes answers: an error, shapes, how many parameters. -/
def nE (d:List Int) (ls:List Ly):Int:=if b_O d ls=true then (match shN d ls ls.length with|none=>4|some S=>if d_7 ls S=true then 2 else 0) else 1
def nS (d:List Int) (ls:List Ly):List (List Int):=if nE d ls=0 then (shN d ls ls.length).getD [] else []
def nP (d:List Int) (ls:List Ly):Int:=if nE d ls=0 then b_Q ls ((shN d ls ls.length).getD []) ls.length else 0
theorem b_a (d:List Int) (ls:List Ly):b_O d ls=true↔InOk d/\∀ l∈ls,a_L l:=by
 unfold b_O;rw [Bool.and_eq_true,l_F,List.all_eq_true];simp only [decide_eq_true_eq]
theorem l_G {d:List Int} {ls:List Ly} (h:¬ b_O d ls=true):nE d ls=1:=by unfold nE;rw [if_neg h]
theorem d_q {d:List Int} {ls:List Ly} (h:b_O d ls=true) (A:shN d ls ls.length=none):nE d ls=4:=by unfold nE;rw [if_pos h,A]
theorem l_H {d:List Int} {ls:List Ly} {S:List (List Int)} (h:b_O d ls=true) (E:shN d ls ls.length=some S) (A:d_7 ls S=true):nE d ls=2:=by unfold nE;rw [if_pos h,E];simp [A]
theorem h_O {d:List Int} {ls:List Ly} {S:List (List Int)} (h:b_O d ls=true) (A:shN d ls ls.length=some S) (E:d_7 ls S=false):nE d ls=0/\nS d ls=S/\nP d ls=b_Q ls S ls.length:=by
 have e:nE d ls=0:=by unfold nE;rw [if_pos h,A];simp [E]
 refine ⟨e,?_,?_⟩
 ·unfold nS;rw [if_pos e,A];rfl
 ·unfold nP;rw [if_pos e,A];rfl
theorem h_P {d:List Int} {ls:List Ly} (h:nE d ls≠0):nS d ls = []/\nP d ls=0:=⟨if_neg h,if_neg h⟩
/-- What a good net is. -/
theorem c_H {d:List Int} {ls:List Ly} (h:nE d ls=0):∃ S,b_O d ls=true/\shN d ls ls.length=some S/\d_7 ls S=false:=by
 unfold nE at h
 split at h
 ·rename_i hf
  cases A:shN d ls ls.length with
  | none=>rw [A] at h;simp at h
  | some S=>
   rw [A] at h;refine ⟨S,hf,rfl,?_⟩;cases E:d_7 ls S with
   | false=>rfl
   | true=>simp [E] at h
 ·cases h
end Go.Proofs.YtkfpainpomobfaaGreatDoor.Wd
namespace Go.Proofs.YtkfpainpomobfaaGreatDoor
open Go.RowKit List World Nat
abbrev Bw (w W:World):Prop:=Below w.heap.size w W
theorem mC {α:Type _} {a b:α} {l:List α} (h:a∈l):a∈b :: l:=mem_cons_of_mem _ h
theorem mS {α:Type _} {a:α} {l:List α}:a∈a :: l:=mem_cons_self
end Go.Proofs.YtkfpainpomobfaaGreatDoor
namespace Go.Proofs.YtkfpainpomobfaaGreatDoor.Wd
open Go.ChangeShapes Go.WideShapes Go.ChangeAt Go.RowKit
/-- The slice's elements are the numbers z 0, z 1 .. , each fitting its kind; where it has one, they lie one behind the other in a block. -/
def Row (k:IntKind) (W:World) (p:Option Addr) (n c:Nat) (z:Nat->Int):Prop:=
 n<=c/\c<=9223372036854775807/\(∀ i,i < n->(Lit.int k (z i)).wf=true)/\(0 < n->∃ b o,p=some ⟨b,o,none⟩/\b < W.heap.size/\∀ i,i < n->W.cell? ⟨b,o+i,none⟩=some (.int k (z i)))
theorem a_a (W:World) (o:Obj):Below W.heap.size W (W.alloc o):=(Below.refl _ _).alloc (Nat.le_refl _) _
theorem a_c {w A E:World} (h:Bw w A) (H:Bw A E):Bw w E:=h.trans (H.mono h.size)
theorem e_A {W:World} {a:Addr} {v:Value} (h:W.cell? a=some v):a=⟨a.block,a.off,none⟩:=by
 unfold World.cell? at h
 split at h
 ·obtain ⟨b,o,s⟩:=a;cases s with
  | none=>rfl
  | some x=>simp at h
 ·cases h
theorem a_h {W:World} {b o:Nat} {v:Value} (h:W.cell? ⟨b,o,none⟩=some v):b < W.heap.size:=by
 by_cases c:b < W.heap.size
 ·exact c
 ·exfalso;unfold World.cell? at h;rw [show W.heap[b]?=none from by simp;omega] at h;simp at h
theorem o_h {H:Type} {enc:TypeId×Value->H} {P:Program} {W:World} {t e:TypeId} {k:IntKind} {a:Option Addr} {n c:Nat} {d:DataW H} {ps:List MemPlace} (ht:P.underlying t=some (.slice e)) (he:P.underlying e=some (.int k)) (V:P.cellsOf e=1)
  (h:DataW.Trod enc P W 0 (fun _=>true) true t (.slice a n c) d ps):∃ z,Row k W a n c z:=by
 obtain ⟨fuel,hf⟩:=h;rcases open_ints ht he V hf with ⟨E,_⟩|⟨x,l,c',zs,E,_,Z,R,hz,_,A,L⟩
 ·simp [Value.cells] at E;obtain ⟨rfl,rfl,rfl⟩:=E;exact ⟨fun _=>0,by omega,by omega,fun i M=>by omega,fun h=>by omega⟩
 ·simp [Value.cells] at E;obtain ⟨rfl,rfl,rfl⟩:=E;have aa:zs.length=c:=by simpa using hz
  refine ⟨fun i=>zs.getD i 0,Z,by unfold maxLen at R;omega,fun i M=>L _ ?_,fun h=>?_⟩
  ·show zs.getD i 0∈zs;rw [List.getD_eq_getElem?_getD,List.getElem?_eq_getElem (by omega)];exact List.getElem_mem _
  ·have I:=A 0 (by omega);have O:x.add 0=x:=by simp [Addr.add]
   rw [O] at I;have J:=e_A I;refine ⟨x.block,x.off,by rw [<- J],?_,fun i M=>?_⟩
   ·rw [J] at I;exact a_h I
   ·have:=A i (by omega);rw [<- this]
    congr 1
    unfold Addr.add
    split
    ·rename_i h;subst h;rw [Nat.add_zero];exact J.symm
    ·rw [J]
/-- The same, and a nil slice has no room. -/
def RowN (k:IntKind) (W:World) (p:Option Addr) (n c:Nat) (z:Nat->Int):Prop:=Row k W p n c z/\(p=none->n=0/\c=0)
theorem open_rowN {H:Type} {enc:TypeId×Value->H} {P:Program} {W:World} {t e:TypeId} {k:IntKind} {a:Option Addr} {n c:Nat} {d:DataW H} {ps:List MemPlace} (E:P.underlying t=some (.slice e)) (he:P.underlying e=some (.int k)) (I:P.cellsOf e=1)
  (h:DataW.Trod enc P W 0 (fun _=>true) true t (.slice a n c) d ps):∃ z,RowN k W a n c z:=by
 obtain ⟨z,J⟩:=o_h E he I h;refine ⟨z,J,fun L=>?_⟩;subst L;obtain ⟨fuel,hf⟩:=h;rcases open_ints E he I hf with ⟨A,_⟩|⟨x,l,M,zs,A,_⟩
 ·simp [Value.cells] at A;exact A
 ·simp [Value.cells] at A
end Go.Proofs.YtkfpainpomobfaaGreatDoor.Wd
namespace Go.Proofs.YtkfpainpomobfaaGreatDoor.Wd
open Go.RowKit List World Nat
theorem c_T {W:World} {a:Addr} {v:Value} (h:W.cell? a=some v):a.block < W.heap.size:=by
 by_cases c:a.block < W.heap.size
 ·exact c
 ·exfalso;unfold cell? at h;rw [show W.heap[a.block]?=none from by simp;omega] at h;simp at h
theorem a_r (b o j:Nat):(⟨b,o,none⟩:Addr).add j=⟨b,o+j,none⟩:=by
 unfold Addr.add
 split
 ·rename_i h;rw [h,Nat.add_zero]
 ·rfl
theorem a_g {W W':World} {a:Addr} {v:Value} (hb:Bw W W') (h:W.cell? a=some v):W'.cell? a=some v:=by
 rw [hb.cell (p:=a) (c_T h)];exact h
def a_N (k:IntKind) (l:List Int):List Value:=l.map (Value.int k)
theorem d_L (k:IntKind) (l:List Int):∀ u∈a_N k l,u.oneCell'=true:=by
 intro u A;obtain ⟨x,_,rfl⟩:=mem_map.1 A;rfl
theorem o_i (k:IntKind) (l:List Int) (j:Nat) (x:Int):(a_N k l).set j (.int k x)=a_N k (l.set j x):=by
 unfold a_N;rw [map_set]
theorem g_6 (k:IntKind) (l:List Int) (j:Nat) (h:j < l.length):(a_N k l)[j]?=some (.int k (l.getD j 0)):=by
 unfold a_N;rw [getElem?_map,getElem?_eq_getElem h,getD_eq_getElem?_getD,getElem?_eq_getElem h];rfl
/-- The slice's numbers are these. -/
def Nums (k:IntKind) (W:World) (v:Value) (l:List Int):Prop:=
 (v = .slice none 0 0/\l = [])∨∃ ad c,v = .slice (some ad) l.length c/\∀ j u,(a_N k l)[j]?=some u->W.cell? (ad.add j)=some u
theorem Nums.up {k:IntKind} {W W':World} {v:Value} {l:List Int} (h:Nums k W v l) (hb:Bw W W'):Nums k W' v l:=by
 rcases h with h|⟨E,c,rfl,h⟩
 ·exact .inl h
 ·exact .inr ⟨E,c,rfl,fun j u A=>a_g hb (h j u A)⟩
theorem Nums.view {k:IntKind} {W:World} {v:Value} {l:List Int} (h:Nums k W v l):∃ p c,v = .slice p l.length c/\∀ j,j < l.length->∃ q o,p=some ⟨q,o,none⟩/\W.cell? ⟨q,o+j,none⟩=some (.int k (l.getD j 0)):=by
 rcases h with ⟨rfl,rfl⟩|⟨H,c,rfl,h⟩
 ·exact ⟨none,0,rfl,fun j E=>by simp at E⟩
 ·refine ⟨_,c,rfl,fun j E=>?_⟩;have I:=h 0 _ (g_6 k l 0 (by omega));have A:=h j _ (g_6 k l j E);have:=e_A (show W.cell? H=_ from I);obtain ⟨q,o,J⟩:=H;cases this;rw [a_r] at A;exact ⟨q,o,rfl,A⟩
/-- A slice that came in, as a list. -/
def o_j (n:Nat) (z:Nat->Int):List Int:=(range n).map z
theorem j_F (n:Nat) (z:Nat->Int):(o_j n z).length=n:=by simp [o_j]
theorem o_k (n:Nat) (z:Nat->Int) (j:Nat) (h:j < n):(o_j n z)[j]?=some (z j):=by simp [o_j,h]
theorem RowN.wf {k:IntKind} {W:World} {p:Option Addr} {n c:Nat} {z:Nat->Int} (h:RowN k W p n c z):∀ y,y∈o_j n z->(Lit.int k y).wf=true:=by
 intro y E;obtain ⟨i,A,rfl⟩:=mem_map.1 E;exact h.1.2.2.1 i (mem_range.1 A)
theorem RowN.nums {k:IntKind} {W:World} {p:Option Addr} {n c:Nat} {z:Nat->Int} (h:RowN k W p n c z):Nums k W (.slice p n c) (o_j n z):=by
 cases p with
 | none=>
  obtain ⟨rfl,rfl⟩:=h.2 rfl;exact .inl ⟨rfl,rfl⟩
 | some ad=>
  refine .inr ⟨ad,c,by rw [j_F],fun j u H=>?_⟩;unfold a_N at H;rw [getElem?_map] at H;obtain ⟨x,E,rfl⟩:=Option.map_eq_some_iff.1 H
  have I:j < n:=by
   rcases Nat.lt_or_ge j n with h|h
   ·exact h
   ·rw [getElem?_eq_none (by rw [j_F];exact h)] at E;cases E
  rw [o_k n z j I] at E;cases E;obtain ⟨b,o,e,_,A⟩:=h.1.2.2.2 (by omega);cases e;rw [a_r];exact A j I
/-- A slice of the call's own holds these numbers. -/
def OwnK (k:IntKind) (e:TypeId) (W:World) (B:Nat) (v:Value) (l:List Int):Prop:=W.ownsRow B e 1 v l.length (a_N k l)
theorem OwnK.nums {k:IntKind} {e:TypeId} {W:World} {B:Nat} {v:Value} {l:List Int} (h:OwnK k e W B v l):Nums k W v l:=by
 rcases h.2 with ⟨E,H⟩|⟨g,A,I,rfl,_⟩
 ·exact .inl ⟨E,by simpa using H⟩
 ·exact .inr ⟨⟨g,0,none⟩,A,rfl,ownsRow.cells h rfl⟩
theorem OwnK.low {k:IntKind} {e:TypeId} {W:World} {B H:Nat} {v:Value} {l:List Int} (h:OwnK k e W B v l) (M:H<=B):OwnK k e W H v l:=by
 refine ⟨h.1,?_⟩;rcases h.2 with h|⟨g,A,E,J,L,I⟩
 ·exact .inl h
 ·exact .inr ⟨g,A,E,J,Nat.le_trans M L,I⟩
theorem OwnK.block {k:IntKind} {e:TypeId} {W:World} {B:Nat} {v:Value} {l:List Int} (h:OwnK k e W B v l):∀ j,v.ownBlock=some j->B<=j:=by
 intro j A;rcases h.2 with ⟨rfl,_⟩|⟨g,E,I,rfl,H,_⟩
 ·cases A
 ·cases A;exact H
theorem OwnK.nil (k:IntKind) (e:TypeId) (W:World) (B:Nat):OwnK k e W B (.slice none 0 0) []:=⟨by simp [a_N],.inl ⟨rfl,rfl⟩⟩
/-- Where it is not empty, it lies in a block of its own. -/
theorem OwnK.at {k:IntKind} {e:TypeId} {W:World} {B:Nat} {v:Value} {l:List Int} (h:OwnK k e W B v l) (J:0 < l.length):∃ g c,v = .slice (some ⟨g,0,none⟩) l.length c/\B<=g:=by
 rcases h.2 with ⟨_,I⟩|⟨g,A,H,rfl,E,_⟩
 ·omega
 ·exact ⟨g,A,rfl,E⟩
/-- A cell of it is read, and stored into. -/
theorem OwnK.cell {k:IntKind} {e:TypeId} {W:World} {B g n c:Nat} {l:List Int} (h:OwnK k e W B (.slice (some ⟨g,0,none⟩) n c) l) (A:l.length=n) (j:Nat) (E:j < n):W.cell? ⟨g,j,none⟩=some (.int k (l.getD j 0))/\W.frozen? ⟨g,j,none⟩=false:=by
 subst A;exact ⟨by rw [ownsRow.cellAt h j (by omega),g_6 k l j E],ownsRow.frozenAt h j⟩
theorem OwnK.store {k:IntKind} {e:TypeId} {W:World} {B g n c:Nat} {l:List Int} (h:OwnK k e W B (.slice (some ⟨g,0,none⟩) n c) l) (A:l.length=n) (j:Nat) (x:Int):OwnK k e (W.setCell ⟨g,j,none⟩ (.int k x)) B (.slice (some ⟨g,0,none⟩) n c) (l.set j x):=by
 subst A;have:=(ownsRow.stored h j (.int k x)).1;unfold OwnK;rw [<- o_i,length_set];exact this
/-- The facts of a type of slices of integers. -/
structure NumT (P:Program) (t e:TypeId) (k:IntKind) (b:Nat):Prop where
 ht:P.underlying t=some (.slice e)
 hi:(P.info? e).map (fun i=>(i.zero,i.size,i.bytes))=some (some (.int k 0),1,b)
theorem d_r {P:Program} {t e:TypeId} {k:IntKind} {b:Nat} (T:NumT P t e k b):∃ A,P.info? e=some A/\A.zero=some (.int k 0)/\A.size=1/\A.bytes=b:=by
 have:=T.hi;cases h:P.info? e with
 | none=>rw [h] at this;cases this
 | some i=>
  rw [h] at this;simp only [Option.map_some,Option.some.injEq,Prod.mk.injEq] at this;exact ⟨i,rfl,this.1,this.2.1,this.2.2⟩
/-- append of numbers, whatever they are, behind numbers of the call's own. -/
theorem a_x {P:Program} {t e:TypeId} {k:IntKind} {b:Nat} (T:NumT P t e k b) (Z:b<=8) {ops:Array Oper} {rest:List Oper} {o:Oper} {a:Act} {Q:Exit->Act->World->Prop} {w:World} (H:o.guard=none) (s x:Operand)
  (ho:o.op = .call { callee:=.builtin .append,args:=#[s,x],argTypes:=#[t,t] }) (B:Nat) (E:Value) (L:List Int) (hs:a.eval s=E) (A:OwnK k e w B E L)
  (v:Value) (l:List Int) (hx:a.eval x=v) (hb:Nums k w v l) (I:L.length+l.length<=1073741824) (hB:B<=w.heap.size) (w0:World) (J:Below B w0 w)
  (h:∀ O M,Hid (OwnK k e M B O (L++l))->Below B w0 M->wpList P ops Q rest (a.put o.dst O) M):wpList P ops Q (o :: rest) a w:=by
 obtain ⟨i0,hi,aa,R,V⟩:=d_r T;rcases hb with ⟨rfl,rfl⟩|⟨ad,c,rfl,hc⟩
 ·refine wpList_append_own_none H s x t ho B e i0 1 T.ht hi E L.length _ hs A hx ?_;exact h E w (show OwnK _ _ _ _ _ _ by rw [append_nil];exact A) J
 ·have hm:=Nat.mul_le_mul I Z;refine wpList_append_own _ H s x t ho B e i0 (.int k 0) 1 b T.ht hi aa R V rfl (by decide) E L.length _ hs A ad l.length c (a_N k l) hx (by simp [a_N]) hc (d_L k l) (by unfold maxLen;omega) (by omega) hB ?_;intro O M h1 h2 h3;refine h O M ?_ (Below.grown J h2 hB A.block);show OwnK _ _ _ _ _ _;unfold OwnK a_N at *;simpa using h1
/-- make: as many noughts. -/
theorem a_F {P:Program} {t e:TypeId} {k:IntKind} {b:Nat} (T:NumT P t e k b) (J:b<=8) (w:World) {ops:Array Oper} {rest:List Oper} {o:Oper} {a:Act} {Q:Exit->Act->World->Prop}
  (hg:o.guard=none) (l c:Operand) (O:o.op=Op.makeSlice t l c) (kl Z:IntKind) (L C:Int) (n:Nat) (hl:a.eval l = .int kl L) (hc:a.eval c = .int Z C) (hL:L=(n:Int)) (hC:C=(n:Int)) (hn:n<=1073741824)
  (B:Nat) (w0:World) (hB:B<=w.heap.size) (M:Below B w0 w)
  (hK:∀ A,Hid (OwnK k e A w.heap.size (.slice (some ⟨w.heap.size,0,none⟩) n n) (replicate n 0))->Bw w A->Below B w0 A->wpList P ops Q rest (a.put o.dst (.slice (some ⟨w.heap.size,0,none⟩) n n)) A):
  wpList P ops Q (o :: rest) a w:=by
 obtain ⟨i0,hi,R,H,I⟩:=d_r T;have hm:=Nat.mul_le_mul J hn;refine wpList_make_full w hg l c t O w.heap.size e i0 (.int k 0) 1 T.ht hi R H kl Z L C n hl hc hL hC (by rw [I];omega) (by unfold maxLen;omega) (Nat.le_refl _) ?_;intro A V h2;have E:Bw w A:=Below.grown (Below.refl _ _) h2 (Nat.le_refl _) (fun j hj=>by cases hj);refine hK A ?_ E (M.trans (E.mono hB));show OwnK _ _ _ _ _ _;unfold OwnK a_N;rw [length_replicate,map_replicate]
 have e1:(madeCells (Value.int k 0).cells (n*1)).toList=replicate n (Value.int k 0):=by
  rw [Nat.mul_one];exact toList_madeCells_one _ _
 rw [e1] at V;exact V
theorem o_l {P:Program} {t e:TypeId} {k:IntKind} {b:Nat} (T:NumT P t e k b) (L:b<=8) (n:Nat) (Z:n<=1073741824) (O M:IntKind) (W:World):(Instr.makeSlice t (.int O (n:Int)) (.int M (n:Int))).run P W = .ok (.slice (some ⟨W.heap.size,0,none⟩) n n) (W.alloc (.cells (a_N k (replicate n 0)).toArray e)):=by
 obtain ⟨A,V,I,H,J⟩:=d_r T;have hm:=Nat.mul_le_mul L Z
 have E:(A.bytes:Int)*(n:Int)<=281474976710656:=by
  have h:((A.bytes*n:Nat):Int)<=281474976710656:=by rw [J];omega
  rwa [Int.natCast_mul] at h
 have R:=run_make (P:=P) W t e A (.int k 0) T.ht V I O M n n (by omega) (Int.le_refl _) E (by omega);simp only [Int.toNat_natCast] at R;rw [R]
 have e1:(madeCells (Value.int k 0).cells (n*A.size))=(a_N k (replicate n 0)).toArray:=by
  rw [H,Nat.mul_one];apply Array.toList_inj.1;have:=toList_madeCells_one (Value.int k 0) n;rw [show (Value.int k 0).cells=#[Value.int k 0] from rfl,this];unfold a_N;rw [map_replicate]
 rw [e1]
/-- A literal's row. -/
theorem a_8 {k:IntKind} {e:TypeId} (W:World) (l:List Int) (n:Nat) (A:Nat×Nat) (h:l.length=n):Nums k (W.alloc (.cells (a_N k l).toArray e A)) (.slice (some ⟨W.heap.size,0,none⟩) n n) l:=.inr ⟨_,n,by rw [h],by
 intro j u E;rw [a_r,Nat.zero_add];unfold cell? alloc;simp only [Array.getElem?_push_size];simpa using E⟩
theorem b_b {k:IntKind} {e:TypeId} (W:World) (l:List Int) (n:Nat) (h:l.length=n) (A:n<=1073741824):OwnK k e (W.alloc (.cells (a_N k l).toArray e)) W.heap.size (.slice (some ⟨W.heap.size,0,none⟩) n n) l:=by
 subst h;refine ⟨by simp [a_N],.inr ⟨W.heap.size,l.length,(a_N k l).toArray,rfl,Nat.le_refl _,?_,Nat.le_refl _,by unfold maxLen;omega,by simp [a_N],by rw [Nat.mul_one,take_of_length_le (by simp [a_N])]⟩⟩;show (W.heap.push _)[W.heap.size]?=_;simp
theorem OwnK.up {k:IntKind} {e:TypeId} {W W':World} {B:Nat} {v:Value} {l:List Int} (h:OwnK k e W B v l) (hb:Bw W W'):OwnK k e W' B v l:=by
 refine ⟨h.1,?_⟩;rcases h.2 with h|⟨g,E,A,I,L,H,M⟩
 ·exact .inl h
 ·refine .inr ⟨g,E,A,I,L,?_,M⟩
  have J:g < W.heap.size:=by
   rcases Nat.lt_or_ge g W.heap.size with h|h
   ·exact h
   ·rw [Array.getElem?_eq_none h] at H;cases H
  rw [hb.block g J];exact H
structure Stay (g:Nat) (W W':World):Prop where
 size:W.heap.size<=W'.heap.size
 block:∀ b,b≠g->b < W.heap.size->W'.heap[b]?=W.heap[b]?
theorem Stay.refl (g:Nat) (W:World):Stay g W W:=⟨Nat.le_refl _,fun _ _ _=>rfl⟩
theorem Stay.trans {g:Nat} {a b c:World} (h:Stay g a b) (E:Stay g b c):Stay g a c:=
 ⟨Nat.le_trans h.size E.size,fun k A H=>(E.block k A (Nat.lt_of_lt_of_le H h.size)).trans (h.block k A H)⟩
theorem Stay.of {g:Nat} {a b:World} (h:Bw a b):Stay g a b:=⟨h.size,fun k _ A=>h.block k A⟩
theorem Stay.up {g:Nat} {a b c:World} (h:Stay g a b) (A:Bw b c):Stay g a c:=h.trans (Stay.of A)
theorem Stay.set {g:Nat} {a b:World} (h:Stay g a b) (o:Nat) (x:Value):Stay g a (b.setCell ⟨g,o,none⟩ x):=
 h.trans ⟨by simp,fun k A _=>Below.heap_setCell _ _ _ _ A⟩
theorem Stay.cell {g:Nat} {W W':World} {a:Addr} {v:Value} (h:Stay g W W') (A:W.cell? a=some v) (E:a.block≠g):W'.cell? a=some v:=by
 have hb:=c_T A;unfold cell? at A ⊢;rw [h.block _ E hb];exact A
theorem Stay.frozen {g:Nat} {W W':World} {b o:Nat} (h:Stay g W W') (hb:b < W.heap.size) (A:b≠g):W'.frozen? ⟨b,o,none⟩=W.frozen? ⟨b,o,none⟩:=by
 unfold frozen?;rw [h.block _ A hb]
/-- A slice whose cells lie in blocks but g. -/
def Off (g:Nat) (v:Value):Prop:=∀ ad n c,v = .slice (some ad) n c->ad.block≠g
theorem Nums.stay {k:IntKind} {g:Nat} {W W':World} {v:Value} {l:List Int} (h:Nums k W v l) (E:Stay g W W') (I:Off g v):Nums k W' v l:=by
 rcases h with h|⟨A,c,rfl,h⟩
 ·exact .inl h
 ·refine .inr ⟨A,c,rfl,fun j u H=>E.cell (h j u H) ?_⟩;have:=I A _ _ rfl;unfold Addr.add
  split <;> exact this
/-- What was there before the block g was made. -/
theorem Nums.off {k:IntKind} {W:World} {v:Value} {l:List Int} (h:Nums k W v l) (I:l≠[]) {g:Nat} (J:W.heap.size<=g):Off g v:=by
 intro E n c e;rcases h with ⟨rfl,_⟩|⟨H,L,rfl,h⟩
 ·cases e
 ·cases e;obtain ⟨x,A,rfl⟩:∃ x A,l=x :: A:=by cases l with|nil=>exact absurd rfl I|cons x A=>exact ⟨x,A,rfl⟩
  have:=h 0 (.int k x) rfl;have:=c_T this;intro e;rw [show (E.add 0)=E by unfold Addr.add;simp] at this;omega
theorem OwnK.off {k:IntKind} {e:TypeId} {W:World} {B g:Nat} {v:Value} {l:List Int} (h:OwnK k e W B v l) (J:g < B):Off g v:=by
 intro M n c A;rcases h.2 with ⟨E,_⟩|⟨q,I,H,E,L,_⟩
 ·rw [E] at A;cases A
 ·rw [E] at A;cases A;show q≠g;omega
theorem OwnK.stay {k:IntKind} {e:TypeId} {W W':World} {B g:Nat} {v:Value} {l:List Int} (h:OwnK k e W B v l) (L:Stay g W W') (J:Off g v):OwnK k e W' B v l:=by
 refine ⟨h.1,?_⟩;rcases h.2 with h|⟨q,E,A,I,O,H,R⟩
 ·exact .inl h
 ·refine .inr ⟨q,E,A,I,O,?_,R⟩
  have M:q < W.heap.size:=by
   rcases Nat.lt_or_ge q W.heap.size with h|h
   ·exact h
   ·rw [Array.getElem?_eq_none h] at H;cases H
  rw [L.block q (J _ _ _ I) M];exact H
theorem OwnK.size {k:IntKind} {e:TypeId} {W:World} {B g n c:Nat} {l:List Int} (h:OwnK k e W B (.slice (some ⟨g,0,none⟩) n c) l):g < W.heap.size:=by
 rcases h.2 with ⟨A,_⟩|⟨q,I,H,A,J,E,L⟩
 ·cases A
 ·cases A;rcases Nat.lt_or_ge g W.heap.size with h|h
  ·exact h
  ·rw [Array.getElem?_eq_none h] at E;cases E
def a_f:List Nat->Nat
 | []=>1
 | d :: ds=>d*a_f ds
theorem a_M:∀ a b:List Nat,a_f (a++b)=a_f a*a_f b
 | [],b=>by simp [a_f]
 | d :: a,b=>by simp [a_f,a_M a b,Nat.mul_assoc]
theorem a_X:∀ {d:List Nat},(∀ x,x∈d->1<=x)->1<=a_f d
 | [],_=>Nat.le_refl _
 | x :: d,h=>by
  have A:=h x mem_cons_self;have E:=a_X (d:=d) fun y H=>h y (mem_cons_of_mem _ H);exact Nat.mul_pos A E
/-- A shape's numbers. -/
abbrev goodN (d:List Nat):Prop:=d.length<=4/\(∀ x,x∈d->1<=x)/\a_f d<=4096
theorem d_s:∀ {d:List Nat},(∀ x,x∈d->1<=x)->∀ x,x∈d->x<=a_f d
 | y :: d,h,x,E=>by
  have hp:=a_X (d:=d) fun y A=>h y (mem_cons_of_mem _ A);have A:=h y mem_cons_self;rcases mem_cons.1 E with rfl|E
  ·exact Nat.le_mul_of_pos_right _ hp
  ·exact Nat.le_trans (d_s (fun y A=>h y (mem_cons_of_mem _ A)) x E) (Nat.le_mul_of_pos_left _ A)
theorem goodN.le {d:List Nat} (h:goodN d):∀ x,x∈d->x<=4096:=fun x A=>Nat.le_trans (d_s h.2.1 x A) h.2.2
theorem c_1 {d:List Nat} (h:∀ x,x∈d->1<=x) (k:Nat):a_f (d.take k)<=a_f d:=by
 have e:a_f d=a_f (d.take k)*a_f (d.drop k):=by rw [<- a_M,take_append_drop]
 have:=a_X (d:=d.drop k) fun x A=>h x (mem_of_mem_drop A);rw [e];exact Nat.le_mul_of_pos_right _ this
theorem e_B {d:List Nat} (h:∀ x,x∈d->1<=x) (k:Nat):a_f (d.drop k)<=a_f d:=by
 have e:a_f d=a_f (d.take k)*a_f (d.drop k):=by rw [<- a_M,take_append_drop]
 have:=a_X (d:=d.take k) fun x A=>h x (mem_of_mem_take A);rw [e];exact Nat.le_mul_of_pos_left _ this
theorem b_p (d:List Nat) (k:Nat) (h:k < d.length):a_f (d.take (k+1))=a_f (d.take k)*d[k]:=by
 rw [take_succ_eq_append_getElem h,a_M];simp [a_f]
theorem c_o (d:List Nat) (k:Nat) (h:k < d.length):a_f (d.drop k)=d[k]*a_f (d.drop (k+1)):=by
 rw [drop_eq_getElem_cons h];rfl
/-- How far it is from one to the next along each. -/
def a_C:List Nat->List Nat
 | []=>[]
 | _ :: ds=>a_f ds :: a_C ds
theorem c_a:∀ d,(a_C d).length=d.length
 | []=>rfl
 | _ :: ds=>by simp [a_C,c_a ds]
theorem d_t:∀ (d:List Nat) (k:Nat),k < d.length->(a_C d)[k]?=some (a_f (d.drop (k+1)))
 | [],k,h=>by simp at h
 | _ :: ds,0,h=>by simp [a_C]
 | _ :: ds,k+1,h=>by
  simp only [a_C,getElem?_cons_succ,drop_succ_cons];exact d_t ds k (by simpa using h)
/-- The number of a place, and back. -/
def c_b:List Nat->List Nat->Nat
 | _ :: ds,p :: ps=>p*a_f ds+c_b ds ps
 | _,_=>0
def a_G:List Nat->Nat->List Nat
 | [],_=>[]
 | _ :: ds,at_=>at_ / a_f ds :: a_G ds (at_ % a_f ds)
theorem b_M:∀ d a,(a_G d a).length=d.length
 | [],_=>rfl
 | _ :: ds,a=>by simp [a_G,b_M ds]
theorem g_B:∀ (d:List Nat) (a:Nat),(∀ x,x∈d->1<=x)->a < a_f d->c_b d (a_G d a)=a
 | [],a,_,h=>by simp [a_f] at h;simp [c_b,h]
 | x :: ds,a,h,ha=>by
  have hp:=a_X (d:=ds) fun y A=>h y (mem_cons_of_mem _ A);rw [a_G,c_b,g_B ds _ (fun y A=>h y (mem_cons_of_mem _ A)) (mod_lt _ hp),Nat.mul_comm];exact div_add_mod a (a_f ds)
/-- Each number of a place is below its side. -/
def b_F:List Nat->List Nat->Prop
 | d :: ds,p :: ps=>p < d/\b_F ds ps
 | [],[]=>True
 | _,_=>False
theorem d_u:∀ (d:List Nat) (a:Nat),(∀ x,x∈d->1<=x)->a < a_f d->b_F d (a_G d a)
 | [],_,_,_=>trivial
 | x :: ds,a,h,ha=>by
  have hp:=a_X (d:=ds) fun y A=>h y (mem_cons_of_mem _ A);refine ⟨Nat.div_lt_of_lt_mul (by rw [Nat.mul_comm];exact ha),d_u ds _ (fun y A=>h y (mem_cons_of_mem _ A)) (mod_lt _ hp)⟩
theorem d_M:∀ {d p:List Nat},b_F d p->p.length=d.length
 | [],[],_=>rfl
 | _ :: ds,_ :: ps,h=>by simp [d_M h.2]
 | [],_ :: _,h=>h.elim
 | _ :: _,[],h=>h.elim
theorem d_N:∀ {d p:List Nat},b_F d p->∀ (k:Nat) (x y:Nat),d[k]?=some x->p[k]?=some y->y < x
 | _ :: _,_ :: _,h,0,x,y,hx,hy=>by
  simp at hx hy;subst hx hy;exact h.1
 | _ :: ds,_ :: ps,h,k+1,x,y,hx,hy=>d_N h.2 k x y (by simpa using hx) (by simpa using hy)
 | [],[],_,k,x,y,hx,_=>by simp at hx
 | [],_ :: _,h,_,_,_,_,_=>h.elim
 | _ :: _,[],h,_,_,_,_,_=>h.elim
theorem f_I:∀ {d p:List Nat},p.length=d.length->(∀ (k:Nat) (x y:Nat),d[k]?=some x->p[k]?=some y->y < x)->b_F d p
 | [],[],_,_=>trivial
 | d :: ds,p :: ps,hl,h=>⟨h 0 d p rfl rfl,f_I (by simpa using hl) fun k x y A E=>h (k+1) x y (by simpa using A) (by simpa using E)⟩
 | [],_ :: _,hl,_=>by simp at hl
 | _ :: _,[],hl,_=>by simp at hl
theorem i_T:∀ {d p:List Nat},b_F d p->c_b d p < a_f d
 | [],[],_=>by simp [c_b,a_f]
 | d :: ds,p :: ps,h=>by
  have E:=i_T h.2;have A:(p+1)*a_f ds<=d*a_f ds:=mul_le_mul_right _ h.1;rw [Nat.add_mul] at A;simp only [c_b,a_f];omega
 | [],_ :: _,h=>h.elim
 | _ :: _,[],h=>h.elim
/-- Place by place: what a walk from the first side on reckons. -/
def h_Q:Nat->List Nat->List Nat->Nat
 | acc,d :: ds,p :: ps=>h_Q (acc*d+p) ds ps
 | acc,_,_=>acc
theorem h_R:∀ (A:Nat) (d p:List Nat),p.length=d.length->h_Q A d p=A*a_f d+c_b d p
 | A,[],[],_=>by simp [h_Q,a_f,c_b]
 | A,d :: ds,p :: ps,h=>by
  rw [h_Q,h_R _ ds ps (by simpa using h),a_f,c_b,Nat.add_mul,Nat.mul_assoc];omega
 | A,[],_ :: _,h=>by simp at h
 | A,_ :: _,[],h=>by simp at h
/-- The same, of the first k sides. -/
def e_C (d p:List Nat):Nat->Nat
 | 0=>0
 | k+1=>e_C d p k*d.getD k 0+p.getD k 0
theorem j_G (d p:List Nat) (h:p.length=d.length):∀ k,k<=d.length->h_Q (e_C d p k) (d.drop k) (p.drop k)=h_Q 0 d p
 | 0,_=>by simp [e_C]
 | k+1,hk=>by
  rw [<- j_G d p h k (by omega),drop_eq_getElem_cons (show k < d.length by omega),drop_eq_getElem_cons (show k < p.length by omega),h_Q,e_C];simp [getD_eq_getElem?_getD,getElem?_eq_getElem (show k < d.length by omega),getElem?_eq_getElem (show k < p.length by omega)]
theorem g_C (d p:List Nat) (h:p.length=d.length):e_C d p d.length=c_b d p:=by
 have:=j_G d p h d.length (Nat.le_refl _);rw [drop_length,h_Q] at this
 ·rw [this,h_R 0 d p h];simp
 ·intro _ _ _ _ A _;cases A
theorem j_H {d p:List Nat} (h:b_F d p) (E:∀ x,x∈d->1<=x):∀ k,k<=d.length->e_C d p k+1<=a_f (d.take k)
 | 0,_=>by simp [e_C,a_f]
 | k+1,hk=>by
  have H:=j_H h E k (by omega);have I:=d_M h;have A:=d_N h k d[k] p[k] (getElem?_eq_getElem (by omega)) (getElem?_eq_getElem (by omega));rw [e_C,b_p d k (by omega)];simp only [getD_eq_getElem?_getD,getElem?_eq_getElem (show k < d.length by omega),getElem?_eq_getElem (show k < p.length by omega),Option.getD_some];have:=mul_le_mul_right d[k] H;rw [Nat.add_mul] at this;omega
/-- A place's k-th number, by the sides behind it. -/
theorem d_O:∀ (d:List Nat) (a k:Nat),(∀ x,x∈d->1<=x)->a < a_f d->(H:k < d.length)->(a_G d a)[k]?=some (a / a_f (d.drop (k+1)) % d[k])
 | x :: ds,a,0,h,ha,H=>by
  simp only [a_G,getElem?_cons_zero,drop_succ_cons,drop_zero,getElem_cons_zero];rw [mod_eq_of_lt (Nat.div_lt_of_lt_mul (by rw [Nat.mul_comm];exact ha))]
 | x :: ds,a,k+1,h,ha,H=>by
  have E:∀ y,y∈ds->1<=y:=fun y I=>h y (mem_cons_of_mem _ I);have hp:=a_X E;have A:k < ds.length:=by simpa using H
  simp only [a_G,getElem?_cons_succ,drop_succ_cons,getElem_cons_succ];rw [d_O ds (a % a_f ds) k E (mod_lt _ hp) A]
  congr 1
  have e:a_f ds=a_f (ds.take k)*(ds[k]*a_f (ds.drop (k+1))):=by rw [<- c_o ds k A,<- a_M,take_append_drop]
  generalize J:a_f (ds.drop (k+1))=P at *;have M:1<=P:=by rw [<- J];exact a_X fun y I=>E y (mem_of_mem_drop I)
  have L:1<=ds[k]:=E _ (getElem_mem A);generalize ds[k]=K at *;generalize a_f (ds.take k)=T at *;rw [e,show T*(K*P)=P*(K*T) by rw [Nat.mul_comm T,Nat.mul_comm K P,Nat.mul_assoc],mod_mul_right_div_self,mod_mul_right_mod]
/-- What is left of a number behind the sides from k on. -/
theorem j_I (d:List Nat) (a k:Nat) (A:k < d.length):a / a_f (d.drop (k+1)) / d[k]=a / a_f (d.drop k):=by
 rw [Nat.div_div_eq_div_mul,c_o d k A,Nat.mul_comm]
/-- The sum of products, of the first k. -/
def h_L (p s:List Nat):Nat->Nat
 | 0=>0
 | k+1=>h_L p s k+p.getD k 0*s.getD k 0
theorem h_S (E A:Nat) (p s:List Nat):∀ k,h_L (E :: p) (A :: s) (k+1)=E*A+h_L p s k
 | 0=>by simp [h_L]
 | k+1=>by
  rw [h_L,h_S E A p s k,h_L];simp only [getD_cons_succ];omega
theorem d_v:∀ (d p:List Nat),p.length=d.length->h_L p (a_C d) d.length=c_b d p
 | [],[],_=>rfl
 | d :: ds,p :: ps,h=>by
  rw [a_C,length_cons,h_S,d_v ds ps (by simpa using h),c_b]
 | [],_ :: _,h=>by simp at h
 | _ :: _,[],h=>by simp at h
/-- The i-th side from the last on (from 1), 1 where there is none. -/
def a_u (l:List Nat) (i:Nat):Nat:=if i<=l.length then l.getD (l.length - i) 1 else 1
theorem c_p {l:List Nat} (h:∀ x,x∈l->1<=x) (i:Nat):1<=a_u l i:=by
 unfold a_u
 split
 ·rw [getD_eq_getElem?_getD];cases A:l[l.length - i]? with
  | none=>exact Nat.le_refl _
  | some x=>exact h x (mem_of_getElem? A)
 ·exact Nat.le_refl _
theorem e_D (l:List Nat) (j:Nat) (h:j < l.length):l[j]?=some (a_u l (l.length - j)):=by
 unfold a_u;rw [if_pos (by omega),show l.length - (l.length - j)=j by omega,getD_eq_getElem?_getD,getElem?_eq_getElem h];rfl
theorem g_7 {a b:List Nat} (E:a.length=b.length) (h:∀ i,1<=i->i<=a.length->a_u a i=a_u b i):a=b:=by
 refine ext_getElem? fun j=>?_;by_cases A:j < a.length
 ·rw [e_D a j A,e_D b j (by omega),h (a.length - j) (by omega) (by omega),E]
 ·rw [getElem?_eq_none (by omega),getElem?_eq_none (by omega)]
/-- The list of n sides. -/
def e_e (n:Nat) (f:Nat->Nat):List Nat:=(range n).map fun j=>f (n - j)
theorem f_J (n:Nat) (f:Nat->Nat):(e_e n f).length=n:=by simp [e_e]
theorem h_T (n:Nat) (f:Nat->Nat) (i:Nat) (A:1<=i) (h:i<=n):a_u (e_e n f) i=f i:=by
 unfold a_u;rw [f_J,if_pos h,getD_eq_getElem?_getD,e_e,getElem?_map,getElem?_range (by omega)];simp only [Option.map_some,Option.getD_some];rw [show n - (n - i)=i by omega]
theorem c_c (l:List Nat) (i:Nat) (h:l.length < i):a_u l i=1:=by
 unfold a_u;rw [if_neg (by omega)]
def joinN (a b:List Nat):List Nat:=e_e (max a.length b.length) fun i=>max (a_u a i) (a_u b i)
abbrev c_0 (x y:Nat):Prop:=x=y∨x=1∨y=1
def b_R (a b:List Nat):Prop:=∀ i,1<=i->i<=max a.length b.length->c_0 (a_u a i) (a_u b i)
theorem a_4 (a b:List Nat):(joinN a b).length=max a.length b.length:=f_J _ _
theorem b_r (a b:List Nat) (i:Nat) (h:1<=i):a_u (joinN a b) i=max (a_u a i) (a_u b i):=by
 by_cases A:i<=max a.length b.length
 ·exact h_T _ _ i h A
 ·rw [c_c _ i (by rw [a_4];omega),c_c a i (by omega),c_c b i (by omega)];rfl
theorem d_P (a b:List Nat):joinN a b=joinN b a:=
 g_7 (by rw [a_4,a_4,Nat.max_comm]) fun i A E=>by rw [b_r _ _ _ A,b_r _ _ _ A,Nat.max_comm]
theorem r_6 {x y:Nat}:c_0 x y↔c_0 y x:=by unfold c_0;omega
theorem e_X (a b:List Nat):b_R a b↔b_R b a:=by
 unfold b_R;rw [Nat.max_comm b.length];exact ⟨fun h i A E=>r_6.1 (h i A E),fun h i A E=>r_6.1 (h i A E)⟩
theorem f_K {a b:List Nat} (H:∀ x,x∈a->1<=x) (hb:∀ x,x∈b->1<=x) (h:b_R a b):b_R (joinN a b) a:=by
 intro i A E;rw [b_r _ _ _ A];rw [a_4] at E;have:=h i A (by omega);have I:=c_p H i;have J:=c_p hb i;unfold c_0 at *;omega
theorem f_L (a b:List Nat):joinN (joinN a b) a=joinN a b:=
 g_7 (by rw [a_4,a_4];omega) fun i A E=>by
  rw [b_r _ _ _ A,b_r _ _ _ A];omega
/-- A shape spread to another's length: ones ahead. -/
def o_c (n:Nat) (l:List Nat):List Nat:=replicate (n - l.length) 1++l
theorem d_Q (n:Nat) (l:List Nat) (h:l.length<=n):(o_c n l).length=n:=by simp [o_c];omega
theorem l_I (n:Nat) (l:List Nat) (h:l.length<=n) (i:Nat) (E:1<=i):a_u (o_c n l) i=a_u l i:=by
 by_cases A:i<=l.length
 ·unfold a_u;rw [d_Q n l h,if_pos A,if_pos (by omega),o_c,getD_eq_getElem?_getD,getElem?_append_right (by simp;omega),getD_eq_getElem?_getD]
  congr 2
  simp;omega
 ·rw [c_c l i (by omega)];unfold a_u;rw [d_Q n l h]
  split
  ·rw [o_c,getD_eq_getElem?_getD,getElem?_append_left (by simp;omega)];rw [getElem?_replicate]
   split <;> rfl
  ·rfl
theorem k_R (m:Nat):a_f (replicate m 1)=1:=by
 induction m with
 | zero=>rfl
 | succ m ih=>rw [replicate_succ,a_f,ih]
theorem l_J (n:Nat) (l:List Nat):a_f (o_c n l)=a_f l:=by rw [o_c,a_M,k_R,Nat.one_mul]
/-- What is spread where: of each side that is 1 its only number. -/
def f_s:List Nat->List Nat->List Nat
 | d :: ds,p :: ps=>(if d=1 then 0 else p) :: f_s ds ps
 | _,_=>[]
theorem h_U:∀ d p:List Nat,p.length=d.length->(f_s d p).length=d.length
 | [],[],_=>rfl
 | d :: ds,p :: ps,h=>by simp [f_s,h_U ds ps (by simpa using h)]
 | [],_ :: _,h=>by simp at h
 | _ :: _,[],h=>by simp at h
theorem f_M:∀ (d p:List Nat) (k:Nat) (x y:Nat),d[k]?=some x->p[k]?=some y->(f_s d p)[k]?=some (if x=1 then 0 else y)
 | d :: ds,p :: ps,0,x,y,hx,hy=>by
  simp at hx hy;subst hx hy;rfl
 | d :: ds,p :: ps,k+1,x,y,hx,hy=>by
  simp only [f_s,getElem?_cons_succ];exact f_M ds ps k x y (by simpa using hx) (by simpa using hy)
 | [],_,k,x,y,hx,_=>by simp at hx
 | _ :: _,[],k,x,y,_,hy=>by simp at hy
/-- The place of the number that is spread to the place a of big. -/
def c_d (d big:List Nat) (a:Nat):Nat:=c_b d (f_s d ((a_G big a).drop (big.length - d.length)))
/-- The same, side by side. -/
def frN:List Nat->List Nat->Nat->Nat
 | d :: ds,b :: bs,a=>(if d=1 then 0 else a / a_f bs)*a_f ds+frN ds bs (a % a_f bs)
 | _,_,_=>0
theorem p_T:∀ (d b:List Nat) (a:Nat),d.length=b.length->c_b d (f_s d (a_G b a))=frN d b a
 | [],[],_,_=>rfl
 | d :: ds,b :: bs,a,h=>by rw [a_G,f_s,c_b,p_T ds bs _ (by simpa using h),frN]
 | [],_ :: _,_,h=>by simp at h
 | _ :: _,[],_,h=>by simp at h
theorem h_V:∀ (m:Nat) (d p:List Nat),p.length=m+d.length->c_b (replicate m 1++d) (f_s (replicate m 1++d) p)=c_b d (f_s d (p.drop m))
 | 0,d,p,h=>by simp
 | m+1,d,[],h=>by simp at h;omega
 | m+1,d,p :: ps,h=>by
  rw [replicate_succ,cons_append,f_s,c_b,if_pos rfl,Nat.zero_mul,Nat.zero_add,h_V m d ps (by simp at h;omega),drop_succ_cons]
theorem o_m (d big:List Nat) (a:Nat) (h:d.length<=big.length):c_d d big a=frN (o_c big.length d) big a:=by
 rw [<- p_T _ _ _ (d_Q _ _ h),o_c,h_V _ d _ (by rw [b_M];omega)];rfl
/-- Each side of d is 1 or big's. -/
def j_J:List Nat->List Nat->Prop
 | d :: ds,b :: bs=>(d=1∨d=b)/\j_J ds bs
 | [],[]=>True
 | _,_=>False
theorem h_W:∀ {d b:List Nat},d.length=b.length->(∀ (k:Nat) (x y:Nat),d[k]?=some x->b[k]?=some y->x=1∨x=y)->j_J d b
 | [],[],_,_=>trivial
 | d :: ds,b :: bs,hl,h=>⟨h 0 d b rfl rfl,h_W (by simpa using hl) fun k x y A E=>h (k+1) x y (by simpa using A) (by simpa using E)⟩
 | [],_ :: _,hl,_=>by simp at hl
 | _ :: _,[],hl,_=>by simp at hl
theorem o_n {d big:List Nat} (L:∀ x,x∈d->1<=x) (hb:∀ x,x∈big->1<=x) (hf:b_R d big) (J:joinN d big=big):d.length<=big.length/\j_J (o_c big.length d) big:=by
 have A:d.length<=big.length:=by
  have:=congrArg List.length J;rw [a_4] at this;omega
 refine ⟨A,h_W (d_Q _ _ A) fun k x y I E=>?_⟩;have H:k < big.length:=(List.getElem?_eq_some_iff.1 E).1;rw [e_D _ k (by rw [d_Q _ _ A];exact H),d_Q _ _ A,l_I _ _ A _ (by omega)] at I;rw [e_D _ k H] at E;cases I;cases E;have M:=hf (big.length - k) (by omega) (by omega);have O:=congrArg (fun l=>a_u l (big.length - k)) J;simp only [b_r _ _ _ (show 1<=big.length - k by omega)] at O;have R:=c_p L (big.length - k);have V:=c_p hb (big.length - k);unfold c_0 at M;omega
theorem p_U:∀ {d b:List Nat},j_J d b->(∀ x,x∈b->1<=x)->∀ a,a < a_f b->frN d b a < a_f d
 | [],[],_,_,a,_=>by simp [frN,a_f]
 | d :: ds,b :: bs,h,hb,a,ha=>by
  have hp:=a_X (d:=bs) fun y A=>hb y (mem_cons_of_mem _ A);have I:=p_U h.2 (fun y A=>hb y (mem_cons_of_mem _ A)) (a % a_f bs) (mod_lt _ hp);have H:a / a_f bs < b:=Nat.div_lt_of_lt_mul (by rw [Nat.mul_comm];exact ha)
  have E:(if d=1 then 0 else a / a_f bs) < d:=by
   rcases h.1 with e|e
   ·rw [if_pos e];omega
   ·split <;> omega
  rw [frN,a_f];have:=mul_le_mul_right (a_f ds) (show (if d=1 then 0 else a / a_f bs)+1<=d from E);rw [Nat.add_mul] at this;omega
 | [],_ :: _,h,_,_,_=>h.elim
 | _ :: _,[],h,_,_,_=>h.elim
theorem f_x {d big:List Nat} (E:∀ x,x∈d->1<=x) (hb:∀ x,x∈big->1<=x) (hf:b_R d big) (H:joinN d big=big) (a:Nat) (I:a < a_f big):c_d d big a < a_f d:=by
 obtain ⟨J,A⟩:=o_n E hb hf H;rw [o_m d big a J,<- l_J big.length d];exact p_U A hb a I
def ntl (l:List Int):List Nat:=l.map Int.toNat
def itl (l:List Nat):List Int:=l.map fun (x:Nat)=>(x:Int)
theorem a_O (l:List Int):(ntl l).length=l.length:=by simp [ntl]
theorem a_p (l:List Nat):(itl l).length=l.length:=by simp [itl]
theorem a_n (l:List Nat):ntl (itl l)=l:=by
 unfold ntl itl;rw [map_map];exact (map_congr_left fun x _=>by simp).trans (map_id _)
theorem f_N {l:List Int} (h:∀ x,x∈ntl l->1<=x):itl (ntl l)=l:=by
 unfold ntl itl at *;rw [map_map];refine (map_congr_left fun x A=>?_).trans (map_id _);have:=h x.toNat (mem_map.2 ⟨x,A,rfl⟩)
 show ((x.toNat:Nat):Int)=x;omega
theorem a_t {α:Type} (l:List α) (k:Nat) (d:α) (h:k < l.length):l.getD k d=l[k]:=by
 rw [getD_eq_getElem?_getD,getElem?_eq_getElem h];rfl
theorem a_K (l:List Nat) (k:Nat):(itl l).getD k 0=((l.getD k 0:Nat):Int):=by
 rw [getD_eq_getElem?_getD,getD_eq_getElem?_getD,itl,getElem?_map];cases l[k]? <;> rfl
theorem c_2 (l:List Int) (k:Nat) (h:k < l.length):(ntl l).getD k 0=(l.getD k 0).toNat:=by
 rw [getD_eq_getElem?_getD,getD_eq_getElem?_getD,ntl,getElem?_map,getElem?_eq_getElem h];rfl
def c_E (d:List Nat):Nat:=if goodN d then a_f d else 0
theorem a_T {d:List Nat} (h:goodN d):c_E d=a_f d:=if_pos h
theorem e_E {d:List Nat} (h:¬ goodN d):c_E d=0:=if_neg h
theorem goodN.pos {d:List Nat} (h:goodN d):1<=a_f d:=a_X h.2.1
theorem f_O (d:List Nat):(0 < c_E d)↔goodN d:=by
 unfold c_E
 split
 ·rename_i h;have:=h.pos;exact ⟨fun _=>h,fun _=>by omega⟩
 ·rename_i h;exact ⟨fun A=>by omega,fun A=>absurd A h⟩
/-- The product of the first k, and that they are not below 1. -/
def pK (l:List Int) (k:Nat):Int:=((a_f ((ntl l).take k):Nat):Int)
def okK (l:List Int) (k:Nat):Prop:=∀ i,i < k->1<=l.getD i 0
theorem i_U (l:List Int):pK l 0=1:=rfl
theorem j_K (l:List Int):okK l 0:=fun i h=>absurd h (not_lt_zero _)
theorem f_P (l:List Int) (k:Nat) (A:k < l.length) (h:1<=l.getD k 0):pK l (k+1)=pK l k*l.getD k 0:=by
 unfold pK;rw [b_p _ k (by rw [a_O];exact A),Int.natCast_mul]
 congr 1
 rw [<- a_t (ntl l) k 0 (by rw [a_O];exact A),c_2 l k A];omega
theorem j_L {l:List Int} {k:Nat} (h:okK l k) (E:1<=l.getD k 0):okK l (k+1):=fun i A=>by
 rcases Nat.lt_succ_iff_lt_or_eq.1 A with H|rfl
 ·exact h i H
 ·exact E
theorem i_V {l:List Int} {k:Nat} (A:k < l.length):(l.getD k 0).toNat∈ntl l:=by
 rw [a_t l k 0 A];exact mem_map.2 ⟨_,getElem_mem A,rfl⟩
theorem l_K {l:List Int} {k:Nat} (A:k < l.length) (h:l.getD k 0 < 1):¬ goodN (ntl l):=fun E=>by
 have:=E.2.1 _ (i_V A);omega
theorem i_W {l:List Int} (A:goodN (ntl l)) (k:Nat):1<=pK l k/\pK l k<=4096:=by
 have I:=c_1 A.2.1 k;have J:=a_X (d:=(ntl l).take k) fun x E=>A.2.1 x (mem_of_mem_take E);have H:=A.2.2;unfold pK;omega
theorem i_X {l:List Int} (E:goodN (ntl l)) (k:Nat) (A:k < l.length):1<=l.getD k 0/\l.getD k 0<=4096:=by
 have H:=E.2.1 _ (i_V A);have I:=E.le _ (i_V A);omega
theorem h_X {l:List Int} {k:Nat} (E:k < l.length) (A:1<=l.getD k 0) (h:4096 < pK l k*l.getD k 0):¬ goodN (ntl l):=fun H=>by
 have:=i_W H (k+1);rw [f_P l k E A] at this;omega
theorem j_M {l:List Int} (J:l.length<=4) (A:okK l l.length) (h:pK l l.length<=4096):goodN (ntl l)/\pK l l.length=((a_f (ntl l):Nat):Int):=by
 have e:(ntl l).take l.length=ntl l:=take_of_length_le (by rw [a_O];exact Nat.le_refl _);unfold pK at *;rw [e] at h ⊢;refine ⟨⟨by rw [a_O];exact J,fun x H=>?_,by omega⟩,rfl⟩;obtain ⟨y,I,rfl⟩:=mem_map.1 H;obtain ⟨i,E,rfl⟩:=mem_iff_getElem.1 I;have:=A i E;rw [a_t l i 0 E] at this;omega
theorem j_N {l:List Int} (h:4 < l.length):¬ goodN (ntl l):=fun A=>by
 have:=A.1;rw [a_O] at this;omega
/-- The quotient that a bound is held against. -/
theorem r_7 (x y:Int) (A:1<=x) (H:x<=4096) (h:y<=4096 / x) (E:1<=y):x*y<=4096/\1<=x*y:=by
 have J:x*(4096 / x)<=4096:=Int.mul_ediv_self_le (by omega);have L:x*y<=x*(4096 / x):=Int.mul_le_mul_of_nonneg_left h (by omega);have I:1*1<=x*y:=Int.mul_le_mul A E (by omega) (by omega);omega
theorem r_8 (x y:Int) (H:1<=x) (E:x<=4096) (h:4096 / x < y):4096 < x*y:=by
 have A:4096 < (4096 / x+1)*x:=Int.lt_mul_of_ediv_lt (by omega) (by omega);have I:x*(4096 / x+1)<=x*y:=Int.mul_le_mul_of_nonneg_left (by omega) (by omega);rw [Int.mul_comm] at A;omega
theorem q_u (x y:Int) (H:1<=x) (E:x<=4096) (I:1<=y) (A:y<=4096):1<=x*y/\x*y<=16777216:=by
 have J:1*1<=x*y:=Int.mul_le_mul H I (by omega) (by omega);have L:x*y<=4096*4096:=Int.mul_le_mul E A (by omega) (by omega);omega
/-- A row in the making, from its end on. -/
def e_Y (L:List Int) (k:Nat):List Int:=replicate (L.length - k) 0++L.drop (L.length - k)
theorem a_I (L:List Int) (k:Nat):(e_Y L k).length=L.length:=by
 unfold e_Y;rw [length_append,length_replicate,length_drop];omega
theorem d_w (L:List Int):e_Y L 0=replicate L.length 0:=by simp [e_Y]
theorem d_x (L:List Int):e_Y L L.length=L:=by simp [e_Y]
theorem b_s (L:List Int) (j k:Nat) (h:j+k+1=L.length):(e_Y L k).set j (L.getD j 0)=e_Y L (k+1):=by
 unfold e_Y;rw [show L.length - k=j+1 by omega,show L.length - (k+1)=j by omega,replicate_succ',append_assoc,set_append_right _ _ (by simp),length_replicate,Nat.sub_self,drop_eq_getElem_cons (show j < L.length by omega),a_t L j 0 (by omega)];rfl
/-- The product of the last k. -/
def sK (d:List Nat) (k:Nat):Int:=((a_f (d.drop (d.length - k)):Nat):Int)
theorem q_v (d:List Nat):sK d 0=1:=by simp [sK,a_f]
theorem l_L (d:List Nat) (j k:Nat) (h:j+k+1=d.length):sK d (k+1)=sK d k*((d.getD j 0:Nat):Int):=by
 unfold sK;rw [show d.length - k=j+1 by omega,show d.length - (k+1)=j by omega,c_o d j (by omega),Int.natCast_mul,Int.mul_comm,a_t d j 0 (by omega)]
theorem p_V {d:List Nat} (h:goodN d) (k:Nat):1<=sK d k/\sK d k<=4096:=by
 have H:=e_B h.2.1 (d.length - k);have I:=a_X (d:=d.drop (d.length - k)) fun x A=>h.2.1 x (mem_of_mem_drop A);have E:=h.2.2;unfold sK;omega
theorem goodN.at {d:List Nat} (h:goodN d) (j:Nat) (A:j < d.length):1<=d.getD j 0/\d.getD j 0<=4096:=by
 rw [a_t d j 0 A];exact ⟨h.2.1 _ (getElem_mem A),h.le _ (getElem_mem A)⟩
def c_3 (d:List Int):List Int:=if goodN (ntl d) then itl (a_C (ntl d)) else []
theorem g_D (d:List Nat) (j k:Nat) (h:j+k+1=d.length):(itl (a_C d)).getD j 0=sK d k:=by
 rw [a_K,getD_eq_getElem?_getD,d_t d j (by omega)];unfold sK;rw [show d.length - k=j+1 by omega];rfl
/-- What is left of a number behind the last k sides. -/
def aK (d:List Nat) (a k:Nat):Int:=((a / a_f (d.drop (d.length - k)):Nat):Int)
theorem q_w (d:List Nat) (a:Nat):aK d a 0=(a:Int):=by simp [aK,a_f]
theorem q_x (d:List Nat) (a j k:Nat) (h:j+k+1=d.length):aK d a (k+1)=aK d a k / ((d.getD j 0:Nat):Int):=by
 unfold aK;rw [show d.length - k=j+1 by omega,show d.length - (k+1)=j by omega,<- j_I d a j (by omega),a_t d j 0 (by omega),Int.natCast_ediv]
theorem p_W (d:List Nat) (a k:Nat) (h:a < 4096):0<=aK d a k/\aK d a k < 4096:=by
 have:=div_le_self a (a_f (d.drop (d.length - k)));unfold aK;generalize a / a_f (d.drop (d.length - k))=q at *;omega
def g_E (d:List Int) (a:Int):List Int:=if 0<=a/\a < ((c_E (ntl d):Nat):Int) then itl (a_G (ntl d) a.toNat) else []
theorem o_o {d:List Nat} (A:goodN d) (a j k:Nat) (E:a < a_f d) (h:j+k+1=d.length):(itl (a_G d a)).getD j 0=aK d a k % ((d.getD j 0:Nat):Int):=by
 rw [a_K,getD_eq_getElem?_getD,d_O d a j A.2.1 E (by omega)];unfold aK;rw [show d.length - k=j+1 by omega,a_t d j 0 (by omega)];simp
/-- Is it a place? -/
def inB:List Int->List Int->Bool
 | d :: ds,p :: ps=>decide (0<=p/\p < d) && inB ds ps
 | [],[]=>true
 | _,_=>false
theorem l_M:∀ {d p:List Int},inB d p=true->p.length=d.length
 | [],[],_=>rfl
 | _ :: ds,_ :: ps,h=>by
  simp only [inB,Bool.and_eq_true] at h;simp [l_M h.2]
 | [],_ :: _,h=>by simp [inB] at h
 | _ :: _,[],h=>by simp [inB] at h
theorem i_Y:∀ {d p:List Int},inB d p=true->∀ k,k < d.length->0<=p.getD k 0/\p.getD k 0 < d.getD k 0
 | d :: ds,p :: ps,h,0,_=>by
  simp only [inB,Bool.and_eq_true,decide_eq_true_eq] at h;exact h.1
 | d :: ds,p :: ps,h,k+1,hk=>by
  simp only [inB,Bool.and_eq_true] at h;simpa using i_Y h.2 k (by simpa using hk)
 | [],_,_,k,hk=>by simp at hk
 | _ :: _,[],h,_,_=>by simp [inB] at h
theorem p_X:∀ {d p:List Int},p.length=d.length->(∀ k,k < d.length->0<=p.getD k 0/\p.getD k 0 < d.getD k 0)->inB d p=true
 | [],[],_,_=>rfl
 | d :: ds,p :: ps,hl,h=>by
  simp only [inB,Bool.and_eq_true,decide_eq_true_eq];exact ⟨h 0 (by simp),p_X (by simpa using hl) fun k A=>by simpa using h (k+1) (by simpa using A)⟩
 | [],_ :: _,hl,_=>by simp at hl
 | _ :: _,[],hl,_=>by simp at hl
theorem g_F:∀ {d p:List Nat},b_F d p->inB (itl d) (itl p)=true
 | [],[],_=>rfl
 | d :: ds,p :: ps,h=>by
  have E:=h.1;have A:=g_F h.2;unfold itl at *;simp only [map_cons,inB,A,Bool.and_true,decide_eq_true_eq];omega
 | [],_ :: _,h=>h.elim
 | _ :: _,[],h=>h.elim
def atB (d p:List Int):Bool:=decide (goodN (ntl d)) && inB d p
def atI (d p:List Int):Int:=if atB d p=true then ((c_b (ntl d) (ntl p):Nat):Int) else 0
/-- What a walk from the first side on has reckoned. -/
def hK (d p:List Int) (k:Nat):Int:=((e_C (ntl d) (ntl p) k:Nat):Int)
theorem l_N (d p:List Int) (k:Nat) (A:k < d.length) (hp:k < p.length) (E:0<=d.getD k 0) (H:0<=p.getD k 0):hK d p (k+1)=hK d p k*d.getD k 0+p.getD k 0:=by
 unfold hK;rw [e_C,c_2 d k A,c_2 p k hp,Int.natCast_add,Int.natCast_mul]
 congr 1
 ·congr 1;omega
 ·omega
/-- So far it is a place: then what was reckoned is below the product of the sides. -/
theorem t_t {d p:List Int} (M:p.length=d.length) (k:Nat) (J:k<=d.length) (h:∀ i,i < k->0<=p.getD i 0/\p.getD i 0 < d.getD i 0):0<=hK d p k/\hK d p k < pK d k:=by
 induction k with
 | zero=>simp [hK,e_C,pK,a_f]
 | succ k E=>
  have E:=E (by omega) fun i I=>h i (by omega);have A:=h k (by omega);rw [l_N d p k (by omega) (by omega) (by omega) A.1,f_P d k (by omega) (by omega)];have L:0<=hK d p k*d.getD k 0:=Int.mul_nonneg E.1 (by omega);have H:(hK d p k+1)*d.getD k 0<=pK d k*d.getD k 0:=Int.mul_le_mul_of_nonneg_right (by omega) (by omega);rw [Int.add_mul,Int.one_mul] at H;omega
theorem q_y {d p:List Int} (A:p.length=d.length):hK d p d.length=((c_b (ntl d) (ntl p):Nat):Int):=by
 unfold hK;rw [<- a_O d,g_C _ _ (by rw [a_O,a_O];exact A)]
/-- Do two fit, by looking. -/
def o_p (a b:List Nat):Bool:=(range (max a.length b.length+1)).all fun i=>decide (i=0) || decide (c_0 (a_u a i) (a_u b i))
theorem c_q (a b:List Nat):o_p a b=true↔b_R a b:=by
 unfold o_p b_R;rw [all_eq_true];constructor
 ·intro h i I J;have:=h i (mem_range.2 (by omega));rw [Bool.or_eq_true,decide_eq_true_eq,decide_eq_true_eq] at this;rcases this with E|E
  ·omega
  ·exact E
 ·intro h i A;have A:=mem_range.1 A;rw [Bool.or_eq_true,decide_eq_true_eq,decide_eq_true_eq];by_cases H:i=0
  ·exact .inl H
  ·exact .inr (h i (by omega) (by omega))
/-- What two spread to, and the error. -/
def b_t (a b:List Int):List Int:=if goodN (ntl a)/\goodN (ntl b)/\o_p (ntl a) (ntl b)=true/\goodN (joinN (ntl a) (ntl b)) then itl (joinN (ntl a) (ntl b)) else []
def b_c (a b:List Int):Int:=if goodN (ntl a)/\goodN (ntl b) then if o_p (ntl a) (ntl b)=true then if goodN (joinN (ntl a) (ntl b)) then 0 else 2 else 4 else 1
theorem e_F {a b:List Int} (h:¬ (goodN (ntl a)/\goodN (ntl b))):b_t a b = []/\b_c a b=1:=⟨if_neg fun A=>h ⟨A.1,A.2.1⟩,if_neg h⟩
theorem e_f {a b:List Nat} (E:goodN a) (hb:goodN b) (h:¬ b_R a b):b_t (itl a) (itl b) = []/\b_c (itl a) (itl b)=4:=by
 unfold b_t b_c;rw [a_n,a_n];exact ⟨if_neg fun A=>h ((c_q a b).1 A.2.2.1),by rw [if_pos ⟨E,hb⟩,if_neg fun A=>h ((c_q a b).1 A)]⟩
theorem e_Z {a b:List Nat} (A:goodN a) (hb:goodN b) (hf:b_R a b) (h:¬ goodN (joinN a b)):b_t (itl a) (itl b) = []/\b_c (itl a) (itl b)=2:=by
 unfold b_t b_c;rw [a_n,a_n];exact ⟨if_neg fun E=>h E.2.2.2,by rw [if_pos ⟨A,hb⟩,if_pos ((c_q a b).2 hf),if_neg h]⟩
theorem c_U {a b:List Nat} (A:goodN a) (hb:goodN b) (hf:b_R a b) (h:goodN (joinN a b)):b_t (itl a) (itl b)=itl (joinN a b)/\b_c (itl a) (itl b)=0:=by
 unfold b_t b_c;rw [a_n,a_n];exact ⟨if_pos ⟨A,hb,(c_q a b).2 hf,h⟩,by rw [if_pos ⟨A,hb⟩,if_pos ((c_q a b).2 hf),if_pos h]⟩
theorem d_y (d:List Nat) (k:Nat) (A:1<=k) (h:k<=d.length):(itl d).getD (d.length - k) 0=((a_u d k:Nat):Int):=by
 rw [a_K];unfold a_u;rw [if_pos h,a_t d _ 0 (by omega),a_t d _ 1 (by omega)]
theorem c_i {d:List Nat} (h:goodN d) (k:Nat):1<=a_u d k/\a_u d k<=4096:=by
 refine ⟨c_p h.2.1 k,?_⟩;unfold a_u
 split
 ·rw [getD_eq_getElem?_getD];cases A:d[d.length - k]? with
  | none=>show 1<=4096;omega
  | some x=>exact h.le x (mem_of_getElem? A)
 ·omega
theorem c_r (a b:List Nat) (j k:Nat) (h:j+k+1=max a.length b.length):(itl (joinN a b)).getD j 0=((max (a_u a (k+1)) (a_u b (k+1)):Nat):Int):=by
 have:=d_y (joinN a b) (k+1) (by omega) (by rw [a_4];omega);rw [a_4,show max a.length b.length - (k+1)=j by omega,b_r _ _ _ (by omega)] at this;exact this
/-- The side that two sides spread to, and whether they do. -/
def jnd (x y:Int):Int:=if x=1 then y else x
def jok (x y:Int):Bool:=decide (x=1∨y=1∨x=y)
theorem q_z (x y:Nat):jok (x:Int) (y:Int)=decide (c_0 x y):=by
 unfold jok c_0;exact decide_eq_decide.2 (by omega)
theorem q_A (x y:Nat) (A:1<=x) (E:1<=y) (h:c_0 x y):jnd (x:Int) (y:Int)=((max x y:Nat):Int):=by
 unfold jnd c_0 at *
 split <;> omega
theorem g_G {a b:List Int} (h:b_c a b=0):goodN (ntl a)/\goodN (ntl b)/\b_R (ntl a) (ntl b)/\goodN (joinN (ntl a) (ntl b)):=by
 unfold b_c at h
 split at h
 ·rename_i A
  split at h
  ·rename_i H
   split at h
   ·rename_i E;exact ⟨A.1,A.2,(c_q _ _).1 H,E⟩
   ·omega
  ·omega
 ·omega
theorem l_O (a b:List Int):0<=b_c a b/\b_c a b<=4:=by
 unfold b_c
 split
 ·split
  ·split <;> omega
  ·omega
 ·omega
theorem l_P (a b:List Int):(b_t a b).length<=4:=by
 unfold b_t
 split
 ·rename_i h;rw [a_p];exact h.2.2.2.1
 ·simp
theorem i_Z {d big:List Nat} (E:∀ x,x∈d->1<=x) (hf:b_R d big) (I:joinN d big=big) (i:Nat) (A:1<=i):a_u d i=1∨a_u d i=a_u big i:=by
 have L:=congrArg (fun l=>a_u l i) I;simp only [b_r _ _ _ A] at L;by_cases H:i<=max d.length big.length
 ·have J:=hf i A H;have:=c_p E i;unfold c_0 at J;omega
 ·left;exact c_c d i (by omega)
theorem d_z {d big:List Nat} (A:joinN d big=big):d.length<=big.length:=by
 have:=congrArg List.length A;rw [a_4] at this;omega
theorem f_Q (d:List Nat) (j k:Nat) (h:j+k+1=d.length):d.getD j 0=a_u d (k+1):=by
 have:=d_y d (k+1) (by omega) (by omega);rw [show d.length - (k+1)=j by omega,a_K] at this;omega
/-- The place that is spread to the place a of big. -/
def qN (d big:List Nat) (a:Nat):List Nat:=f_s d ((a_G big a).drop (big.length - d.length))
theorem l_Q (d big:List Nat) (a:Nat) (h:d.length<=big.length):(qN d big a).length=d.length:=h_U _ _ (by rw [length_drop,b_M];omega)
theorem t_u {d big:List Nat} (hb:goodN big) (h:d.length<=big.length) (a j k:Nat) (H:a < a_f big) (A:j+k+1=d.length):((qN d big a).getD j 0:Nat)=if a_u d (k+1)=1 then 0 else a / a_f (big.drop (big.length - k)) % a_u big (k+1):=by
 have E:d[j]?=some (a_u d (k+1)):=by
  rw [<- f_Q d j k A,getElem?_eq_getElem (by omega),a_t d j 0 (by omega)]
 have I:((a_G big a).drop (big.length - d.length))[j]?=some (a / a_f (big.drop (big.length - k)) % a_u big (k+1)):=by
  rw [getElem?_drop,d_O big a _ hb.2.1 H (by omega),<- a_t big _ 0 (by omega),f_Q big (big.length - d.length+j) k (by omega),show big.length - d.length+j+1=big.length - k by omega]
 rw [getD_eq_getElem?_getD,qN,f_M d _ j _ _ E I];rfl
theorem r_9 {d big:List Nat} (H:∀ x,x∈d->1<=x) (hb:goodN big) (hf:b_R d big) (A:joinN d big=big) (a j k:Nat) (J:a < a_f big) (I:j+k+1=d.length):(((qN d big a).getD j 0:Nat):Int)=aK big a k % ((a_u big (k+1):Nat):Int) % ((a_u d (k+1):Nat):Int):=by
 rw [t_u hb (d_z A) a j k J I];unfold aK;rw [<- Int.natCast_emod,<- Int.natCast_emod]
 congr 1
 rcases i_Z H hf A (k+1) (by omega) with h|h
 ·rw [if_pos h,h,mod_one]
 ·by_cases E:a_u d (k+1)=1
  ·rw [if_pos E,E,mod_one]
  ·rw [if_neg E,h,mod_mod]
/-- The same, of a walk from the first side on. -/
theorem k_S (d big:List Nat) (a:Nat) (h:d.length<=big.length):e_C d (qN d big a) d.length=c_d d big a:=g_C _ _ (l_Q d big a h)
theorem l_R {d big:List Nat} (E:goodN d) (hb:goodN big) (hf:b_R d big) (A:joinN d big=big) (a:Nat) (O:a < a_f big):b_F d (qN d big a):=by
 refine f_I (l_Q d big a (d_z A)) fun j x y J M=>?_;have R:j < d.length:=(List.getElem?_eq_some_iff.1 J).1;obtain ⟨k,I⟩:∃ k,j+k+1=d.length:=⟨d.length - 1 - j,by omega⟩
 have H:=r_9 E.2.1 hb hf A a j k O I;have L:=f_Q d j k I;rw [getD_eq_getElem?_getD,M] at H;rw [getD_eq_getElem?_getD,J] at L;have V:x=a_u d (k+1):=L;have h4:((y:Nat):Int)=_:=H;have Z:=Int.emod_lt_of_pos (aK big a k % ((a_u big (k+1):Nat):Int)) (show 0 < ((a_u d (k+1):Nat):Int) by have:=c_p E.2.1 (k+1);omega);omega
def gK (d q:List Nat) (k:Nat):Int:=((e_C d q k:Nat):Int)
theorem q_B (d q:List Nat) (k:Nat):gK d q (k+1)=gK d q k*((d.getD k 0:Nat):Int)+((q.getD k 0:Nat):Int):=by
 unfold gK;rw [e_C,Int.natCast_add,Int.natCast_mul]
theorem p_Y {d q:List Nat} (A:goodN d) (h:b_F d q) (k:Nat) (E:k<=d.length):0<=gK d q k/\gK d q k < 4096:=by
 have I:=j_H h A.2.1 k E;have J:=c_1 A.2.1 k;have H:=A.2.2;unfold gK;omega
/-- A number of the spread place, by big's place. -/
theorem l_S {d big:List Nat} (h:d.length<=big.length) (a i:Nat) (E:i < d.length):(((qN d big a).getD i 0:Nat):Int)=if ((d.getD i 0:Nat):Int)=1 then 0 else (itl (a_G big a)).getD (big.length - d.length+i) 0:=by
 have J:=b_M big a;have H:d[i]?=some (d.getD i 0):=by rw [getElem?_eq_getElem E,a_t d i 0 E]
 have I:((a_G big a).drop (big.length - d.length))[i]?=some ((a_G big a).getD (big.length - d.length+i) 0):=by
  rw [getElem?_drop,getElem?_eq_getElem (by omega),a_t _ _ 0 (by omega)]
 rw [a_K,getD_eq_getElem?_getD,qN,f_M d _ i _ _ H I];simp only [Option.getD_some];by_cases A:d.getD i 0=1
 ·rw [if_pos A,if_pos (by rw [A];rfl)];rfl
 ·rw [if_neg A,if_neg (by omega)]
def f_R (d big:List Int) (a:Int):Bool:=decide (b_c d big=0/\b_t d big=big/\0<=a/\a < ((c_E (ntl big):Nat):Int))
def g_8 (d big:List Int) (a:Int):Int:=if f_R d big a=true then ((c_d (ntl d) (ntl big) a.toNat:Nat):Int) else 0
theorem i_0 {d big:List Int} {a:Int} (h:¬ (b_c d big=0/\b_t d big=big/\0<=a/\a < ((c_E (ntl big):Nat):Int))):f_R d big a=false/\g_8 d big a=0:=by
 have A:f_R d big a=false:=decide_eq_false h;refine ⟨A,?_⟩;unfold g_8;rw [A];rfl
/-- A place that is spread somewhere: all that is known of it. -/
theorem o_q {d big:List Int} {a:Int} (h:b_c d big=0/\b_t d big=big/\0<=a/\a < ((c_E (ntl big):Nat):Int)):∃ (x y:List Nat) (m:Nat),d=itl x/\big=itl y/\a=(m:Int)/\goodN x/\goodN y/\b_R x y/\joinN x y=y/\m < a_f y/\f_R d big a=true/\g_8 d big a=((c_d x y m:Nat):Int):=by
 have A:=g_G h.1;obtain ⟨m,rfl⟩:=Int.eq_ofNat_of_zero_le h.2.2.1;have E:f_R d big (m:Int)=true:=decide_eq_true h
 have H:joinN (ntl d) (ntl big)=ntl big:=by
  have:=h.2.1;unfold b_t at this;rw [if_pos ⟨A.1,A.2.1,(c_q _ _).2 A.2.2.1,A.2.2.2⟩] at this;have:=congrArg ntl this;rw [a_n] at this;exact this
 refine ⟨ntl d,ntl big,m,(f_N A.1.2.1).symm,(f_N A.2.1.2.1).symm,rfl,A.1,A.2.1,A.2.2.1,H,?_,E,?_⟩
 ·have:=h.2.2.2;rw [a_T A.2.1] at this;exact Int.ofNat_lt.1 this
 ·unfold g_8;rw [if_pos E];rfl
theorem l_T (x y:Int) (I:0<=x) (E:x<=4096) (H:0<=y) (A:y<=4096):0<=x*y/\x*y<=16777216:=by
 have J:0<=x*y:=Int.mul_nonneg I H;have L:x*y<=4096*4096:=Int.mul_le_mul E A H (by omega);omega
/-- Go's ints. -/
def RI (l:List Int):Prop:=∀ y,y∈l->-9223372036854775808<=y/\y<=9223372036854775807
theorem RI.at {l:List Int} (h:RI l) (k:Nat) (A:k < l.length):-9223372036854775808<=l.getD k 0/\l.getD k 0<=9223372036854775807:=by
 rw [a_t l k 0 A];exact h _ (getElem_mem A)
/-- A slice's cells, as a walk reads them. -/
def Lst (w:World) (p:Option Addr) (n:Nat) (l:List Int):Prop:=l.length=n/\∀ j,j < n->∃ q o,p=some ⟨q,o,none⟩/\w.cell? ⟨q,o+j,none⟩=some (.int .i64 (l.getD j 0))
theorem Nums.lst {w:World} {v:Value} {l:List Int} (h:Nums .i64 w v l):∃ p n c,v = .slice p n c/\Hid (Lst w p n l):=by
 obtain ⟨p,c,rfl,A⟩:=h.view;exact ⟨p,_,c,rfl,rfl,A⟩
theorem size_any (v:Value) (l:List Int) (hl:RI l) (w:World) (hv:Nums .i64 w v l):
  Calls Tryz.prog 115 #[v] w fun e w'=>e = .returned (.int .i64 ((c_E (ntl l):Nat):Int))/\w'=w:=by
 obtain ⟨p,n,c,rfl,HC⟩:=hv.lst;have HL:Hid (RI l):=hl;obtain ⟨r,er⟩:∃ r:Int,((c_E (ntl l):Nat):Int)=r:=⟨_,rfl⟩
 have HR:Hid (((c_E (ntl l):Nat):Int)=r):=er;rw [er];clear er hv hl;go_enter Tryz.func115,Tryz.ntmps115;by_cases hn:4 < n
 ·have ac:(4:Int) < (n:Int):=by omega
  go_wp2;go_ret;have:=j_N (l:=l) (by rw [HC.1];exact hn);rw [<- HR.out,e_E this];exact ⟨rfl,rfl⟩
 have ac:(n:Int)<=4:=by omega
 go_wp2_with fail
 go_loopg [3,11] n (fun gg u v wr=>∃ (k:Nat) (x:Int),k<=n/\gg=n - k/\u = .int .i64 x/\v = .int .i64 (k:Int)/\Hid (x=pK l k/\okK l k)/\1<=x/\x<=4096/\wr=w)
 case atStart=>exact ⟨0,1,by omega,by omega,rfl,rfl,⟨(i_U l).symm,j_K l⟩,by omega,by omega,rfl⟩
 case round=>
  obtain ⟨k,x,hk,hg,rfl,rfl,L,V,E,rfl⟩:=hrel;by_cases aa:k < n
  ·have ae:(k:Int) < (n:Int):=by omega
   obtain ⟨q,o,rfl,H⟩:=HC.2 k aa;have I:k < l.length:=by rw [HC.1];exact aa
   have Hk:Hid (k < l.length):=I;have hy:=HL.out.at k I;obtain ⟨y,ey⟩:∃ y,l.getD k 0=y:=⟨_,rfl⟩
   have O:Hid _:=ey;rw [ey] at H hy;obtain ⟨J,M⟩:∃ J,(4096:Int) / x=J:=⟨_,rfl⟩
   have ag:0<=J/\J<=4096:=by
    rw [<- M];exact ⟨Int.ediv_nonneg (by omega) (by omega),Int.ediv_le_self _ (by omega)⟩
   have af:Int.tdiv 4096 x=J:=by rw [Int.tdiv_eq_ediv_of_nonneg (by omega)];exact M
   clear ey I;by_cases ad:y < 1
   ·go_wp2;go_ret;rw [<- HR.out,e_E (l_K Hk.out (by rw [O.out];exact ad))];exact ⟨rfl,rfl⟩
   by_cases ab:J < y
   ·have A:¬ goodN (ntl l):=h_X Hk.out (by rw [O.out];omega) (by rw [O.out,<- L.1];exact r_8 x y V E (by rw [M];exact ab));have Z:Hid _:=A;clear A M;go_wp2;go_ret;rw [<- HR.out,e_E Z.out];exact ⟨rfl,rfl⟩
   ·obtain ⟨m,em⟩:∃ m,x*y=m:=⟨_,rfl⟩
    have hm:=r_7 x y V E (by rw [M];omega) (by omega);rw [em] at hm;have Hn:Hid (m=pK l (k+1)/\okK l (k+1)):=⟨by rw [f_P l k Hk.out (by rw [O.out];omega),<- L.1,O.out,em],j_L L.2 (by rw [O.out];omega)⟩
    clear M;go_wp2;go_roundg (n - (k+1))
    case measure=>omega
    case rel=>exact ⟨k+1,m,by omega,rfl,by first|rfl|simp [em],by first|rfl|simp,Hn,hm.2,hm.1,rfl⟩
  ·obtain rfl:k=n:=by omega
   go_wp2;go_ret;have R:=HC.1;subst R;have:=j_M (l:=l) (by omega) L.2 (by rw [<- L.1];exact E);rw [<- HR.out,a_T this.1,<- this.2,<- L.1];exact ⟨rfl,rfl⟩
theorem c_I (v:Value) (l:List Int) (L:RI l) (w:World) (E:Nums .i64 w v l):
  Calls Tryz.prog 114 #[v] w fun e J=>e = .returned (.bool (decide (goodN (ntl l))))/\J=w:=by
 have I:=size_any v l L w E
 have A:decide (((c_E (ntl l):Nat):Int) > 0)=decide (goodN (ntl l)):=by
  have:=f_O (ntl l);exact decide_eq_decide.2 ⟨fun h=>this.1 (by omega),fun h=>by have:=this.2 h;omega⟩
 obtain ⟨r,H⟩:∃ r:Int,((c_E (ntl l):Nat):Int)=r:=⟨_,rfl⟩
 rw [H] at I A;rw [<- A];clear H A E;go_enter Tryz.func114,Tryz.ntmps114;go_wp2_with fail
 refine I.mono ?_;rintro e M ⟨rfl,rfl⟩;go_wp2;go_ret;exact ⟨rfl,rfl⟩
theorem b_g (v:Value) (l:List Int) (hl:RI l) (w:World) (hv:Nums .i64 w v l):
  Calls Tryz.prog 65 #[v] w fun e w'=>e = .returned (.bool (decide (goodN (ntl l))))/\w'=w:=by
 obtain ⟨p,n,c,rfl,HC⟩:=hv.lst;have HL:Hid (RI l):=hl;obtain ⟨r,er⟩:∃ r:Bool,decide (goodN (ntl l))=r:=⟨_,rfl⟩
 have O:Hid (decide (goodN (ntl l))=r):=er;rw [er];clear er hv hl;go_enter Tryz.func65,Tryz.ntmps65;by_cases hn:4 < n
 ·have ac:(4:Int) < (n:Int):=by omega
  go_wp2;go_ret;have:=j_N (l:=l) (by rw [HC.1];exact hn);rw [<- O.out,decide_eq_false this];exact ⟨rfl,rfl⟩
 have ac:(n:Int)<=4:=by omega
 go_wp2_with fail
 go_loopg [3,4] n (fun gg u v wr=>∃ (k:Nat) (x:Int),k<=n/\gg=n - k/\u = .int .i64 x/\v = .int .i64 (k:Int)/\Hid (x=pK l k/\okK l k)/\1<=x/\x<=4096/\wr=w)
 case atStart=>exact ⟨0,1,by omega,by omega,rfl,rfl,⟨(i_U l).symm,j_K l⟩,by omega,by omega,rfl⟩
 case round=>
  obtain ⟨k,x,hk,hg,rfl,rfl,M,ab,L,rfl⟩:=hrel;by_cases R:k < n
  ·have ae:(k:Int) < (n:Int):=by omega
   obtain ⟨q,o,rfl,E⟩:=HC.2 k R;have H:k < l.length:=by rw [HC.1];exact R
   have V:Hid (k < l.length):=H;have hy:=HL.out.at k H;obtain ⟨y,ey⟩:∃ y,l.getD k 0=y:=⟨_,rfl⟩
   have I:Hid _:=ey;rw [ey] at E hy;clear ey H;by_cases ad:y < 1
   ·go_wp2;go_ret;rw [<- O.out,decide_eq_false (l_K V.out (by rw [I.out];exact ad))];exact ⟨rfl,rfl⟩
   by_cases af:4096 < y
   ·have A:Hid (¬ goodN (ntl l)):=fun hg=>by
     have:=i_X hg k V.out;rw [I.out] at this;omega
    go_wp2;go_ret;rw [<- O.out,decide_eq_false A.out];exact ⟨rfl,rfl⟩
   obtain ⟨m,Z⟩:∃ m,x*y=m:=⟨_,rfl⟩
   have hm:=q_u x y ab L (by omega) (by omega);rw [Z] at hm;by_cases aa:4096 < m
   ·have A:Hid (¬ goodN (ntl l)):=h_X V.out (by rw [I.out];omega) (by rw [I.out,<- M.1,Z];exact aa);go_wp2;go_ret;rw [<- O.out,decide_eq_false A.out];exact ⟨rfl,rfl⟩
   ·have Hn:Hid (m=pK l (k+1)/\okK l (k+1)):=⟨by rw [f_P l k V.out (by rw [I.out];omega),<- M.1,I.out,Z],j_L M.2 (by rw [I.out];omega)⟩
    go_wp2;go_roundg (n - (k+1))
    case measure=>omega
    case rel=>exact ⟨k+1,m,by omega,rfl,by first|rfl|simp [Z],by first|rfl|simp,Hn,hm.1,by omega,rfl⟩
  ·obtain rfl:k=n:=by omega
   go_wp2;go_ret;have J:=HC.1;subst J;have:=j_M (l:=l) (by omega) M.2 (by rw [<- M.1];exact L);rw [<- O.out,decide_eq_true this.1];exact ⟨rfl,rfl⟩
theorem e_G (v:Value) (l:List Int) (hl:RI l) (w:World) (V:Nums .i64 w v l):
  Calls Tryz.prog 66 #[v] w fun e w'=>e = .returned (.int .i64 ((c_E (ntl l):Nat):Int))/\w'=w:=by
 have R:=b_g v l hl w V;obtain ⟨p,n,c,rfl,L⟩:=V.lst;obtain ⟨r,M⟩:∃ r:Int,((c_E (ntl l):Nat):Int)=r:=⟨_,rfl⟩
 have HR:Hid _:=M;rw [M];clear M V hl;go_enter Tryz.func66,Tryz.ntmps66;go_wp2_with fail
 refine R.mono ?_;rintro e w1 ⟨rfl,rfl⟩;by_cases A:goodN (ntl l)
 ·rw [decide_eq_true A];have hn:n<=4:=by rw [<- L.1,<- a_O];exact A.1
  have ae:(n:Int)<=4:=by omega
  have I:Hid _:=A;clear A R;go_wp2_with fail
  go_loopg [3,4] n (fun gg u v wr=>∃ (k:Nat) (x:Int),k<=n/\gg=n - k/\u = .int .i64 x/\v = .int .i64 (k:Int)/\Hid (x=pK l k)/\1<=x/\x<=4096/\wr=w1)
  case atStart=>exact ⟨0,1,by omega,by omega,rfl,rfl,(i_U l).symm,by omega,by omega,rfl⟩
  case round=>
   obtain ⟨k,x,hk,hg,rfl,rfl,Hx,ad,ac,rfl⟩:=hrel;by_cases J:k < n
   ·have ab:(k:Int) < (n:Int):=by omega
    obtain ⟨q,o,rfl,E⟩:=L.2 k J;have H:k < l.length:=by rw [L.1];exact J
    have Hk:Hid _:=H;have hy:=i_X I.out k H;obtain ⟨y,Z⟩:∃ y,l.getD k 0=y:=⟨_,rfl⟩
    have Hy:Hid _:=Z;rw [Z] at E hy;clear Z H;obtain ⟨m,em⟩:∃ m,x*y=m:=⟨_,rfl⟩
    have Hn:Hid (m=pK l (k+1)):=by show _=_;rw [f_P l k Hk.out (by rw [Hy.out];omega),<- Hx.out,Hy.out,em]
    have O:=i_W I.out (k+1);rw [<- Hn.out] at O;go_wp2;go_roundg (n - (k+1))
    case measure=>omega
    case rel=>exact ⟨k+1,m,by omega,rfl,by first|rfl|simp [em],by first|rfl|simp,Hn,O.1,O.2,rfl⟩
   ·obtain rfl:k=n:=by omega
    go_wp2;go_ret;have aa:=L.1;rw [<- HR.out,a_T I.out,Hx.out];unfold pK;rw [take_of_length_le (by rw [a_O];omega)];exact ⟨rfl,rfl⟩
 ·rw [decide_eq_false A];have I:Hid _:=A;clear A R;go_wp2;go_ret;rw [<- HR.out,e_E I.out];exact ⟨rfl,rfl⟩
theorem q_C {a b:List Int} {n k:Nat} (E:a.length=n) (hb:b.length=n) (A:k < n) (h:a.getD k 0≠b.getD k 0):¬ a=b:=fun e=>h (by rw [e])
theorem l_U {a b:List Int} {n:Nat} (H:a.length=n) (hb:b.length=n) (h:∀ i,i < n->a.getD i 0=b.getD i 0):a=b:=
 ext_getElem (by omega) fun i A E=>by
  have:=h i (by omega);rw [a_t a i 0 A,a_t b i 0 E] at this;exact this
theorem l_V (u v:Value) (a b:List Int) (hm:a.length<=9223372036854775807) (w:World) (hu:Nums .i64 w u a) (hv:Nums .i64 w v b):
  Calls Tryz.prog 86 #[u,v] w fun e w'=>e = .returned (.bool (decide (a=b)))/\∃ n,w'=w.drewN n:=by
 obtain ⟨p,n,c,rfl,H⟩:=hu.lst;obtain ⟨p2,O,c2,rfl,I⟩:=hv.lst;obtain ⟨r,L⟩:∃ r:Bool,decide (a=b)=r:=⟨_,rfl⟩
 have V:Hid _:=L;rw [L];rw [H.1] at hm;have ae:(n:Int)<=9223372036854775807:=by omega
 clear L hv hu;go_enter Tryz.func86,Tryz.ntmps86;by_cases hn:n=O
 ·subst hn;go_wp2_with fail
  go_loopg [13] n (fun gg v wr=>∃ (k d:Nat),k<=n/\gg=n - k/\v = .int .i64 (k:Int)/\Hid (∀ i,i < k->a.getD i 0=b.getD i 0)/\wr=w.drewN d)
  case atStart=>exact ⟨0,0,by omega,by omega,rfl,fun i hi=>by omega,rfl⟩
  case round=>
   obtain ⟨k,d,hk,hg,rfl,M,rfl⟩:=hrel;by_cases E:k < n
   ·have ac:(k:Int) < (n:Int):=by omega
    obtain ⟨q,o,rfl,ca⟩:=H.2 k E;obtain ⟨q2,o2,rfl,cb⟩:=I.2 k E;obtain ⟨x,Z⟩:∃ x,a.getD k 0=x:=⟨_,rfl⟩
    obtain ⟨y,R⟩:∃ y,b.getD k 0=y:=⟨_,rfl⟩
    have J:Hid (a.getD k 0=x/\b.getD k 0=y):=⟨Z,R⟩
    rw [Z] at ca;rw [R] at cb;clear Z R;by_cases A:x=y
    ·subst A
     have Hn:Hid (∀ i,i < k+1->a.getD i 0=b.getD i 0):=fun i hi=>by
      rcases Nat.lt_succ_iff_lt_or_eq.1 hi with h|rfl
      ·exact M.out i h
      ·rw [J.1,J.2]
     clear M;go_wp2;go_region
     all_goals
      go_wp2;go_roundg (n - (k+1))
     case measure=>omega
     case rel=>exact ⟨k+1,d+1,by omega,rfl,by first|rfl|simp,Hn,rfl⟩
    ·have ab:(x != y)=true:=by simp [A]
     go_wp2;go_region
     all_goals go_wp2
     go_ret;rw [<- V.out,decide_eq_false (q_C H.1 I.1 E (by rw [J.1,J.2];exact A))];exact ⟨rfl,d+1,rfl⟩
   ·obtain rfl:k=n:=by omega
    go_wp2;go_ret;rw [<- V.out,decide_eq_true (l_U H.1 I.1 M.out)];exact ⟨rfl,d,rfl⟩
 ·have ad:((n:Int) != (O:Int))=true:=by simp;omega
  have aa:¬ ((n:Int)=(O:Int)):=by omega
  go_wp2;go_ret;rw [<- V.out,decide_eq_false (fun e=>hn (by rw [<- H.1,<- I.1,e]))];exact ⟨rfl,0,rfl⟩
theorem e_H (u v:Value) (a b:List Int) (hm:a.length<=9223372036854775807) (w:World) (hu:Nums .i64 w u a) (hv:Nums .i64 w v b):
  Calls Tryz.prog 12 #[u,v] w fun e w'=>e = .returned (.bool (decide (a=b)))/\∃ n,w'=w.drewN n:=by
 obtain ⟨p,n,c,rfl,H⟩:=hu.lst;obtain ⟨p2,O,c2,rfl,I⟩:=hv.lst;obtain ⟨r,L⟩:∃ r:Bool,decide (a=b)=r:=⟨_,rfl⟩
 have V:Hid _:=L;rw [L];rw [H.1] at hm;have ae:(n:Int)<=9223372036854775807:=by omega
 clear L hv hu;go_enter Tryz.func12,Tryz.ntmps12;by_cases hn:n=O
 ·subst hn;go_wp2_with fail
  go_loopg [5] n (fun gg v wr=>∃ (k d:Nat),k<=n/\gg=n - k/\v = .int .i64 (k:Int)/\Hid (∀ i,i < k->a.getD i 0=b.getD i 0)/\wr=w.drewN d)
  case atStart=>exact ⟨0,0,by omega,by omega,rfl,fun i hi=>by omega,rfl⟩
  case round=>
   obtain ⟨k,d,hk,hg,rfl,M,rfl⟩:=hrel;by_cases E:k < n
   ·have ac:(k:Int) < (n:Int):=by omega
    obtain ⟨q,o,rfl,ca⟩:=H.2 k E;obtain ⟨q2,o2,rfl,cb⟩:=I.2 k E;obtain ⟨x,Z⟩:∃ x,a.getD k 0=x:=⟨_,rfl⟩
    obtain ⟨y,R⟩:∃ y,b.getD k 0=y:=⟨_,rfl⟩
    have J:Hid (a.getD k 0=x/\b.getD k 0=y):=⟨Z,R⟩
    rw [Z] at ca;rw [R] at cb;clear Z R;by_cases A:x=y
    ·subst A
     have Hn:Hid (∀ i,i < k+1->a.getD i 0=b.getD i 0):=fun i hi=>by
      rcases Nat.lt_succ_iff_lt_or_eq.1 hi with h|rfl
      ·exact M.out i h
      ·rw [J.1,J.2]
     clear M;go_wp2;go_region
     all_goals
      go_wp2;go_roundg (n - (k+1))
     case measure=>omega
     case rel=>exact ⟨k+1,d+1,by omega,rfl,by first|rfl|simp,Hn,rfl⟩
    ·have ab:(x != y)=true:=by simp [A]
     go_wp2;go_region
     all_goals go_wp2
     go_ret;rw [<- V.out,decide_eq_false (q_C H.1 I.1 E (by rw [J.1,J.2];exact A))];exact ⟨rfl,d+1,rfl⟩
   ·obtain rfl:k=n:=by omega
    go_wp2;go_ret;rw [<- V.out,decide_eq_true (l_U H.1 I.1 M.out)];exact ⟨rfl,d,rfl⟩
 ·have ad:((n:Int) != (O:Int))=true:=by simp;omega
  have aa:¬ ((n:Int)=(O:Int)):=by omega
  go_wp2;go_ret;rw [<- V.out,decide_eq_false (fun e=>hn (by rw [<- H.1,<- I.1,e]))];exact ⟨rfl,0,rfl⟩
theorem e_g:NumT Tryz.prog 22 3 .i64 8:=⟨Tryz.underlying22,by kernel_rfl⟩
theorem f_S (w:World) (a b:Nat):(w.drewN a).drewN b=w.drewN (a+b):=by unfold drewN;simp [Nat.add_assoc]
theorem Lst.up {w A:World} {p:Option Addr} {n:Nat} {l:List Int} (h:Lst w p n l) (I:Bw w A):Lst A p n l:=
 ⟨h.1,fun j E=>by
  obtain ⟨q,o,e,H⟩:=h.2 j E;exact ⟨q,o,e,a_g I H⟩⟩
theorem Lst.block {w:World} {q o n:Nat} {l:List Int} (h:Lst w (some ⟨q,o,none⟩) n l) (A:0 < n):q < w.heap.size:=by
 obtain ⟨I,H,e,E⟩:=h.2 0 A;cases e;exact c_T E
theorem b_u {l:List Int} (h:goodN (ntl l)):∃ d,goodN d/\l=itl d:=⟨ntl l,h,(f_N h.2.1).symm⟩
theorem f_T (v:Value) (l:List Int) (hl:RI l) (w:World) (hv:Nums .i64 w v l):
  Calls Tryz.prog 183 #[v] w fun e w'=>∃ v',e = .returned v'/\OwnK .i64 3 w' w.heap.size v' (c_3 l)/\Bw w w':=by
 have cg:=c_I v l hl w hv;obtain ⟨p,n,c,rfl,HC⟩:=hv.lst;clear hv hl;by_cases A:goodN (ntl l)
 ·rw [decide_eq_true A] at cg;have O:c_3 l=itl (a_C (ntl l)):=if_pos A;rw [O];clear O;obtain ⟨d,hd,rfl⟩:=b_u A;rw [a_n];have HD:Hid (goodN d):=hd;obtain ⟨L,O⟩:∃ L,itl (a_C d)=L:=⟨_,rfl⟩
  have HL:Hid (itl (a_C d)=L):=O;have aa:L.length=n:=by rw [<- O,a_p,c_a,<- a_p d];exact HC.1
  have H:Hid (L.length=n):=aa;have I:Hid (d.length=n):=by show _=_;rw [<- a_p d];exact HC.1
  rw [O];have hn:n<=4:=by rw [<- I.out];exact hd.1
  have ai:(n:Int)<=4:=by omega
  clear A hd O aa;go_enter Tryz.func183,Tryz.ntmps183;go_wp2_with fail
  refine cg.mono ?_;rintro e E ⟨rfl,rfl⟩;clear cg;go_wp2_with (at_make;refine a_F e_g (by decide) _ rfl (.tmp 10) (.tmp 10) rfl .i64 .i64 n n n rfl rfl rfl rfl (by omega) E.heap.size E (Nat.le_refl _) (Below.refl _ _) ?_;intro w1 HO B0 B1;clear B0)
  rw [<- H.out,<- d_w L,H.out] at HO
  go_loopg [4,5] n (fun gg u v wr=>∃ (k:Nat) (x i:Int),k<=n/\gg=n - k/\u = .int .i64 x/\v = .int .i64 i/\Hid (i=(n:Int) - 1 - (k:Int))/\Hid (x=sK d k)/\Hid (OwnK .i64 3 wr E.heap.size (.slice (some ⟨E.heap.size,0,none⟩) n n) (e_Y L k))/\Hid (Bw E wr))
  case atStart=>exact ⟨0,1,(n:Int) - 1,by omega,by omega,rfl,by first|rfl|simp,by show _=_;omega,(q_v d).symm,HO,B1⟩
  case round=>
   obtain ⟨k,x,i,hk,hg,rfl,rfl,Hi,Hx,HR,hB⟩:=hrel;by_cases ah:k < n
   ·obtain ⟨j,hj⟩:∃ j,j=n - 1 - k:=⟨_,rfl⟩
    have ad:i=(j:Int):=by have:=Hi.out;omega
    subst ad;have R:j < n:=by omega
    have ae:(j:Int) < (n:Int):=by omega
    have Z:Hid (j+k+1=n):=by show _=_;omega
    clear hj;obtain ⟨q,o,rfl,M⟩:=(HC.out.up hB.out).2 j R;have ak:=HC.block (by omega);obtain ⟨af,aj⟩:=HR.cell (by rw [a_I];exact H.out) j R;have hx:=p_V HD.out k;have V:=p_V HD.out (k+1);rw [l_L d j k (by rw [I.out];exact Z.out)] at V;rw [a_K] at M;have hy:=HD.out.at j (by rw [I.out];exact R);obtain ⟨y,ey⟩:∃ y:Int,((d.getD j 0:Nat):Int)=y:=⟨_,rfl⟩
    rw [<- Hx.out] at hx V;obtain ⟨m,em⟩:∃ m,x*y=m:=⟨_,rfl⟩
    have Hm:Hid (m=sK d (k+1)):=by show _=_;rw [l_L d j k (by rw [I.out];exact Z.out),<- Hx.out,ey,em]
    have am:1<=y/\y<=4096:=by omega
    rw [ey] at M V;rw [em] at V
    have H2:Hid (OwnK .i64 3 (wr.setCell ⟨E.heap.size,j,none⟩ (.int .i64 x)) E.heap.size (.slice (some ⟨E.heap.size,0,none⟩) n n) (e_Y L (k+1))):=by
     have:=HR.out.store (by rw [a_I];exact H.out) j x;rw [show x=L.getD j 0 by rw [Hx.out,<- HL.out,g_D d j k (by rw [I.out];exact Z.out)],b_s L j k (by rw [H.out];exact Z.out)] at this;rw [show x=L.getD j 0 by rw [Hx.out,<- HL.out,g_D d j k (by rw [I.out];exact Z.out)]];exact this
    have ab:Hid (Bw E (wr.setCell ⟨E.heap.size,j,none⟩ (.int .i64 x))):=hB.setCell (p:=⟨E.heap.size,j,none⟩) (Nat.le_refl _) _
    have ac:=a_g ab (show E.cell? ⟨q,o+j,none⟩=some (.int .i64 y) by
     obtain ⟨q',o',e',h'⟩:=HC.2 j R;cases e';rw [h',a_K,ey])
    have al:¬ q=E.heap.size:=by omega
    clear ey hy;go_wp2;go_roundg (n - (k+1))
    case measure=>omega
    case rel=>exact ⟨k+1,m,(j:Int) - 1,by omega,rfl,by first|rfl|simp [em],by first|rfl|simp,by have:=Z.out;show _=_;omega,Hm,H2,ab⟩
   ·obtain rfl:k=n:=by omega
    have ag:i < 0:=by have:=Hi.out;omega
    have J:=HR.out;rw [<- H.out,d_x,H.out] at J;have HF:Hid (OwnK .i64 3 wr E.heap.size (.slice (some ⟨E.heap.size,0,none⟩) k k) L/\Bw E wr):=⟨J,hB.out⟩
    clear J;go_wp2;exact bodyPost_ret (v:=.slice (some ⟨E.heap.size,0,none⟩) k k) (by simp [results,Tryz.results183,go_sem]) rfl ⟨_,rfl,HF.out⟩
 ·rw [decide_eq_false A] at cg;have O:c_3 l = []:=if_neg A;rw [O];clear O A;go_enter Tryz.func183,Tryz.ntmps183;go_wp2_with fail
  refine cg.mono ?_;rintro e E ⟨rfl,rfl⟩;go_wp2;exact bodyPost_ret (v:=.slice none 0 0) (by simp [results,Tryz.results183,go_sem]) rfl ⟨_,rfl,OwnK.nil _ _ _ _,Below.refl _ _⟩
theorem g_H (v:Value) (l:List Int) (hl:RI l) (a:Int) (w:World) (hv:Nums .i64 w v l):
  Calls Tryz.prog 105 #[v,.int .i64 a] w fun e w'=>∃ v',e = .returned (.tuple #[v',.bool (decide (0<=a/\a < ((c_E (ntl l):Nat):Int)))])/\OwnK .i64 3 w' w.heap.size v' (g_E l a)/\Bw w w':=by
 have cg:=b_g v l hl w hv;have cz:=e_G v l hl w hv;obtain ⟨p,n,c,rfl,HC⟩:=hv.lst;clear hv hl;obtain ⟨z,ez⟩:∃ z:Int,((c_E (ntl l):Nat):Int)=z:=⟨_,rfl⟩
 rw [ez] at cz;by_cases E:0<=a/\a < ((c_E (ntl l):Nat):Int)
 ·have A:goodN (ntl l):=(f_O _).1 (by omega);have J:g_E l a=itl (a_G (ntl l) a.toNat):=if_pos E;rw [J,decide_eq_true E];clear J;rw [decide_eq_true A] at cg;obtain ⟨R,rfl⟩:=Int.eq_ofNat_of_zero_le E.1;rw [ez] at E;obtain ⟨d,hd,rfl⟩:=b_u A;rw [a_n] at ez ⊢;rw [a_T hd] at ez;simp only [Int.ofNat_eq_natCast,Int.toNat_natCast] at E ⊢;have aa:Hid (R < a_f d):=by show _ < _;omega
  have HD:Hid (goodN d):=hd;obtain ⟨L,J⟩:∃ L,itl (a_G d R)=L:=⟨_,rfl⟩
  have HL:Hid (itl (a_G d R)=L):=J;have ab:L.length=n:=by rw [<- J,a_p,b_M,<- a_p d];exact HC.1
  have I:Hid (L.length=n):=ab;have Z:Hid (d.length=n):=by show _=_;rw [<- a_p d];exact HC.1
  rw [J];have hn:n<=4:=by rw [<- Z.out];exact hd.1
  have an:(n:Int)<=4:=by omega
  have aj:z<=4096:=by have:=hd.2.2;omega
  have ae:Hid (R < 4096):=by have:=hd.2.2;have:=aa.out;show _ < _;omega
  obtain ⟨a,ea⟩:∃ a:Int,(R:Int)=a:=⟨_,rfl⟩
  have Ha:Hid (a=aK d R 0):=by show _=_;rw [q_w,ea]
  rw [ea] at E ⊢;clear A hd J ab ez ea;go_enter Tryz.func105,Tryz.ntmps105;go_wp2_with fail
  refine cg.mono ?_;rintro e w9 ⟨rfl,rfl⟩;clear cg;go_wp2_with fail
  refine cz.mono ?_;rintro e H ⟨rfl,rfl⟩;clear cz;go_wp2_with (at_make;refine a_F e_g (by decide) _ rfl (.tmp 22) (.tmp 22) rfl .i64 .i64 n n n rfl rfl rfl rfl (by omega) H.heap.size H (Nat.le_refl _) (Below.refl _ _) ?_;intro w1 HO B0 B1;clear B0)
  rw [<- I.out,<- d_w L,I.out] at HO
  go_loopg [1,7] n (fun gg u v wr=>∃ (k:Nat) (x i:Int),k<=n/\gg=n - k/\u = .int .i64 x/\v = .int .i64 i/\Hid (i=(n:Int) - 1 - (k:Int))/\Hid (x=aK d R k)/\Hid (OwnK .i64 3 wr H.heap.size (.slice (some ⟨H.heap.size,0,none⟩) n n) (e_Y L k))/\Hid (Bw H wr))
  case atStart=>exact ⟨0,a,(n:Int) - 1,by omega,by omega,rfl,by first|rfl|simp,by show _=_;omega,Ha,HO,B1⟩
  case round=>
   obtain ⟨k,x,i,hk,hg,rfl,rfl,Hi,Hx,HR,hB⟩:=hrel;by_cases am:k < n
   ·obtain ⟨j,hj⟩:∃ j,j=n - 1 - k:=⟨_,rfl⟩
    have ag:i=(j:Int):=by have:=Hi.out;omega
    subst ag;have V:j < n:=by omega
    have ah:(j:Int) < (n:Int):=by omega
    have Hj:Hid (j+k+1=n):=by show _=_;omega
    clear hj;obtain ⟨q,o,rfl,O⟩:=(HC.out.up hB.out).2 j V;have ap:=HC.block (by omega);obtain ⟨ai,ao⟩:=HR.cell (by rw [a_I];exact I.out) j V;have hx:=p_W d R k ae.out;rw [<- Hx.out] at hx;rw [a_K] at O;have hy:=HD.out.at j (by rw [Z.out];exact V);have ep:=o_o HD.out R j k aa.out (by rw [Z.out];exact Hj.out);have eq:=q_x d R j k (by rw [Z.out];exact Hj.out);rw [<- Hx.out] at ep eq;obtain ⟨y,ey⟩:∃ y:Int,((d.getD j 0:Nat):Int)=y:=⟨_,rfl⟩
    have av:1<=y/\y<=4096:=by omega
    rw [ey] at O ep eq;obtain ⟨m,em⟩:∃ m,x / y=m:=⟨_,rfl⟩
    obtain ⟨r,er⟩:∃ r,x % y=r:=⟨_,rfl⟩
    rw [er] at ep;rw [em] at eq;have Hm:Hid _:=eq.symm;have hm:0<=m/\m < 4096:=by rw [<- eq];exact p_W d R (k+1) ae.out
    have hr:0<=r/\r < y:=by rw [<- er];exact ⟨Int.emod_nonneg _ (by omega),Int.emod_lt_of_pos _ (by omega)⟩
    have aq:Int.tdiv x y=m:=by rw [Int.tdiv_eq_ediv_of_nonneg hx.1];exact em
    have al:Int.tmod x y=r:=by rw [Int.tmod_eq_emod_of_nonneg hx.1];exact er
    have H2:Hid (OwnK .i64 3 (wr.setCell ⟨H.heap.size,j,none⟩ (.int .i64 r)) H.heap.size (.slice (some ⟨H.heap.size,0,none⟩) n n) (e_Y L (k+1))):=by
     have:=HR.out.store (by rw [a_I];exact I.out) j r;rw [show r=L.getD j 0 by rw [<- HL.out,ep],b_s L j k (by rw [I.out];exact Hj.out)] at this;rw [show r=L.getD j 0 by rw [<- HL.out,ep]];exact this
    have ad:Hid (Bw H (wr.setCell ⟨H.heap.size,j,none⟩ (.int .i64 r))):=hB.setCell (p:=⟨H.heap.size,j,none⟩) (Nat.le_refl _) _
    have af:=a_g ad (show H.cell? ⟨q,o+j,none⟩=some (.int .i64 y) by
     obtain ⟨q',o',e',h'⟩:=HC.2 j V;cases e';rw [h',a_K,ey])
    have au:¬ q=H.heap.size:=by omega
    clear ey hy ep eq;go_wp2;go_roundg (n - (k+1))
    case measure=>omega
    case rel=>exact ⟨k+1,m,(j:Int) - 1,by omega,rfl,by first|rfl|simp [em],by first|rfl|simp,by have:=Hj.out;show _=_;omega,Hm,H2,ad⟩
   ·obtain rfl:k=n:=by omega
    have ak:i < 0:=by have:=Hi.out;omega
    have M:=HR.out;rw [<- I.out,d_x,I.out] at M;have HF:Hid (OwnK .i64 3 wr H.heap.size (.slice (some ⟨H.heap.size,0,none⟩) k k) L/\Bw H wr):=⟨M,hB.out⟩
    clear M;go_wp2;go_ret2;exact ⟨_,rfl,HF.out⟩
 ·have J:g_E l a = []:=if_neg E;rw [J,decide_eq_false E];have ac:=f_O (ntl l);by_cases A:goodN (ntl l)
  ·rw [decide_eq_true A] at cg;rw [ez] at E;clear J ac ez;by_cases ar:a < 0
   ·go_enter Tryz.func105,Tryz.ntmps105;go_wp2_with fail
    refine cg.mono ?_;rintro e w9 ⟨rfl,rfl⟩;clear E;go_wp2;go_ret2;exact ⟨_,rfl,OwnK.nil _ _ _ _,Below.refl _ _⟩
   ·have aa:z<=a:=by omega
    clear E;go_enter Tryz.func105,Tryz.ntmps105;go_wp2_with fail
    refine cg.mono ?_;rintro e w9 ⟨rfl,rfl⟩;go_wp2_with fail
    refine cz.mono ?_;rintro e w8 ⟨rfl,rfl⟩;go_wp2;go_ret2;exact ⟨_,rfl,OwnK.nil _ _ _ _,Below.refl _ _⟩
  ·rw [decide_eq_false A] at cg;clear J ac ez E;go_enter Tryz.func105,Tryz.ntmps105;go_wp2_with fail
   refine cg.mono ?_;rintro e w9 ⟨rfl,rfl⟩;go_wp2;go_ret2;exact ⟨_,rfl,OwnK.nil _ _ _ _,Below.refl _ _⟩
theorem q_D (u v:Value) (a b:List Int) (ha:RI a) (hb:RI b) (w:World) (hu:Nums .i64 w u a) (hv:Nums .i64 w v b):
  Calls Tryz.prog 106 #[u,v] w fun e w'=>e = .returned (.tuple #[.int .i64 (atI a b),.bool (atB a b)])/\∃ n,w'=w.drewN n:=by
 have M:=b_g u a ha w hu;obtain ⟨p,n,c,rfl,L⟩:=hu.lst;obtain ⟨p2,I,c2,rfl,HB⟩:=hv.lst;have am:Hid (RI a):=ha;have ae:Hid (RI b):=hb;clear hu hv ha hb
 have ab:atB a b=false->∀ (x:Int) (y:Bool),x=0->y=false->Ending.returned (.tuple #[.int .i64 x,.bool y])=Ending.returned (.tuple #[.int .i64 (atI a b),.bool (atB a b)]):=by
  intro h x y hx hy;subst hx hy;unfold atI;rw [h];rfl
 have E:Hid (atB a b=false->∀ (x:Int) (y:Bool),x=0->y=false->Ending.returned (.tuple #[.int .i64 x,.bool y])=Ending.returned (.tuple #[.int .i64 (atI a b),.bool (atB a b)])):=ab;clear ab;by_cases A:goodN (ntl a)
 ·rw [decide_eq_true A] at M;have HG:Hid (goodN (ntl a)):=A;have hn:n<=4:=by rw [<- L.1,<- a_O];exact A.1
  have al:(n:Int)<=4:=by omega
  clear A;by_cases ag:I=n
  ·subst ag;go_enter Tryz.func106,Tryz.ntmps106;go_wp2_with fail
   refine M.mono ?_;rintro e w0 ⟨rfl,rfl⟩;clear M;go_wp2_with fail
   go_loopg [6,7] I (fun gg u v wr=>∃ (k d:Nat) (x:Int),k<=I/\gg=I - k/\u = .int .i64 x/\v = .int .i64 (k:Int)/\Hid (x=hK a b k/\∀ i,i < k->0<=b.getD i 0/\b.getD i 0 < a.getD i 0)/\wr=w0.drewN d)
   case atStart=>exact ⟨0,0,0,by omega,by omega,rfl,rfl,⟨rfl,fun i hi=>by omega⟩,rfl⟩
   case round=>
    obtain ⟨k,d,x,hk,hg,rfl,rfl,Z,rfl⟩:=hrel;by_cases J:k < I
    ·have aj:(k:Int) < (I:Int):=by omega
     obtain ⟨q,o,rfl,ca⟩:=L.2 k J;obtain ⟨q2,o2,rfl,cb⟩:=HB.2 k J;have R:k < a.length:=by rw [L.1];exact J
     have V:k < b.length:=by rw [HB.1];exact J
     have hy:=i_X HG.out k R;have hz:=ae.out.at k V;have hl:b.length=a.length:=by rw [L.1,HB.1]
     have hx:=t_t hl k (by omega) Z.2;have hp:=i_W HG.out k;rw [<- Z.1] at hx;have af:0<=x/\x < 4096:=by omega
     obtain ⟨y,ey⟩:∃ y,a.getD k 0=y:=⟨_,rfl⟩
     obtain ⟨z,ez⟩:∃ z,b.getD k 0=z:=⟨_,rfl⟩
     have H:Hid (a.getD k 0=y/\b.getD k 0=z/\k < a.length/\k < b.length/\b.length=a.length):=⟨ey,ez,R,V,hl⟩
     rw [ey] at ca hy;rw [ez] at cb hz;clear ey ez R V hl hx hp;by_cases ad:z < 0
     ·have ah:=decide_eq_true ad
      have O:Hid (atB a b=false):=by
       show _=_;rcases Bool.eq_false_or_eq_true (atB a b) with h|h
       ·unfold atB at h;rw [Bool.and_eq_true] at h;have:=i_Y h.2 k H.2.2.1;rw [H.2.1] at this;omega
       ·exact h
      go_wp2;go_quiet (fail)
      go_wp2;go_ret2;refine ⟨E O.out _ _ rfl rfl,?_⟩;exact ⟨_,f_S _ _ _⟩
     have ah:=decide_eq_false ad;by_cases ak:y<=z
     ·have O:Hid (atB a b=false):=by
       show _=_;rcases Bool.eq_false_or_eq_true (atB a b) with h|h
       ·unfold atB at h;rw [Bool.and_eq_true] at h;have:=i_Y h.2 k H.2.2.1;rw [H.2.1,H.1] at this;omega
       ·exact h
      go_wp2;go_quiet (fail)
      go_wp2;go_ret2;refine ⟨E O.out _ _ rfl rfl,?_⟩;exact ⟨_,f_S _ _ _⟩
     have aa:z < y:=by omega
     have ac:0<=z:=by omega
     obtain ⟨m,em⟩:∃ m,x*y=m:=⟨_,rfl⟩
     have hm:0<=m/\m<=16777216:=by
      rw [<- em];have h1:0<=x*y:=Int.mul_nonneg af.1 (by omega);have h2:x*y<=4096*4096:=Int.mul_le_mul (by omega) hy.2 (by omega) (by omega);omega
     have Hn:Hid (m+z=hK a b (k+1)/\∀ i,i < k+1->0<=b.getD i 0/\b.getD i 0 < a.getD i 0):=by
      refine ⟨?_,fun i hi=>?_⟩
      ·rw [l_N a b k H.2.2.1 H.2.2.2.1 (by rw [H.1];omega) (by rw [H.2.1];omega),H.1,H.2.1,<- Z.1,em]
      ·rcases Nat.lt_succ_iff_lt_or_eq.1 hi with h|rfl
       ·exact Z.2 i h
       ·rw [H.1,H.2.1];exact ⟨ac,aa⟩
     obtain ⟨s,es⟩:∃ s,m+z=s:=⟨_,rfl⟩
     rw [es] at Hn
     iterate 2
      go_wp2;go_quiet (fail)
     go_wp2;go_roundg (I - (k+1))
     case measure=>omega
     case rel=>exact ⟨k+1,_,s,by omega,rfl,by first|rfl|simp [em,es],by first|rfl|simp,Hn,by first|rfl|exact rfl⟩
    ·obtain rfl:k=I:=by omega
     have ht:atB a b=true:=by
      unfold atB;rw [decide_eq_true HG.out,p_X (by rw [L.1,HB.1]) (by rw [L.1];exact Z.2)];rfl
     have Ht:Hid (x=atI a b/\true=atB a b):=by
      refine ⟨?_,ht.symm⟩;unfold atI;rw [if_pos ht,<- q_y (by rw [L.1,HB.1]),L.1];exact Z.1
     clear ht;go_wp2;go_ret2;rw [<- Ht.1,<- Ht.2];exact ⟨rfl,_,rfl⟩
  ·have an:((I:Int) != (n:Int))=true:=by simp;omega
   have ai:¬ ((I:Int)=(n:Int)):=by omega
   have O:Hid (atB a b=false):=by
    show _=_;rcases Bool.eq_false_or_eq_true (atB a b) with h|h
    ·unfold atB at h;rw [Bool.and_eq_true] at h;have:=l_M h.2;rw [L.1,HB.1] at this;omega
    ·exact h
   go_enter Tryz.func106,Tryz.ntmps106;go_wp2_with fail
   refine M.mono ?_;rintro e w0 ⟨rfl,rfl⟩;clear M;go_wp2;go_ret2;exact ⟨E O.out _ _ rfl rfl,0,rfl⟩
 ·rw [decide_eq_false A] at M;have O:Hid (atB a b=false):=by show _=_;unfold atB;rw [decide_eq_false A];rfl
  clear A;go_enter Tryz.func106,Tryz.ntmps106;go_wp2_with fail
  refine M.mono ?_;rintro e w0 ⟨rfl,rfl⟩;clear M;go_wp2;go_ret2;exact ⟨E O.out _ _ rfl rfl,0,rfl⟩
theorem j_O (v:Value) (d:List Nat) (L:goodN d) (k:Nat) (Z:1<=k/\k<=4) (w:World) (J:Nums .i64 w v (itl d)):
  Calls Tryz.prog 207 #[v,.int .i64 (k:Int)] w fun e w'=>e = .returned (.int .i64 ((a_u d k:Nat):Int))/\w'=w:=by
 obtain ⟨p,n,c,rfl,R⟩:=J.lst;have A:d.length=n:=by rw [<- a_p d];exact R.1
 have hn:n<=4:=by rw [<- A];exact L.1
 have ab:(n:Int)<=4:=by omega
 obtain ⟨r,I⟩:∃ r:Int,((a_u d k:Nat):Int)=r:=⟨_,rfl⟩
 by_cases aa:n < k
 ·have H:(n:Int) < (k:Int):=by omega
  rw [c_c d k (by omega)];clear J I A L;go_enter Tryz.func207,Tryz.ntmps207;go_wp2;go_ret;exact ⟨rfl,rfl⟩
 ·have H:(k:Int)<=(n:Int):=by omega
  obtain ⟨j,O⟩:∃ j,j=n - k:=⟨_,rfl⟩
  have ac:(n:Int) - (k:Int)=(j:Int):=by omega
  have V:(j:Int) < (n:Int):=by omega
  have M:=d_y d k Z.1 (by omega);rw [A,<- O,I] at M;obtain ⟨q,o,rfl,E⟩:=R.2 j (by omega);rw [M] at E;rw [I];clear J I A L M O;go_enter Tryz.func207,Tryz.ntmps207;go_wp2;go_ret;exact ⟨rfl,rfl⟩
theorem k_T (x y:Int) (w:World):
  Calls Tryz.prog 206 #[.int .i64 x,.int .i64 y] w fun e M=>e = .returned (.tuple #[.int .i64 (jnd x y),.bool (jok x y)])/\M=w:=by
 by_cases A:x=1
 ·subst A;rw [show jnd 1 y=y from rfl,show jok 1 y=true by unfold jok;exact decide_eq_true (.inl rfl)];go_enter Tryz.func206,Tryz.ntmps206;go_wp2;go_ret2;exact ⟨rfl,rfl⟩
 ·rw [show jnd x y=x from if_neg A];have L:(x==1)=false:=by simp [A]
  by_cases H:y=1
  ·subst H;rw [show jok x 1=true by unfold jok;exact decide_eq_true (.inr (.inl rfl))];go_enter Tryz.func206,Tryz.ntmps206;go_wp2;go_ret2;exact ⟨rfl,rfl⟩
  ·have J:(y==1)=false:=by simp [H]
   have E:jok x y=(x==y):=by
    unfold jok;by_cases h:x=y
    ·rw [decide_eq_true (.inr (.inr h))];simp [h]
    ·rw [decide_eq_false (by rintro (I|I|I) <;> contradiction)];simp [h]
   rw [E];clear E;go_enter Tryz.func206,Tryz.ntmps206;go_wp2;go_ret2;exact ⟨rfl,rfl⟩
theorem e_I {d:List Nat} (h:∀ x,x∈d->x<=4096):RI (itl d):=by
 intro y E;obtain ⟨x,A,rfl⟩:=mem_map.1 E;have:=h x A;omega
theorem i_1 {a b:List Nat} (E:goodN a) (hb:goodN b):RI (itl (joinN a b)):=by
 refine e_I fun x A=>?_;obtain ⟨j,_,rfl⟩:=mem_map.1 A;have H:=c_i E (max a.length b.length - j);have I:=c_i hb (max a.length b.length - j);show max _ _<=4096;omega
theorem i_2 {P:Program} {w:World} (A:Array TypeId) (t:TypeId) (k E:IntKind) (x y:Nat):(Builtin.max_ A t #[.int k (x:Int),.int E (y:Int)]).run P w = .ok (.int k ((max x y:Nat):Int)) w:=by
 rw [run_max_int2]
 congr 2
 split <;> omega
theorem j_P (u v:Value) (a b:List Int) (ha:RI a) (hb:RI b) (w:World) (hu:Nums .i64 w u a) (hv:Nums .i64 w v b):
  Calls Tryz.prog 173 #[u,v] w fun e w'=>∃ v',e = .returned (.tuple #[v',.int .i64 (b_c a b)])/\OwnK .i64 3 w' w.heap.size v' (b_t a b)/\Bw w w':=by
 have ca:=c_I u a ha w hu;have cb:=c_I v b hb w hv;have HU:Hid (Nums .i64 w u a):=hu;have HV:Hid (Nums .i64 w v b):=hv;obtain ⟨p,n,c,rfl,HA⟩:=hu.lst;obtain ⟨p2,n2,c2,rfl,HB⟩:=hv.lst;clear hu hv ha hb;by_cases R:goodN (ntl a)
 ·rw [decide_eq_true R] at ca;by_cases V:goodN (ntl b)
  ·rw [decide_eq_true V] at cb;obtain ⟨a,ha,rfl⟩:=b_u R;obtain ⟨b,hb,rfl⟩:=b_u V;have ab:a.length=n:=by rw [<- a_p a];exact HA.1
   have aa:b.length=n2:=by rw [<- a_p b];exact HB.1
   have ak:n<=4:=by rw [<- ab];exact ha.1
   have am:n2<=4:=by rw [<- aa];exact hb.1
   obtain ⟨m,em⟩:∃ m,max n n2=m:=⟨_,rfl⟩
   have hm:m<=4:=by omega
   have an:(m:Int)<=4:=by omega
   have O:Hid (goodN a/\goodN b/\max a.length b.length=m):=⟨ha,hb,by rw [ab,aa];exact em⟩
   obtain ⟨L,eL⟩:∃ L,itl (joinN a b)=L:=⟨_,rfl⟩
   have HL:Hid (itl (joinN a b)=L/\L.length=m):=⟨eL,by rw [<- eL,a_p,a_4];exact O.2.2⟩
   obtain ⟨X,eX⟩:∃ X,b_t (itl a) (itl b)=X:=⟨_,rfl⟩
   obtain ⟨E,eE⟩:∃ E,b_c (itl a) (itl b)=E:=⟨_,rfl⟩
   have HX:Hid (b_t (itl a) (itl b)=X/\b_c (itl a) (itl b)=E):=⟨eX,eE⟩
   have Hm:Hid (max n n2=m):=em;rw [eX,eE];clear R V ha hb ab aa eL eX eE HA HB;have ac:∀ (ts:Array TypeId) (t:TypeId) (w:World),(Builtin.max_ ts t #[.int .i64 (n:Int),.int .i64 (n2:Int)]).run Tryz.prog w = .ok (.int .i64 (m:Int)) w:=fun ts t w=>by rw [i_2,em]
   clear em;go_enter Tryz.func173,Tryz.ntmps173;go_wp2_with fail
   refine ca.mono ?_;rintro e H ⟨rfl,rfl⟩;clear ca;go_wp2_with fail
   refine cb.mono ?_;rintro e H ⟨rfl,rfl⟩;clear cb;go_wp2_with (at_make;refine a_F e_g (by decide) _ rfl (.tmp 22) (.tmp 22) rfl .i64 .i64 m m m rfl rfl rfl rfl (by omega) H.heap.size H (Nat.le_refl _) (Below.refl _ _) ?_;intro w1 HO B0 B1;clear B0)
   clear ac;rw [<- HL.2,<- d_w L,HL.2] at HO
   go_loopg [7] m (fun gg v wr=>∃ (k:Nat),k<=m/\gg=m - k/\v = .int .i64 ((k:Int)+1)/\Hid (∀ i,1<=i->i<=k->c_0 (a_u a i) (a_u b i))/\Hid (OwnK .i64 3 wr H.heap.size (.slice (some ⟨H.heap.size,0,none⟩) m m) (e_Y L k))/\Hid (Bw H wr))
   case atStart=>exact ⟨0,by omega,by omega,by first|rfl|simp,fun i h1 h2=>by omega,HO,B1⟩
   case round=>
    obtain ⟨k,hk,hg,rfl,Hx,HR,hB⟩:=hrel;by_cases ai:k < m
    ·have ag:(k:Int)+1<=(m:Int):=by omega
     have c1:=j_O _ a O.1 (k+1) ⟨by omega,by omega⟩ wr (HU.out.up hB.out);have c2:=j_O _ b O.2.1 (k+1) ⟨by omega,by omega⟩ wr (HV.out.up hB.out);rw [show ((k+1:Nat):Int)=(k:Int)+1 by omega] at c1 c2;have s1:=c_i O.1 (k+1);have s2:=c_i O.2.1 (k+1);have J:=q_z (a_u a (k+1)) (a_u b (k+1));have M:=q_A (a_u a (k+1)) (a_u b (k+1)) s1.1 s2.1;obtain ⟨x,ex⟩:∃ x:Int,((a_u a (k+1):Nat):Int)=x:=⟨_,rfl⟩
     obtain ⟨y,ey⟩:∃ y:Int,((a_u b (k+1):Nat):Int)=y:=⟨_,rfl⟩
     rw [ex] at c1 J M;rw [ey] at c2 J M;have c3:=fun W=>k_T x y W;obtain ⟨j,hj⟩:∃ j,j=m - 1 - k:=⟨_,rfl⟩
     have ae:j < m:=by omega
     have ah:(m:Int) - ((k:Int)+1)=(j:Int):=by omega
     have al:(j:Int) < (m:Int):=by omega
     have Hj:Hid (j+k+1=m):=by show _=_;omega
     clear hj ex ey s1 s2;by_cases hf:c_0 (a_u a (k+1)) (a_u b (k+1))
     ·rw [decide_eq_true hf] at J;have M:=M hf;rw [J] at c3;obtain ⟨z,ez⟩:∃ z,jnd x y=z:=⟨_,rfl⟩
      rw [ez] at c3 M
      have HZ:Hid (z=L.getD j 0):=by
       show _=_;rw [M,<- HL.1,c_r a b j k (by rw [O.2.2];exact Hj.out)]
      have Hn:Hid (∀ i,1<=i->i<=k+1->c_0 (a_u a i) (a_u b i)):=fun i h1 h2=>by
       rcases Nat.lt_or_ge k i with h|h
       ·rw [show i=k+1 by omega];exact hf
       ·exact Hx.out i h1 h
      obtain ⟨af,aj⟩:=HR.cell (by rw [a_I];exact HL.2) j ae
      have H2:Hid (OwnK .i64 3 (wr.setCell ⟨H.heap.size,j,none⟩ (.int .i64 z)) H.heap.size (.slice (some ⟨H.heap.size,0,none⟩) m m) (e_Y L (k+1))):=by
       have:=HR.out.store (by rw [a_I];exact HL.2) j z;rw [HZ.out,b_s L j k (by rw [HL.2];exact Hj.out)] at this;rw [HZ.out];exact this
      have ad:Hid (Bw H (wr.setCell ⟨H.heap.size,j,none⟩ (.int .i64 z))):=hB.setCell (p:=⟨H.heap.size,j,none⟩) (Nat.le_refl _) _;clear hf J M ez Hx;go_wp2_with fail
      refine c1.mono ?_;rintro e w5 ⟨rfl,rfl⟩;go_wp2_with fail
      refine c2.mono ?_;rintro e w5 ⟨rfl,rfl⟩;go_wp2_with fail
      refine (c3 _).mono ?_;rintro e w5 ⟨rfl,rfl⟩;go_wp2;go_roundg (m - (k+1))
      case measure=>omega
      case rel=>exact ⟨k+1,by omega,rfl,by first|rfl|simp,Hn,H2,ad⟩
     ·rw [decide_eq_false hf] at J;rw [J] at c3;have hX:=e_f O.1 O.2.1 (fun h=>hf (h (k+1) (by omega) (by rw [O.2.2];omega)));rw [HX.1,HX.2] at hX;obtain ⟨rfl,rfl⟩:=hX;clear hf J M Hx;go_wp2_with fail
      refine c1.mono ?_;rintro e w5 ⟨rfl,rfl⟩;go_wp2_with fail
      refine c2.mono ?_;rintro e w5 ⟨rfl,rfl⟩;go_wp2_with fail
      refine (c3 _).mono ?_;rintro e w5 ⟨rfl,rfl⟩;go_wp2;go_ret2;exact ⟨_,rfl,OwnK.nil _ _ _ _,hB.out⟩
    ·obtain rfl:k=m:=by omega
     have I:=HR.out;rw [<- HL.2,d_x,HL.2] at I;have HF:Hid (OwnK .i64 3 wr H.heap.size (.slice (some ⟨H.heap.size,0,none⟩) k k) L/\Bw H wr):=⟨I,hB.out⟩
     have A:b_R a b:=fun i h1 h2=>Hx.out i h1 (by rw [O.2.2] at h2;exact h2);have cg:=c_I _ L (by rw [<- HL.1];exact i_1 O.1 O.2.1) wr I.nums;rw [<- HL.1,a_n] at cg;by_cases Z:goodN (joinN a b)
     ·rw [decide_eq_true Z] at cg;have hX:=c_U O.1 O.2.1 A Z;rw [HX.1,HX.2,HL.1] at hX;obtain ⟨rfl,rfl⟩:=hX;clear I A Z Hx;go_wp2_with fail
      refine cg.mono ?_;rintro e w5 ⟨rfl,rfl⟩;go_wp2;go_ret2;exact ⟨_,rfl,HF.out⟩
     ·rw [decide_eq_false Z] at cg;have hX:=e_Z O.1 O.2.1 A Z;rw [HX.1,HX.2] at hX;obtain ⟨rfl,rfl⟩:=hX;clear I A Z Hx;go_wp2_with fail
      refine cg.mono ?_;rintro e w5 ⟨rfl,rfl⟩;go_wp2;go_ret2;exact ⟨_,rfl,OwnK.nil _ _ _ _,HF.2⟩
  ·rw [decide_eq_false V] at cb;obtain ⟨e1,e2⟩:=e_F (a:=a) (b:=b) fun h=>V h.2;rw [e1,e2];clear e1 e2 R V;go_enter Tryz.func173,Tryz.ntmps173;go_wp2_with fail
   refine ca.mono ?_;rintro e H ⟨rfl,rfl⟩;go_wp2_with fail
   refine cb.mono ?_;rintro e H ⟨rfl,rfl⟩;go_wp2;go_ret2;exact ⟨_,rfl,OwnK.nil _ _ _ _,Below.refl _ _⟩
 ·rw [decide_eq_false R] at ca;obtain ⟨e1,e2⟩:=e_F (a:=a) (b:=b) fun h=>R h.1;rw [e1,e2];clear e1 e2 R;go_enter Tryz.func173,Tryz.ntmps173;go_wp2_with fail
  refine ca.mono ?_;rintro e H ⟨rfl,rfl⟩;go_wp2;go_ret2;exact ⟨_,rfl,OwnK.nil _ _ _ _,Below.refl _ _⟩
theorem a_i {w A:World} {B:Nat} (h:Below B w A) (n:Nat):Below B w (A.drewN n):=h.trans ⟨rfl,rfl,rfl,Nat.le_refl _,fun _ _=>rfl⟩
theorem ret_two {a b:Int} {c d:Bool} (A:a=b) (E:c=d):Ending.returned (.tuple #[.int .i64 a,.bool c]) = .returned (.tuple #[.int .i64 b,.bool d]):=by rw [A,E]
theorem k_U {w A:World} (h:Bw w A) (o:Obj):Bw w (A.alloc o):=h.trans ((a_a A o).mono h.size)
theorem z0:((c_E (ntl []):Nat):Int)=1:=by decide +kernel
theorem g0:decide (goodN (ntl []))=true:=by decide +kernel
/-- An order names each of n places once. -/
def d_8 (n:Nat) (o:List Nat):Prop:=o.length=n/\(∀ x,x∈o->x < n)/\∀ j,j < n->∃ k,k < n/\o.getD k 0=j
/-- The sides in that order. -/
def c_s (d o:List Nat):List Nat:=o.map fun j=>d.getD j 0
theorem b_S (d o:List Nat):(c_s d o).length=o.length:=by simp [c_s]
theorem f_U (d o:List Nat) (k:Nat) (h:k < o.length):(c_s d o).getD k 0=d.getD (o.getD k 0) 0:=by
 rw [a_t _ k 0 (by rw [b_S];exact h),a_t o k 0 h];simp [c_s]
def q_E (o p:List Nat) (n:Nat):Nat->List Nat
 | 0=>replicate n 0
 | k+1=>(q_E o p n k).set (o.getD k 0) (p.getD k 0)
theorem g_9 (o p:List Nat) (n:Nat):∀ k,(q_E o p n k).length=n
 | 0=>by simp [q_E]
 | k+1=>by rw [q_E,length_set,g_9 o p n k]
theorem h_a (l:List Nat) (j i x:Nat) (h:i < l.length):(l.set j x).getD i 0=if j=i then x else l.getD i 0:=by
 rw [getD_eq_getElem?_getD,getElem?_set,getD_eq_getElem?_getD];by_cases e:j=i
 ·subst e;rw [if_pos rfl,if_pos rfl,if_pos h];rfl
 ·rw [if_neg e,if_neg e]
theorem f_V {n:Nat} {o:List Nat} (h:d_8 n o):∀ i k,i < n->k < n->o.getD i 0=o.getD k 0->i=k:=by
 -- as many names as places: none is named twice
 have ab:∀ (m:Nat) (f:Nat->Nat),(∀ j,j < m->∃ k,k < m/\f k=j)->(∀ k,k < m->f k < m)->∀ i k,i < m->k < m->f i=f k->i=k:=by
  intro m
  induction m with
  | zero=>intro f _ _ i k hi;omega
  | succ m ih=>
   intro f R hb i k hi M e
   -- the place that is named m is changed with the last one
   obtain ⟨t,ht,ft⟩:=R m (by omega)
   let g:Nat->Nat:=fun x=>if x=t then f m else f x
   have ah:∀ x,x < m->g x < m∨(g x=m/\False)∨g x=m:=by
    intro x O;by_cases E:x=t
    ·have:g x=f m:=if_pos E;have:=hb m (by omega);omega
    ·have:g x=f x:=if_neg E;have:=hb x (by omega);omega
   by_cases hu:∃ x,x < m+1/\x≠t/\f x=m
   ·-- m is named twice: then one below m is not named at all
    exfalso;obtain ⟨x,O,E,fx⟩:=hu
    -- strike x: g' over the others still reaches all
    let s:Nat->Nat:=fun y=>if y < x then f y else f (y+1)
    have:∀ j,j < m->∃ k,k < m/\s k=j:=by
     intro j hj;obtain ⟨k,M,Z⟩:=R j (by omega)
     have ai:k≠x:=by
      intro e;subst e;omega
     by_cases H:k < x
     ·exact ⟨k,by omega,by show (if k < x then f k else f (k+1))=j;rw [if_pos H];exact Z⟩
     ·exact ⟨k - 1,by omega,by show (if k - 1 < x then f (k - 1) else f (k - 1+1))=j;rw [if_neg (by omega),show k - 1+1=k by omega];exact Z⟩
    -- t is left among them and is named m: so m numbers are reached by m - 1 places
    have ad:∀ (m:Nat) (s:Nat->Nat),(∀ j,j < m->∃ k,k < m/\s k=j)->∀ y,y < m->s y < m:=by
     intro m
     induction m with
     | zero=>intro s _ y hy;omega
     | succ m ih=>
      intro s R y hy;rcases Nat.lt_or_ge (s y) (m+1) with h|h
      ·exact h
      ·exfalso;obtain ⟨t,ht,st⟩:=R m (by omega);have aj:t≠y:=by intro e;subst e;omega
       -- strike t: the others reach all below m;y is among them
       have L:=ih (fun z=>if z < t then s z else s (z+1)) (by
        intro j hj;obtain ⟨k,M,sk⟩:=R j (by omega);have A:k≠t:=by intro e;subst e;omega
        by_cases H:k < t
        ·exact ⟨k,by omega,by show (if k < t then s k else s (k+1))=j;rw [if_pos H];exact sk⟩
        ·exact ⟨k - 1,by omega,by show (if k - 1 < t then s (k - 1) else s (k - 1+1))=j;rw [if_neg (by omega),show k - 1+1=k by omega];exact sk⟩)
       by_cases H:y < t
       ·have:=L y (by omega);rw [if_pos H] at this;omega
       ·have:=L (y - 1) (by omega);rw [if_neg (by omega),show y - 1+1=y by omega] at this;omega
    have h3:=ad m s this;by_cases H:t < x
    ·have:=h3 t (by omega);have e2:s t=f t:=if_pos H;omega
    ·have:=h3 (t - 1) (by omega);have e2:s (t - 1)=f (t - 1+1):=if_neg (by omega);rw [show t - 1+1=t by omega] at e2;omega
   ·have I:∀ x,x < m+1->x≠t->f x < m:=fun x O E=>by
     have h1:=hb x O;have L:f x≠m:=fun e=>hu ⟨x,O,E,e⟩;omega
    have ae:∀ j,j < m->∃ k,k < m/\g k=j:=by
     intro j hj;obtain ⟨k,M,Z⟩:=R j (by omega);have A:k≠t:=by intro e;subst e;omega
     by_cases ag:k=m
     ·subst ag;exact ⟨t,by omega,by show (if t=t then f k else f t)=j;rw [if_pos rfl];exact Z⟩
     ·exact ⟨k,by omega,by show (if k=t then f m else f k)=j;rw [if_neg A];exact Z⟩
    have ac:∀ k,k < m->g k < m:=by
     intro k M;show (if k=t then f m else f k) < m;by_cases A:k=t
     ·rw [if_pos A];subst A;exact I m (by omega) (by omega)
     ·rw [if_neg A];exact I k (by omega) A
    have af:=ih g ae ac
    -- back to f
    have V:∀ x,x < m+1->x≠t->∃ y,y < m/\g y=f x/\(y=if x=m then t else x):=by
     intro x O E;by_cases aa:x=m
     ·subst aa;exact ⟨t,by omega,by show (if t=t then f x else f t)=f x;rw [if_pos rfl],by rw [if_pos rfl]⟩
     ·exact ⟨x,by omega,by show (if x=t then f m else f x)=f x;rw [if_neg E],by rw [if_neg aa]⟩
    by_cases J:i=t
    ·by_cases A:k=t
     ·rw [J,A]
     ·have:=I k M A;rw [J,ft] at e;omega
    ·by_cases A:k=t
     ·have:=I i hi J;rw [A,ft] at e;omega
     ·obtain ⟨y,hy,gy,ey⟩:=V i hi J;obtain ⟨z,hz,gz,ez⟩:=V k M A;have:=af y z hy hz (by rw [gy,gz];exact e);subst this;rw [ey] at ez;by_cases h1:i=m
      ·by_cases L:k=m
       ·omega
       ·rw [if_pos h1,if_neg L] at ez;omega
      ·by_cases L:k=m
       ·rw [if_neg h1,if_pos L] at ez;omega
       ·rw [if_neg h1,if_neg L] at ez;exact ez
 intro i k hi M e
 exact ab n (fun x=>o.getD x 0) h.2.2 (fun x O=>by
  show o.getD x 0 < n;rw [a_t o x 0 (by rw [h.1];exact O)];exact h.2.1 _ (getElem_mem _)) i k hi M e
/-- As many places, none named twice: each is named. -/
theorem h_b:∀ (m:Nat) (f:Nat->Nat),(∀ k,k < m->f k < m)->(∀ i k,i < m->k < m->f i=f k->i=k)->∀ j,j < m->∃ k,k < m/\f k=j:=by
 intro m
 induction m with
 | zero=>intro f _ _ j hj;omega
 | succ m ih=>
  intro f hb E j hj
  have hm:∃ k,k < m+1/\f k=m:=by
   rcases Nat.lt_or_ge (f m) m with R|R
   ·-- else the first m would be named by the first m alone
    by_cases I:∃ k,k < m+1/\f k=m
    ·exact I
    ·exfalso
     obtain ⟨k,M,e⟩:=ih f (fun k M=>by
      have V:=hb k (by omega);have Z:f k≠m:=fun e=>I ⟨k,by omega,e⟩;omega) (fun i k O J e=>E i k (by omega) (by omega) e) (f m) R
     have:=E k m (by omega) (by omega) e;omega
   ·exact ⟨m,by omega,by have:=hb m (by omega);omega⟩
  obtain ⟨t,L,ft⟩:=hm;by_cases aa:j=m
  ·exact ⟨t,L,by omega⟩
  ·have hg:=ih (fun k=>if k=t then f m else f k) (fun k M=>by
    show (if k=t then f m else f k) < m;by_cases A:k=t
    ·rw [if_pos A];have V:=hb m (by omega)
     have Z:f m≠m:=fun e=>by
      have:=E m t (by omega) L (by omega);omega
     omega
    ·rw [if_neg A];have V:=hb k (by omega);have Z:f k≠m:=fun e=>A (E k t (by omega) L (by omega));omega) (fun i k O J e=>by
    have e:(if i=t then f m else f i)=(if k=t then f m else f k):=e;by_cases H:i=t
    ·by_cases A:k=t
     ·omega
     ·rw [if_pos H,if_neg A] at e;have:=E m k (by omega) (by omega) e;omega
    ·by_cases A:k=t
     ·rw [if_neg H,if_pos A] at e;have:=E i m (by omega) (by omega) e;omega
     ·rw [if_neg H,if_neg A] at e;exact E i k (by omega) (by omega) e) j (by omega)
   obtain ⟨k,M,e⟩:=hg;have e:(if k=t then f m else f k)=j:=e;by_cases A:k=t
   ·rw [if_pos A] at e;exact ⟨m,by omega,e⟩
   ·rw [if_neg A] at e;exact ⟨k,by omega,e⟩
theorem o_r {n:Nat} {o:List Nat} (I:o.length=n) (hb:∀ k,k < n->o.getD k 0 < n) (E:∀ i k,i < n->k < n->o.getD i 0=o.getD k 0->i=k):d_8 n o:=by
 refine ⟨I,fun x A=>?_,h_b n (fun k=>o.getD k 0) hb E⟩;obtain ⟨k,H,rfl⟩:=mem_iff_getElem.1 A;have:=hb k (by omega);rw [a_t o k 0 H] at this;exact this
theorem l_W {n:Nat} {o:List Nat} (h:d_8 n o) (p:List Nat):∀ k,k<=n->∀ i,i < k->(q_E o p n k).getD (o.getD i 0) 0=p.getD i 0
 | 0,_,i,hi=>by omega
 | k+1,hk,i,hi=>by
  have A:∀ x,x < n->o.getD x 0 < n:=fun x E=>by
   rw [a_t o x 0 (by rw [h.1];exact E)];exact h.2.1 _ (getElem_mem _)
  rw [q_E,h_a _ _ _ _ (by rw [g_9];exact A i (by omega))];by_cases e:o.getD k 0=o.getD i 0
  ·rw [if_pos e,f_V h k i (by omega) (by omega) e]
  ·rw [if_neg e]
   exact l_W h p k (by omega) i (by
    have:i≠k:=fun H=>e (by rw [H]);omega)
def unp (o p:List Nat) (n:Nat):List Nat:=q_E o p n n
theorem l_X (o p:List Nat) (n:Nat):(unp o p n).length=n:=g_9 o p n n
theorem p_Z {n:Nat} {o:List Nat} (h:d_8 n o) (p:List Nat) (i:Nat) (A:i < n):(unp o p n).getD (o.getD i 0) 0=p.getD i 0:=l_W h p n (Nat.le_refl _) i A
theorem k_V {d o p:List Nat} (h:d_8 d.length o) (hp:b_F (c_s d o) p):b_F d (unp o p d.length):=by
 refine f_I (l_X _ _ _) fun j x y J L=>?_;have M:j < d.length:=(List.getElem?_eq_some_iff.1 J).1;obtain ⟨k,A,e⟩:=h.2.2 j M;have H:=p_Z h p k A;rw [e,getD_eq_getElem?_getD,L] at H;have I:=f_U d o k (by rw [h.1];exact A);rw [e,getD_eq_getElem?_getD (l:=d),J] at I;have E:p.length=o.length:=by rw [d_M hp,b_S]
 have O:=d_N hp k ((c_s d o).getD k 0) (p.getD k 0) (by rw [getElem?_eq_getElem (by rw [b_S,h.1];exact A),a_t _ k 0 (by rw [b_S,h.1];exact A)]) (by rw [getElem?_eq_getElem (by rw [E,h.1];exact A),a_t _ k 0 (by rw [E,h.1];exact A)]);have H:y=p.getD k 0:=H;have I:(c_s d o).getD k 0=x:=I;omega
/-- The product of m numbers, place by place. -/
def c_4 (f:Nat->Nat):Nat->Nat
 | 0=>1
 | m+1=>c_4 f m*f m
theorem c_t {f g:Nat->Nat}:∀ m,(∀ k,k < m->f k=g k)->c_4 f m=c_4 g m
 | 0,_=>rfl
 | m+1,h=>by rw [c_4,c_4,c_t m fun k A=>h k (by omega),h m (by omega)]
theorem h_Y (f:Nat->Nat) (t x:Nat):∀ m,t < m->c_4 f m*x=c_4 (fun k=>if k=t then x else f k) m*f t
 | 0,h=>by omega
 | m+1,h=>by
  rw [c_4,c_4];by_cases e:t=m
  ·subst e;rw [if_pos rfl,c_t (g:=fun k=>if k=t then x else f k) t fun k A=>by rw [if_neg (by omega)]];rw [Nat.mul_assoc,Nat.mul_assoc,Nat.mul_comm (f t)]
  ·rw [if_neg (by omega),Nat.mul_assoc,Nat.mul_comm (f m),<- Nat.mul_assoc,h_Y f t x m (by omega),Nat.mul_assoc,Nat.mul_assoc,Nat.mul_comm (f t)]
theorem k_W (d:Nat->Nat):∀ (m:Nat) (f:Nat->Nat),(∀ k,k < m->f k < m)->(∀ i k,i < m->k < m->f i=f k->i=k)->c_4 (fun k=>d (f k)) m=c_4 d m:=by
 intro m
 induction m with
 | zero=>intro f _ _;rfl
 | succ m ih=>
  intro f hb I;obtain ⟨t,ht,V⟩:=h_b (m+1) f hb I m (by omega)
  have E:∀ k,k < m+1->k≠t->f k < m:=fun k J A=>by
   have R:=hb k J;have Z:f k≠m:=fun e=>A (I k t J ht (by omega));omega
  by_cases O:t=m
  ·subst O;rw [c_4,c_4,V,ih f (fun k J=>E k (by omega) (by omega)) fun i k M L e=>I i k (by omega) (by omega) e]
  ·have R:=h_Y (fun k=>d (f k)) t (d (f m)) m (by omega);rw [c_4,c_4,R];show c_4 (fun k=>if k=t then d (f m) else d (f k)) m*d (f t)=c_4 d m*d m;rw [V]
   congr 1
   have Z:=ih (fun k=>if k=t then f m else f k) (fun k J=>by
    show (if k=t then f m else f k) < m;by_cases A:k=t
    ·rw [if_pos A];exact E m (by omega) (by omega)
    ·rw [if_neg A];exact E k (by omega) A) (fun i k M L e=>by
    have e:(if i=t then f m else f i)=(if k=t then f m else f k):=e;by_cases H:i=t
    ·by_cases A:k=t
     ·omega
     ·rw [if_pos H,if_neg A] at e;have:=I m k (by omega) (by omega) e;omega
    ·by_cases A:k=t
     ·rw [if_neg H,if_pos A] at e;have:=I i m (by omega) (by omega) e;omega
     ·rw [if_neg H,if_neg A] at e;exact I i k (by omega) (by omega) e)
   rw [<- Z]
   exact c_t m fun k J=>by
    by_cases A:k=t
    ·rw [if_pos A,if_pos A]
    ·rw [if_neg A,if_neg A]
theorem l_Y:∀ (m:Nat) (d:List Nat),d.length=m->a_f d=c_4 (fun k=>d.getD k 0) m:=by
 intro m
 induction m with
 | zero=>
  intro d h;have:d = []:=eq_nil_of_length_eq_zero h;subst this;rfl
 | succ m ih=>
  intro d h
  have e:d=d.take m++[d.getD m 0]:=by
   have E:=take_succ_eq_append_getElem (l:=d) (i:=m) (by omega);have J:d.take (m+1)=d:=take_of_length_le (by omega);rw [J] at E;rw [a_t d m 0 (by omega)];exact E
  have I:a_f d=a_f (d.take m)*d.getD m 0:=by
   have A:=congrArg a_f e;rw [a_M] at A;rw [A];simp [a_f]
  rw [I,c_4,ih (d.take m) (by simp;omega)]
  congr 1
  refine c_t m fun k H=>?_;rw [getD_eq_getElem?_getD,getElem?_take_of_lt H,getD_eq_getElem?_getD]
/-- The sides in another order come to as many numbers. -/
theorem d_R {d o:List Nat} (h:d_8 d.length o):a_f (c_s d o)=a_f d:=by
 have A:∀ x,x < d.length->o.getD x 0 < d.length:=fun x E=>by
  rw [a_t o x 0 (by rw [h.1];exact E)];exact h.2.1 _ (getElem_mem _)
 rw [l_Y d.length (c_s d o) (by rw [b_S,h.1]),l_Y d.length d rfl,<- k_W (fun k=>d.getD k 0) d.length (fun k=>o.getD k 0) A (f_V h)];exact c_t _ fun k H=>f_U d o k (by rw [h.1];exact H)
theorem f_W {d o:List Nat} (A:goodN d) (h:d_8 d.length o):goodN (c_s d o):=by
 refine ⟨by rw [b_S,h.1];exact A.1,fun x E=>?_,by rw [d_R h];exact A.2.2⟩;obtain ⟨j,H,rfl⟩:=mem_map.1 E;have:=h.2.1 j H;exact (A.at j this).1
/-- Where the turned tensor's i-th number stood. -/
def f_X (d o:List Nat) (i:Nat):Nat:=c_b d (unp o (a_G (c_s d o) i) d.length)
theorem o_s {d o:List Nat} (E:goodN d) (h:d_8 d.length o) (i:Nat) (A:i < a_f d):f_X d o i < a_f d:=
 i_T (k_V h (d_u _ i (f_W E h).2.1 (by rw [d_R h];exact A)))
theorem l_Z (d:List Nat):b_R d d/\joinN d d=d:=by
 constructor
 ·intro i _ _;exact .inl rfl
 ·refine g_7 (by rw [a_4,Nat.max_self]) fun i A _=>?_;rw [b_r _ _ _ A,Nat.max_self]
theorem h_c {α:Type} (l:List α) (k:Nat) (d:α) (h:l.length<=k):l.getD k d=d:=by
 rw [getD_eq_getElem?_getD,getElem?_eq_none h];rfl
theorem k_X {α:Type} (a b:List α) (k:Nat) (d:α) (h:k < a.length):(a++b).getD k d=a.getD k d:=by
 rw [getD_eq_getElem?_getD,getElem?_append_left h,getD_eq_getElem?_getD]
theorem k_Y {α:Type} (a b:List α) (k:Nat) (d:α) (h:a.length<=k):(a++b).getD k d=b.getD (k - a.length) d:=by
 rw [getD_eq_getElem?_getD,getElem?_append_right h,getD_eq_getElem?_getD]
theorem a_J {α:Type} (f:Nat->α) (n k:Nat) (d:α) (h:k < n):((range n).map f).getD k d=f k:=by
 rw [getD_eq_getElem?_getD,getElem?_map,getElem?_range h];rfl
/-- A row in the making, from its beginning on. -/
def b_l (L:List Int) (k:Nat):List Int:=L.take k++replicate (L.length - k) 0
theorem a_y (L:List Int) (k:Nat):(b_l L k).length=L.length:=by
 unfold b_l;rw [length_append,length_take,length_replicate];omega
theorem a_W (L:List Int):b_l L 0=replicate L.length 0:=by simp [b_l]
theorem a_0 (L:List Int):b_l L L.length=L:=by simp [b_l]
theorem a_9 (L:List Int) (k:Nat) (h:k < L.length):(b_l L k).set k (L.getD k 0)=b_l L (k+1):=by
 unfold b_l;refine ext_getElem (by simp;omega) fun i E H=>?_;rw [getElem_set];by_cases e:k=i
 ·subst e;rw [if_pos rfl,getElem_append_left (by simp;omega),getElem_take,a_t L k 0 h]
 ·rw [if_neg e];by_cases A:i < k
  ·rw [getElem_append_left (by simp;omega),getElem_append_left (by simp;omega),getElem_take,getElem_take]
  ·rw [getElem_append_right (by simp;omega),getElem_append_right (by simp;omega),getElem_replicate,getElem_replicate]
/-- The row behind k sides. -/
def h_M (d s:List Nat):Nat->List Nat
 | 0=>[0]
 | k+1=>(h_M d s k).flatMap fun a=>(range (d.getD k 0)).map fun n=>a+n*s.getD k 0
theorem h_d (m:Nat) (g:Nat->Nat->Nat):∀ l:List Nat,(l.flatMap fun a=>(range m).map (g a)).length=l.length*m
 | []=>by simp
 | a :: l=>by rw [flatMap_cons,length_append,h_d m g l];simp [Nat.add_mul,Nat.add_comm]
theorem j_Q (m:Nat) (E:0 < m) (g:Nat->Nat->Nat):∀ (l:List Nat) (i:Nat),i < l.length*m->(l.flatMap fun a=>(range m).map (g a)).getD i 0=g (l.getD (i / m) 0) (i % m)
 | [],i,h=>by simp at h
 | a :: l,i,h=>by
  rw [flatMap_cons];by_cases A:i < m
  ·rw [k_X _ _ _ _ (by simp;exact A),a_J _ _ _ _ A,div_eq_of_lt A,mod_eq_of_lt A];rfl
  ·rw [k_Y _ _ _ _ (by simp;omega)];have J:((range m).map (g a)).length=m:=by simp
   rw [J,j_Q m E g l (i - m) (by rw [length_cons,Nat.add_mul] at h;omega)]
   have H:i / m=(i - m) / m+1:=by
    rw [div_eq_sub_div E (by omega)]
   have I:i % m=(i - m) % m:=mod_eq_sub_mod (by omega);rw [H,I];rfl
theorem f_y (d s:List Nat):∀ k,k<=d.length->(h_M d s k).length=a_f (d.take k)
 | 0,_=>by simp [h_M,a_f]
 | k+1,h=>by
  rw [h_M,h_d,f_y d s k (by omega),b_p d k (by omega),a_t d k 0 (by omega)]
theorem l_0 {d s:List Nat} (E:∀ x,x∈d->1<=x) (a:Nat) (H:a < a_f d):∀ k,k<=d.length->(h_M d s k).getD (a / a_f (d.drop k)) 0=h_L (a_G d a) s k
 | 0,_=>by
  rw [drop_zero,div_eq_of_lt H];rfl
 | k+1,h=>by
  have hp:0 < a_f (d.drop (k+1)):=a_X fun x M=>E x (mem_of_mem_drop M)
  have O:0 < d.getD k 0:=by
   rw [a_t d k 0 (by omega)];exact E _ (getElem_mem _)
  have L:a / a_f (d.drop (k+1)) < a_f (d.take (k+1)):=by
   refine (div_lt_iff_lt_mul hp).2 ?_;rw [<- a_M,take_append_drop];exact H
  have A:=f_y d s k (by omega);rw [h_M,j_Q _ O _ _ _ (by rw [A,a_t d k 0 (by omega),<- b_p d k (by omega)];exact L)];have J:=j_I d a k (by omega);have R:=d_O d a k E H (by omega)
  have I:(a_G d a).getD k 0=a / a_f (d.drop (k+1)) % d.getD k 0:=by
   rw [getD_eq_getElem?_getD,R,a_t d k 0 (by omega)];rfl
  rw [h_L,<- l_0 E a H k (by omega),I];rw [a_t d k 0 (by omega)];rw [J]
/-- The whole row. -/
def f_Y (d s:List Nat):List Nat:=h_M d s d.length
theorem h_Z (d s:List Nat):(f_Y d s).length=a_f d:=by
 unfold f_Y;rw [f_y d s _ (Nat.le_refl _),take_of_length_le (Nat.le_refl _)]
theorem j_R {d s:List Nat} (A:∀ x,x∈d->1<=x) (a:Nat) (E:a < a_f d):(f_Y d s).getD a 0=h_L (a_G d a) s d.length:=by
 have:=l_0 (s:=s) A a E d.length (Nat.le_refl _);rw [drop_of_length_le (Nat.le_refl _)] at this;simp only [a_f,Nat.div_one] at this;exact this
theorem g_I (p s q t:List Nat) (m:Nat) (A:∀ j,j < m->p.getD j 0*s.getD j 0=0):∀ n,(∀ j,j < n->p.getD (m+j) 0*s.getD (m+j) 0=q.getD j 0*t.getD j 0)->h_L p s (m+n)=h_L q t n
 | 0,_=>by
  rw [Nat.add_zero]
  have:∀ k,k<=m->h_L p s k=0:=by
   intro k
   induction k with
   | zero=>intro _;rfl
   | succ k ih=>intro h;rw [h_L,ih (by omega),A k (by omega)]
  exact this m (Nat.le_refl _)
 | n+1,h=>by
  rw [<- Nat.add_assoc,h_L,h_L,g_I p s q t m A n fun j E=>h j (by omega),h n (by omega)]
/-- The steps of a shape that is spread, after k of its sides. -/
def c_j (d:List Nat) (n:Nat):Nat->List Nat
 | 0=>replicate n 0
 | k+1=>if 1 < d.getD k 0 then (c_j d n k).set (n - d.length+k) ((a_C d).getD k 0) else c_j d n k
theorem c_u (d:List Nat) (n:Nat):∀ k,(c_j d n k).length=n
 | 0=>by simp [c_j]
 | k+1=>by
  rw [c_j]
  split
  ·rw [length_set,c_u d n k]
  ·exact c_u d n k
theorem e_h (d:List Nat) (n:Nat) (h:d.length<=n) (j:Nat) (A:j < n - d.length):∀ k,(c_j d n k).getD j 0=0
 | 0=>by
  rw [c_j,a_t _ _ _ (by simp;omega)];simp
 | k+1=>by
  rw [c_j]
  split
  ·rw [h_a _ _ _ _ (by rw [c_u];omega),if_neg (by omega)];exact e_h d n h j A k
  ·exact e_h d n h j A k
theorem h_e (d:List Nat) (n:Nat) (h:d.length<=n) (i:Nat) (I:i < d.length):∀ k,k<=d.length->(c_j d n k).getD (n - d.length+i) 0=if i < k/\1 < d.getD i 0 then (a_C d).getD i 0 else 0
 | 0,_=>by
  rw [c_j,a_t _ _ _ (by simp;omega),if_neg (by omega)];simp
 | k+1,hk=>by
  rw [c_j]
  split
  ·rename_i H
   rw [h_a _ _ _ _ (by rw [c_u];omega)];by_cases e:k=i
   ·subst e;rw [if_pos rfl,if_pos ⟨by omega,H⟩]
   ·rw [if_neg (by omega),h_e d n h i I k (by omega)];by_cases E:i < k
    ·by_cases A:1 < d.getD i 0
     ·rw [if_pos ⟨E,A⟩,if_pos ⟨by omega,A⟩]
     ·rw [if_neg (fun h=>A h.2),if_neg (fun h=>A h.2)]
    ·rw [if_neg (fun h=>E h.1),if_neg (fun h=>by omega)]
  ·rename_i H
   rw [h_e d n h i I k (by omega)];by_cases A:1 < d.getD i 0
   ·by_cases E:i < k
    ·rw [if_pos ⟨E,A⟩,if_pos ⟨by omega,A⟩]
    ·rw [if_neg (fun h=>E h.1),if_neg (fun h=>by
      have:i=k:=by omega
      subst this;exact H A)]
   ·rw [if_neg (fun h=>A h.2),if_neg (fun h=>A h.2)]
def j_S (d:List Nat) (n:Nat):List Nat:=c_j d n d.length
theorem e_0 {d:List Nat} (h:goodN d) (k:Nat):(a_C d).getD k 0<=4096:=by
 rcases Nat.lt_or_ge k d.length with A|A
 ·rw [getD_eq_getElem?_getD,d_t d k A];exact Nat.le_trans (e_B h.2.1 (k+1)) h.2.2
 ·rw [h_c _ _ _ (by rw [c_a];exact A)];omega
theorem h_f {d:List Nat} (A:goodN d) (n:Nat):∀ k x,x∈c_j d n k->x<=4096
 | 0,x,hx=>by
  have:=eq_of_mem_replicate hx;omega
 | k+1,x,hx=>by
  rw [c_j] at hx
  split at hx
  ·rcases mem_or_eq_of_mem_set hx with h|h
   ·exact h_f A n k x h
   ·rw [h];exact e_0 A k
  ·exact h_f A n k x hx
/-- Which number is spread to each place, in order. -/
def c_v (d big:List Nat):List Nat:=f_Y big (j_S d big.length)
theorem h_0 {d big:List Nat} (L:goodN d) (hb:goodN big) (hf:b_R d big) (A:joinN d big=big) (a:Nat) (M:a < a_f big):(c_v d big).getD a 0=c_d d big a:=by
 have E:=d_z A;unfold c_v;rw [j_R hb.2.1 a M]
 have e:=g_I (a_G big a) (j_S d big.length) (qN d big a) (a_C d) (big.length - d.length) (fun j A=>by unfold j_S;rw [e_h d _ E j A,Nat.mul_zero]) d.length (fun j A=>by
  unfold j_S;rw [h_e d _ E j A _ (Nat.le_refl _)];have H:=l_S (big:=big) E a j A;have I:=L.at j A;rw [a_K] at H;by_cases J:1 < d.getD j 0
  ·rw [if_pos ⟨A,J⟩];rw [if_neg (by omega)] at H;have:(qN d big a).getD j 0=(a_G big a).getD (big.length - d.length+j) 0:=by omega
   rw [this]
  ·rw [if_neg (fun h=>J h.2),Nat.mul_zero];rw [if_pos (by omega)] at H;have:(qN d big a).getD j 0=0:=by omega
   rw [this,Nat.zero_mul])
 rw [show big.length - d.length+d.length=big.length by omega] at e;rw [e,d_v d _ (l_Q d big a E)];rfl
theorem f_Z (d big:List Nat):(c_v d big).length=a_f big:=h_Z _ _
/-- The sum of m numbers, place by place. -/
def h_g (f:Nat->Nat):Nat->Nat
 | 0=>0
 | m+1=>h_g f m+f m
theorem d_S {f g:Nat->Nat}:∀ m,(∀ k,k < m->f k=g k)->h_g f m=h_g g m
 | 0,_=>rfl
 | m+1,h=>by rw [h_g,h_g,d_S m fun k A=>h k (by omega),h m (by omega)]
theorem j_T (f:Nat->Nat) (t x:Nat):∀ m,t < m->h_g f m+x=h_g (fun k=>if k=t then x else f k) m+f t
 | 0,h=>by omega
 | m+1,h=>by
  rw [h_g,h_g];by_cases e:t=m
  ·subst e;rw [if_pos rfl,d_S (g:=fun k=>if k=t then x else f k) t fun k A=>by rw [if_neg (by omega)]];omega
  ·rw [if_neg (by omega)];have:=j_T f t x m (by omega);omega
theorem l_1 (d:Nat->Nat):∀ (m:Nat) (f:Nat->Nat),(∀ k,k < m->f k < m)->(∀ i k,i < m->k < m->f i=f k->i=k)->h_g (fun k=>d (f k)) m=h_g d m:=by
 intro m
 induction m with
 | zero=>intro f _ _;rfl
 | succ m ih=>
  intro f hb I;obtain ⟨t,ht,V⟩:=h_b (m+1) f hb I m (by omega)
  have E:∀ k,k < m+1->k≠t->f k < m:=fun k J A=>by
   have R:=hb k J;have Z:f k≠m:=fun e=>A (I k t J ht (by omega));omega
  by_cases O:t=m
  ·subst O;rw [h_g,h_g,V,ih f (fun k J=>E k (by omega) (by omega)) fun i k M L e=>I i k (by omega) (by omega) e]
  ·have R:=j_T (fun k=>d (f k)) t (d (f m)) m (by omega);rw [h_g,h_g,R];show h_g (fun k=>if k=t then d (f m) else d (f k)) m+d (f t)=h_g d m+d m;rw [V]
   congr 1
   have Z:=ih (fun k=>if k=t then f m else f k) (fun k J=>by
    show (if k=t then f m else f k) < m;by_cases A:k=t
    ·rw [if_pos A];exact E m (by omega) (by omega)
    ·rw [if_neg A];exact E k (by omega) A) (fun i k M L e=>by
    have e:(if i=t then f m else f i)=(if k=t then f m else f k):=e;by_cases H:i=t
    ·by_cases A:k=t
     ·omega
     ·rw [if_pos H,if_neg A] at e;have:=I m k (by omega) (by omega) e;omega
    ·by_cases A:k=t
     ·rw [if_neg H,if_pos A] at e;have:=I i m (by omega) (by omega) e;omega
     ·rw [if_neg H,if_neg A] at e;exact I i k (by omega) (by omega) e)
   rw [<- Z]
   exact d_S m fun k J=>by
    by_cases A:k=t
    ·rw [if_pos A,if_pos A]
    ·rw [if_neg A,if_neg A]
theorem h_h (p s:List Nat):∀ m,h_L p s m=h_g (fun k=>p.getD k 0*s.getD k 0) m
 | 0=>rfl
 | m+1=>by rw [h_L,h_g,h_h p s m]
/-- The steps along the turned sides. -/
def g_u (d o:List Nat):List Nat:=o.map fun j=>(a_C d).getD j 0
theorem f_0 (d o:List Nat):(g_u d o).length=o.length:=by simp [g_u]
theorem h_1 (d o:List Nat) (k:Nat) (h:k < o.length):(g_u d o).getD k 0=(a_C d).getD (o.getD k 0) 0:=by
 rw [a_t _ k 0 (by rw [f_0];exact h),a_t o k 0 h];simp [g_u]
theorem o_t {d:List Nat} (E:goodN d) (o:List Nat):∀ x,x∈g_u d o->x<=4096:=by
 intro x A;obtain ⟨j,_,rfl⟩:=mem_map.1 A;exact e_0 E j
theorem l_2 {d o:List Nat} (I:goodN d) (h:d_8 d.length o) (a:Nat) (M:a < a_f d):(f_Y (c_s d o) (g_u d o)).getD a 0=f_X d o a:=by
 have L:=f_W I h;have J:(c_s d o).length=d.length:=by rw [b_S,h.1]
 rw [j_R L.2.1 a (by rw [d_R h];exact M),J];unfold f_X;rw [<- d_v d (unp o (a_G (c_s d o) a) d.length) (l_X _ _ _),h_h,h_h]
 have A:∀ x,x < d.length->o.getD x 0 < d.length:=fun x H=>by
  rw [a_t o x 0 (by rw [h.1];exact H)];exact h.2.1 _ (getElem_mem _)
 rw [<- l_1 (fun k=>(unp o (a_G (c_s d o) a) d.length).getD k 0*(a_C d).getD k 0) d.length (fun k=>o.getD k 0) A (f_V h)]
 exact d_S _ fun k E=>by
  show _=(unp o (a_G (c_s d o) a) d.length).getD (o.getD k 0) 0*(a_C d).getD (o.getD k 0) 0;rw [p_Z h _ k E,h_1 d o k (by rw [h.1];exact E)]
/-- A world that keeps all that stood in w0. -/
theorem sA_ {α:Type} (l:List α) (i:Nat) (a:α):l.toArray.setIfInBounds i a=(l.set i a).toArray:=by simp
theorem sB_ {α:Type} (x y:α) (l:List α):(x :: l).set 0 y=y :: l:=rfl
theorem sC_ {α:Type} (x y:α) (i:Nat) (l:List α):(x :: l).set (i+1) y=x :: l.set i y:=rfl
def e_1 (w0 d:World):World:={ d with heap:=w0.heap++d.heap.extract w0.heap.size d.heap.size,os:=w0.os,tape:=w0.tape,output:=w0.output }
theorem a_5 (A d:World):Below A.heap.size A (e_1 A d):=
 ⟨rfl,rfl,rfl,by unfold e_1;simp,fun k E=>by unfold e_1;simp [Array.getElem?_append,E]⟩
theorem f_z {E W:World} (h:Below E.heap.size E W):∃ d,W=e_1 E d:=by
 refine ⟨W,?_⟩;obtain ⟨A,tape,H,os,output⟩:=W;obtain ⟨J,M,L,R,O⟩:=h;simp only at J M L R O;subst J M L;unfold e_1
 congr 1
 refine Array.ext_getElem? fun i=>?_;rw [Array.getElem?_append]
 split
 ·rename_i I
  exact O i I
 ·rename_i I
  rw [Array.getElem?_extract];show _=if i - E.heap.size < min A.size A.size - E.heap.size then A[E.heap.size+(i - E.heap.size)]? else none;rw [Nat.min_self];by_cases c:i < A.size
  ·rw [if_pos (by omega),show E.heap.size+(i - E.heap.size)=i by omega]
  ·rw [if_neg (by omega)];exact Array.getElem?_eq_none (by omega)
/-- A family of worlds on top of w, which holds with each world all that keep what stood in it. -/
structure Fam (w:World) (F:World->World):Prop where
 below:∀ d,Below w.heap.size w (F d)
 on:∀ d W,Below (F d).heap.size (F d) W->∃ d',W=F d'
theorem e_2 {w W:World} (h:Below w.heap.size w W):Fam w (e_1 W):=
 ⟨fun d=>h.trans ((a_5 W d).mono h.size),fun d W' hb=>f_z ((a_5 W d).trans (hb.mono (a_5 W d).size))⟩
theorem Fam.cell {w:World} {F:World->World} (h:Fam w F) (d:World) (b o:Nat) (hb:b < w.heap.size):(F d).cell? ⟨b,o,none⟩=w.cell? ⟨b,o,none⟩:=(h.below d).cell (p:=⟨b,o,none⟩) hb
theorem Fam.frozen {w:World} {F:World->World} (h:Fam w F) (d:World) (b o:Nat) (hb:b < w.heap.size):(F d).frozen? ⟨b,o,none⟩=w.frozen? ⟨b,o,none⟩:=(h.below d).frozen (p:=⟨b,o,none⟩) hb
theorem Fam.call {w:World} {F:World->World} (hF:Fam w F) {P:Program} {f:FuncId} {args:Array Value} {d:World} {v:Value}
  (h:Calls P f args (F d) fun e E=>e = .returned v/\Below (F d).heap.size (F d) E):Calls P f args (F d) fun e A=>e = .returned v/\∃ d',A=F d':=
 h.mono fun _ _ ⟨he,hb⟩=>⟨he,hF.on d _ hb⟩
theorem Fam.same {w:World} {F:World->World} (hF:Fam w F) {P:Program} {f:FuncId} {args:Array Value} {d:World} {v:Value}
  (h:Calls P f args (F d) fun e E=>e = .returned v/\E=F d):Calls P f args (F d) fun e A=>e = .returned v/\∃ d',A=F d':=
 h.mono fun _ _ ⟨he,hb⟩=>⟨he,d,hb⟩
section
variable {P : Program} {ops : Array Oper} {Q : Exit -> Act -> World -> Prop}
theorem b_T {a:Act} {A:Option Tmp} {v:Value} {t:Nat} (h:A≠some t):(a.put A v).tmps[t]?=a.tmps[t]?:=by
 cases A with
 | none=>rfl
 | some d=>exact Array.getElem?_setIfInBounds_ne (fun e=>h (by rw [e]))
theorem c_J {a:Act} {t:Nat} {v:Value} (h:t < a.tmps.size):(a.put (some t) v).tmps[t]?=some v:=by
 simp [Act.put,h]
theorem a_V (a:Act) (A:Option Tmp) (v:Value):(a.put A v).tmps.size=a.tmps.size:=by cases A <;> simp [Act.put]
theorem c_k (a:Act) (A:Option Tmp) (v:Value):(a.put A v).defers=a.defers:=by cases A <;> simp [Act.put]
theorem a_v:(∀ (a:Act) (v:Value),a.put none v=a)/\(∀ (a:Act) (t:Tmp) (v:Value),a.put (some t) v=⟨a.tmps.setIfInBounds t v,a.defers⟩)/\(∀ (l:List Value) (i:Nat) (x:Value),l.toArray.setIfInBounds i x=(l.set i x).toArray)/\(∀ (x y:Value) (l:List Value),(y :: l).set 0 x=x :: l)/\(∀ (x y:Value) (l:List Value) (i:Nat),(y :: l).set (i+1) x=y :: l.set i x):=
 ⟨fun _ _=>rfl,fun _ _ _=>rfl,fun _ _ _=>setIfInBounds_toArray ..,fun _ _ _=>rfl,fun _ _ _ _=>rfl⟩
theorem b_5 {p q:Prop} (a:p) (b:q):Hid (p/\q):=⟨a,b⟩
theorem c_e {o:Oper} (H:∀ I b,o.op≠.select I b) {a A:Act} (h:∀ t,t∈o.looksAt ops->A.tmps[t]?=a.tmps[t]?):execOp A.eval o=execOp a.eval o:=
 execOp_congr o H fun x E=>by
  cases x with
  | tmp t=>
   have:=h t (mem_append_left _ (mem_filterMap.2 ⟨.tmp t,by simpa using E,rfl⟩));simp only [Act.eval,Array.getD_eq_getD_getElem?,this]
  | const v=>rfl
  | global g=>rfl
  | func f=>rfl
theorem b_J {o:Oper} {a A:Act} (h:∀ t,t∈o.looksAt ops->A.tmps[t]?=a.tmps[t]?):Region.wanted o (yielded ops A.tmps)=Region.wanted o (yielded ops a.tmps):=by
 unfold Region.wanted;cases H:o.guard with
 | none=>rfl
 | some gw=>
  obtain ⟨g,b⟩:=gw
  have:yielded ops A.tmps g=yielded ops a.tmps g:=by
   unfold yielded;cases E:(ops[g]?).bind (·.dst) with
   | none=>rfl
   | some d=>
    have:=h d (mem_append_right _ (by simp [H,E]));simp only [Option.bind_some,this]
  simp only [this]
def s_a (l:List Oper):List Tmp:=l.filterMap (·.dst)
theorem d_A {C:World->Prop} {A:Act}:∀ (l:List Oper) (a:Act),wpQuiet P ops C (fun H=>H=A) l a->
  A.tmps.size=a.tmps.size/\A.defers=a.defers/\∀ t,t∉s_a l->A.tmps[t]?=a.tmps[t]?
 | [],a,h=>by
  obtain rfl:a=A:=h;exact ⟨rfl,rfl,fun _ _=>rfl⟩
 | o :: l,a,h=>by
  obtain ⟨v,J⟩:∃ v,wpQuiet P ops C (fun H=>H=A) l (a.put o.dst v):=by
   rw [wpQuiet] at h
   split at h
   ·obtain ⟨v,_,h⟩:=h;exact ⟨v,h⟩
   ·exact ⟨_,h⟩
  obtain ⟨L,V,R⟩:=d_A l _ J;refine ⟨by rw [L,a_V],by rw [V,c_k],fun t I=>?_⟩
  rw [R t (fun O=>I (by
   obtain ⟨x,M,E⟩:=mem_filterMap.1 O;exact mem_filterMap.2 ⟨x,mem_cons_of_mem _ M,E⟩)),b_T (fun E=>I (mem_filterMap.2 ⟨o,mem_cons_self,E⟩))]
def d_6 (ops:Array Oper) (n:Nat):List Oper->Bool
 | []=>true
 | o :: l=>(match o.dst with|some t=>decide (t < n) && !(s_a l).contains t|none=>true) && ((s_a (o :: l)).all fun t=>!(o.looksAt ops).contains t) && d_6 ops n l
theorem e_J {C:World->Prop} {A:Act} (n:Nat):∀ (l:List Oper) (a:Act),a.tmps.size=n->(∀ o,o∈l->∀ cs b,o.op≠.select cs b)->d_6 ops n l=true->
  wpQuiet P ops C (fun Z=>Z=A) l a->∀ o,o∈l->
  (Region.wanted o (yielded ops A.tmps)=true/\∃ v,(∀ t,o.dst=some t->A.tmps[t]?=some v)/\∀ W,C W->o.quietAt P A C W v) ∨
  (Region.wanted o (yielded ops A.tmps)=false/\∀ t,o.dst=some t->A.tmps[t]?=some undef)
 | [],_,_,_,_,_,o,M=>by cases M
 | o :: l,a,hn,hs,O,h,x,J=>by
  have aa:=d_A (o :: l) a h;rw [d_6,Bool.and_eq_true,Bool.and_eq_true] at O;obtain ⟨⟨R,I⟩,O⟩:=O
  have H:∀ t,t∈o.looksAt ops->A.tmps[t]?=a.tmps[t]?:=fun t V=>aa.2.2 t (fun hm=>by
   have:=all_eq_true.1 I t hm;simp at this;exact this V)
  have he:=c_e (ops:=ops) (hs o mem_cons_self) H;have hw:=b_J H
  have E:∀ v,wpQuiet P ops C (fun Z=>Z=A) l (a.put o.dst v)->∀ t,o.dst=some t->A.tmps[t]?=some v:=by
   intro v L t V;rw [V] at R L;simp at R;rw [(d_A l _ L).2.2 t R.2,c_J (by rw [hn];exact R.1)]
  rw [wpQuiet] at h;by_cases c:Region.wanted o (yielded ops a.tmps)=true
  ·rw [if_pos c] at h;obtain ⟨v,hq,L⟩:=h;rcases mem_cons.1 J with rfl|J
   ·left
    refine ⟨hw.trans c,v,E v L,fun W hW=>?_⟩;have:=hq W hW;unfold Oper.quietAt at *;rw [he];exact this
   ·exact e_J n l _ (by rw [a_V];exact hn) (fun o M=>hs o (mem_cons_of_mem _ M)) O L x J
  ·rw [if_neg c] at h;rcases mem_cons.1 J with rfl|J
   ·right
    exact ⟨hw.trans (by simpa using c),E _ h⟩
   ·exact e_J n l _ (by rw [a_V];exact hn) (fun o M=>hs o (mem_cons_of_mem _ M)) O h x J
/-- The operation waits for the one with that number. -/
def b_v (o:Oper) (j:Nat):Bool:=o.after.any fun e=>Region.binds .any e && e.on==j
theorem a_w {o:Oper} {j:Nat} {A:Array Bool} (h:b_v o j=true) (E:∀ e∈o.after,Region.binds .any e=true->A.getD e.on false=true):A.getD j false=true:=by
 obtain ⟨e,he,hb⟩:=Array.any_eq_true'.1 h;simp only [Bool.and_eq_true,beq_iff_eq] at hb;rw [<- hb.2];exact E e he hb.1
theorem b_w {A:Array Bool} {j:Nat} (h:A.getD j true=false):j < A.size/\A.getD j false=false:=by
 by_cases c:j < A.size
 ·refine ⟨c,?_⟩;simp [c] at h ⊢;exact h
 ·simp [c] at h
theorem f_1 {A:Array Bool} {j:Nat} (E:j < A.size) (h:¬ A.getD j true=false):A.getD j false=true:=by
 simp [E] at h ⊢;exact h
theorem c_f {A:Array Bool} {i n:Nat} (H:A.getD i true=false) (h:A.toList.count false=n+1):(A.setIfInBounds i true).toList.count false=n:=by
 obtain ⟨E,I⟩:=b_w H;have J:i < A.toList.length:=by simpa using E
 rw [Array.toList_setIfInBounds,count_set J,h];have:A.toList[i]=false:=by simpa [E] using I
 simp [this]
theorem e_3 {A:Array Bool} {n:Nat} (h:A.toList.count false=n+1):∃ i,A.getD i true=false:=by
 have I:false∈A.toList:=count_pos_iff.1 (by omega);obtain ⟨i,H,e⟩:=getElem_of_mem I;refine ⟨i,?_⟩;have E:i < A.size:=by simpa using H
 simp only [Array.getElem_toList] at e;simp [E,e]
theorem b_0 {A:Array Bool} (h:A.toList.count false=0) (j:Nat):¬ A.getD j true=false:=by
 intro E;obtain ⟨H,I⟩:=b_w E;refine count_eq_zero.1 h ?_;have:A[j]=false:=by simpa [H] using I
 rw [<- this];simp
/-- Whoever is the first not yet come up is ready. -/
theorem e_i {A:Array Bool} (M:A.size=ops.size) (hb:∀ i o,ops[i]?=some o->∀ e∈o.after,Region.binds .any e=true->e.on < i):
  ∀ i,A.getD i true=false->Region.ready .any ops A≠[]:=by
 intro i
 induction i using Nat.strongRecOn with
 | _ i ih=>
  intro I J;obtain ⟨O,R⟩:=b_w I;have L:ops[i]?=some ops[i]:=Array.getElem?_eq_getElem (by omega)
  have:i∈Region.ready .any ops A:=mem_ready.2 ⟨I,_,L,fun e he H=>by
   have E:=hb i _ L e he H;by_cases c:A.getD e.on true=false
   ·exact absurd J (ih _ E c)
   ·exact f_1 (by omega) c⟩
  rw [J] at this;cases this
theorem j_U (hb:∀ i o,ops[i]?=some o->∀ e∈o.after,Region.binds .any e=true->e.on < i) {m:Nat} (hT:∀ i o,ops[i]?=some o->∀ j,m<=j->j < i->b_v o j=true):
  ∀ (fuel k:Nat) (A:Array Bool) (s:Act) (W:World),A.size=ops.size->m<=k->A.toList.count false=fuel->(∀ j,j < k->A.getD j false=true)->(∀ j,k<=j->j < ops.size->A.getD j true=false)->
   wpList P ops Q (ops.toList.drop k) s W->wpAny P .any ops Q fuel A s W:=by
 intro fuel
 induction fuel with
 | zero=>
  intro k A s W H R O Z J h
  have aa:ops.size<=k:=by
   rcases Nat.lt_or_ge k ops.size with c|c
   ·exact absurd (J k (Nat.le_refl _) c) (b_0 O k)
   ·exact c
  rw [drop_eq_nil_of_le (by simpa using aa)] at h;refine ⟨?_,h⟩;refine eq_nil_iff_forall_not_mem.2 fun i M=>?_;exact b_0 O i (mem_ready.1 M).1
 | succ fuel ih=>
  intro k A s W H R O Z J h
  have E:k < ops.size:=by
   obtain ⟨i,M⟩:=e_3 O;obtain ⟨h3,L⟩:=b_w M;rcases Nat.lt_or_ge i k with c|c
   ·rw [Z i c] at L;cases L
   ·omega
  refine ⟨fun hr=>absurd hr (e_i H hb k (J k (Nat.le_refl _) E)),fun i M=>?_⟩;obtain ⟨I,o,ho,V⟩:=mem_ready.1 M;obtain ⟨h3,L⟩:=b_w I
  have ad:k<=i:=by
   rcases Nat.lt_or_ge i k with c|c
   ·rw [Z i c] at L;cases L
   ·exact c
  obtain rfl:i=k:=by
   rcases Nat.lt_or_ge k i with c|c
   ·have:=a_w (hT i o ho k R c) V;have h5:=(b_w (J k (Nat.le_refl _) E)).2;rw [this] at h5;cases h5
   ·omega
  rw [drop_eq_getElem_cons (by simpa using E)] at h
  have ab:ops.toList[i]'(by simpa using E)=o:=by
   have:=Array.getElem?_eq_some_iff.1 ho;simpa using this.2
  rw [ab,wpList] at h;unfold wpOp;simp only [ho]
  have go:∀ a w,wpList P ops Q (ops.toList.drop (i+1)) a w->wpAny P .any ops Q fuel (A.setIfInBounds i true) a w:=fun a w hw=>
   ih (i+1) _ a w (by simpa using H) (by omega) (c_f I O) (fun j hj=>by
    by_cases c:j=i
    ·subst c;simp [H,E]
    ·exact getD_set_true (Z j (by omega))) (fun j hj ac=>by rw [getD_set_ne true (by omega)];exact J j (by omega) ac) hw
  split
  ·rename_i c
   rw [if_pos c] at h;rcases h with h|h
   ·exact .inl (Oper.wp_mono go h)
   ·exact .inr h
  ·rename_i c
   rw [if_neg c] at h;exact go _ _ h
/-- The block that was made: it stands, new, as it was laid. -/
def Made (w:World) (obj:Obj) (b:Nat) (W:World):Prop:=b < W.heap.size/\w.heap.size<=b/\W.heap[b]?=some obj
theorem Made.up {w W W':World} {A:Obj} {b:Nat} (h:Made w A b W) (hb:Below W.heap.size W W'):Made w A b W':=
 ⟨Nat.lt_of_lt_of_le h.1 hb.size,h.2.1,(hb.block b h.1).trans h.2.2⟩
def k_Z (b:Nat):Value:=.pointer (some ⟨b,0,none⟩)
theorem d_T {A:Array Bool} {i:Nat} {o:Oper} (J:ops[i]?=some o) (H:∀ e∈o.after,Region.binds .any e=true->A.getD e.on false=true)
  (h:∀ j o,ops[j]?=some o->A.getD j false=true->∀ e∈o.after,Region.binds .any e=true->A.getD e.on false=true):
  ∀ j o,ops[j]?=some o->(A.setIfInBounds i true).getD j false=true->∀ e∈o.after,Region.binds .any e=true->(A.setIfInBounds i true).getD e.on false=true:=by
 intro j L E I e he hb;by_cases c:i=j
 ·subst c;rw [J] at E;cases E;exact getD_set_true (H e he hb)
 ·rw [getD_set_ne false c] at I;exact getD_set_true (h j L E I e he hb)
theorem o_u {A m:Nat} {l:List Oper} (L:l=(ops.toList.take m).eraseIdx A) (i:Nat) (o:Oper) (I:i < m) (H:i≠A) (J:ops[i]?=some o):o∈l:=by
 rw [L]
 have E:(ops.toList.take m)[i]?=some o:=by
  rw [getElem?_take_of_lt I];simpa using J
 rcases Nat.lt_or_ge i A with c|c
 ·exact mem_of_getElem? (i:=i) (by rw [getElem?_eraseIdx_of_lt c];exact E)
 ·refine mem_of_getElem? (i:=i - 1) (l:=(ops.toList.take m).eraseIdx A) ?_;rw [getElem?_eraseIdx_of_ge (by omega),show i - 1+1=i by omega];exact E
theorem Made.frozen {w W:World} {b:Nat} {A:Array Value} {t:TypeId} (h:Made w (.cells A t) b W) (i:Nat):W.frozen? ⟨b,i,none⟩=false:=by
 unfold frozen?;simp [h.2.2]
theorem b_1 {B:Nat} {a w:World} (h:Below B a w) (b:Nat) (hb:B<=b) (x y:Value):Below B a ((w.setCell ⟨b,0,none⟩ x).setCell ⟨b,1,none⟩ y):=
 (h.setCell (p:=⟨b,0,none⟩) hb x).setCell (p:=⟨b,1,none⟩) hb y
theorem a_Q {c:Code} {a:Act} {w:World} (h:∀ A,A=w->c.wp P Q a A):c.wp P Q a w:=h w rfl
theorem Made.cell {w W:World} {b i:Nat} {A:Array Value} {t:TypeId} {H:Nat×Nat} {v:Value} (h:Made w (.cells A t H) b W) (E:A[i]?=some v):W.cell? ⟨b,i,none⟩=some v:=by
 unfold cell?;simp only [h.2.2];simpa using E
end
section
variable {P : Program} {ops : Array Oper} {Q : Exit -> Act -> World -> Prop}
/-- What the operation number k hands back, and what stays true of it. -/
structure Told where
 k:Nat
 t:Tmp
 φ:Value->World->Prop
/-- The frame G with the told values in their slots. -/
def b_q (ks:List Told) (x:Nat->Value) (G:Act):Act:=ks.foldl (fun a e=>a.put (some e.t) (x e.k)) G
theorem e_4 (x:Nat->Value):∀ (ks:List Told) (G:Act),(b_q ks x G).tmps.size=G.tmps.size
 | [],_=>rfl
 | e :: ks,G=>by rw [b_q,foldl_cons];exact (e_4 x ks _).trans (a_V _ _ _)
theorem c_V (x:Nat->Value):∀ (ks:List Told) (G:Act),(b_q ks x G).defers=G.defers
 | [],_=>rfl
 | e :: ks,G=>by rw [b_q,foldl_cons];exact (c_V x ks _).trans (c_k _ _ _)
theorem h_2 (x:Nat->Value) (t:Tmp):∀ (ks:List Told) (G:Act),(∀ e,e∈ks->e.t≠t)->(b_q ks x G).tmps[t]?=G.tmps[t]?
 | [],_,_=>rfl
 | e :: ks,G,h=>by
  rw [b_q,foldl_cons];refine (h_2 x t ks _ fun e he=>h e (mem_cons_of_mem _ he)).trans (b_T fun A=>h e mem_cons_self (Option.some.inj A))
theorem h_i (x:Nat->Value):∀ (ks:List Told) (G:Act),(ks.map (·.t)).Nodup->∀ e,e∈ks->e.t < G.tmps.size->(b_q ks x G).tmps[e.t]?=some (x e.k)
 | [],_,_,e,he,_=>by cases he
 | f :: ks,G,hn,e,he,hlt=>by
  rw [map_cons,nodup_cons] at hn;rw [b_q,foldl_cons];rcases mem_cons.1 he with rfl|he
  ·refine (h_2 x e.t ks _ fun g A E=>hn.1 (mem_map.2 ⟨g,A,E⟩)).trans (c_J hlt)
  ·exact h_i x ks _ hn.2 e he (by rw [a_V];exact hlt)
/-- Another value for one of them. -/
def upd (x:Nat->Value) (k:Nat) (v:Value):Nat->Value:=fun j=>if j=k then v else x j
theorem f_2 (x:Nat->Value) (k:Nat) (v:Value) (t:Tmp):∀ (ks:List Told) (G A:Act),A.tmps[t]?=G.tmps[t]?->A.tmps.size=G.tmps.size->(∀ e,e∈ks->e.k=k->e.t≠t)->(b_q ks (upd x k v) A).tmps[t]?=(b_q ks x G).tmps[t]?
 | [],_,_,h,_,_=>h
 | e :: ks,G,A,h,hs,hk=>by
  rw [b_q,b_q,foldl_cons,foldl_cons];refine f_2 x k v t ks _ _ ?_ (by rw [a_V,a_V];exact hs) fun e he=>hk e (mem_cons_of_mem _ he);by_cases c:e.t=t
  ·have E:e.k≠k:=fun h=>hk e mem_cons_self h c;have I:upd x k v e.k=x e.k:=if_neg E;rw [I];subst c;by_cases d:e.t < G.tmps.size
   ·rw [c_J d,c_J (by rw [hs];exact d)]
   ·rw [Array.getElem?_eq_none (by rw [a_V,hs];exact Nat.le_of_not_lt d),Array.getElem?_eq_none (by rw [a_V];exact Nat.le_of_not_lt d)]
  ·rw [b_T (fun H=>c (Option.some.inj H)),b_T (fun H=>c (Option.some.inj H))];exact h
def a_E (ks:List Told) (i:Nat):Option Told:=ks.find? fun e=>e.k==i
/-- What is known, at an operation, of the told values that it looks at. -/
def b_Y (ops:Array Oper) (ks:List Told) (o:Oper) (x:Nat->Value) (F:World->World):Prop:=∀ e,e∈ks->(o.looksAt ops).contains e.t=true->∀ d,e.φ (x e.k) (F d)
/-- The operation yields a value of which φ holds, and keeps what stood. -/
def a_e (P:Program) (φ:Value->World->Prop) (W:World):Result Next->Prop
 | .ok (.value u) W'=>φ u W'/\Below W.heap.size W W'
 | .ok .skip W'=>φ undef W'/\Below W.heap.size W W'
 | .ok (.enter f args) W'=>W'=W/\Calls P f args W (fun e W''=>∃ v,e = .returned v/\φ v W''/\Below W.heap.size W W'')
 | _=>False
def a_j (P:Program) (o:Oper) (a:Act) (W:World) (φ:Value->World->Prop):Prop:=a_e P φ W ((execOp a.eval o).run P W)
/-- What the one writing operation leaves. -/
def a_Z (P:Program) (φ:Value->World->Prop) (W:World):Result Next->Prop
 | .ok (.value u) W'=>φ u W'
 | .ok .skip W'=>φ undef W'
 | .ok (.enter f args) W'=>W'=W/\Calls P f args W (fun e W''=>∃ v,e = .returned v/\φ v W'')
 | _=>False
def b_i (P:Program) (o:Oper) (a:Act) (W:World) (φ:Value->World->Prop):Prop:=a_Z P φ W ((execOp a.eval o).run P W)
/-- What a told operation owes. -/
def q_F (P:Program) (ops:Array Oper) (w:World) (ks:List Told) (x:Nat->Value) (_:Nat) (o:Oper) (a:Act) (e:Told):Prop:=∀ F,Fam w F->b_Y ops ks o x F->Region.wanted o (yielded ops a.tmps)=true/\∀ d,a_j P o a (F d) e.φ
/-- The same where operation number c may write what was made since w. -/
def l_3 (P:Program) (ops:Array Oper) (w:World) (ks:List Told) (c:Nat) (T:World->World->Prop) (x:Nat->Value) (i:Nat) (o:Oper) (a:Act) (e:Told):Prop:=(i≠c->q_F P ops w ks x i o a e)/\(i=c->Region.wanted o (yielded ops a.tmps)=true/\∀ W,Below w.heap.size w W->b_Y ops ks o x (fun _=>W)->b_i P o a W fun v W'=>e.φ v W'/\Below w.heap.size w W'/\T W W')
/-- The walk in the order of the text. -/
def c_O (P:Program) (ops:Array Oper) (w:World) (ks:List Told) (Y:Nat->Oper->Act->Told->Prop) (x:Nat->Value) (G:Act):Nat->List Oper->Act->Prop
 | _,[],a=>a=G
 | i,o :: l,a=>match a_E ks i with
  | none=>∃ v,(∀ F,Fam w F->b_Y ops ks o x F->if Region.wanted o (yielded ops a.tmps)=true then ∀ K:Act->Prop,K (a.put o.dst v)->o.quiet P a (fun W=>∃ d,W=F d) K else v=undef)/\c_O P ops w ks Y x G (i+1) l (a.put o.dst v)
  | some e=>Y i o a e/\c_O P ops w ks Y x G (i+1) l (a.put (some e.t) (x e.k))
abbrev c_5 (P:Program) (ops:Array Oper) (w:World) (ks:List Told) (x:Nat->Value) (G:Act):Nat->List Oper->Act->Prop:=c_O P ops w ks (q_F P ops w ks x) x G
/-- The dumps' shape, for a list of told operations: each is among the first m, writes the slot that it names; no two of them write one slot. -/
def g_v (ops:Array Oper) (ks:List Told) (m n:Nat):Bool:=
 (ks.all fun e=>decide (e.k < m) && decide (e.t < n) && (((ops[e.k]?).bind (·.dst))==some e.t)) && decide (ks.map (·.t)).Nodup && decide (ks.map (·.k)).Nodup
theorem b_K {ks:List Told} {i:Nat} {e:Told} (h:a_E ks i=some e):e∈ks/\e.k=i:=by
 unfold a_E at h;exact ⟨mem_of_find?_eq_some h,by simpa using find?_some h⟩
theorem f_3 {ks:List Told} {i:Nat} (h:a_E ks i=none):∀ e,e∈ks->e.k≠i:=by
 unfold a_E at h;intro e he A;have:=find?_eq_none.1 h e he;simp [A] at this
theorem f_4 {w:World} {ks:List Told} {Y:Nat->Oper->Act->Told->Prop} {x:Nat->Value} {G:Act}:∀ (l:List Oper) (i:Nat) (a:Act),(∀ j e,a_E ks (i+j)=some e->∀ o,l[j]?=some o->o.dst=some e.t)->c_O P ops w ks Y x G i l a->
  G.tmps.size=a.tmps.size/\G.defers=a.defers/\∀ t,t∉s_a l->G.tmps[t]?=a.tmps[t]?
 | [],i,a,_,h=>by
  obtain rfl:a=G:=h;exact ⟨rfl,rfl,fun _ _=>rfl⟩
 | o :: l,i,a,hk,h=>by
  obtain ⟨v,I⟩:∃ v,c_O P ops w ks Y x G (i+1) l (a.put o.dst v):=by
   rw [c_O] at h
   split at h
   ·obtain ⟨v,_,E⟩:=h;exact ⟨v,E⟩
   ·rename_i e he
    have:=hk 0 e he o rfl;rw [this];exact ⟨_,h.2⟩
  obtain ⟨J,E,O⟩:=f_4 l (i+1) _ (fun j e he o R=>hk (j+1) e (by rw [show i+(j+1)=i+1+j by omega];exact he) o (by simpa using R)) I;refine ⟨by rw [J,a_V],by rw [E,c_k],fun t H=>?_⟩
  rw [O t (fun M=>H (by
   obtain ⟨x,L,A⟩:=mem_filterMap.1 M;exact mem_filterMap.2 ⟨x,mem_cons_of_mem _ L,A⟩)),b_T (fun A=>H (mem_filterMap.2 ⟨o,mem_cons_self,A⟩))]
/-- What an operation yields in the last frame G, in the families of whose worlds the facts hold. -/
def f_n (P:Program) (ops:Array Oper) (w:World) (ks:List Told) (Y:Nat->Oper->Act->Told->Prop) (x:Nat->Value) (G:Act) (i:Nat) (o:Oper):Prop:=
 match a_E ks i with
  | none=>∀ F,Fam w F->b_Y ops ks o x F->(Region.wanted o (yielded ops G.tmps)=true/\∃ v,(∀ t,o.dst=some t->G.tmps[t]?=some v)/\∀ d,o.quietAt P G (fun W=>∃ d,W=F d) (F d) v)∨(Region.wanted o (yielded ops G.tmps)=false/\∀ t,o.dst=some t->G.tmps[t]?=some undef)
  | some e=>Y i o G e
theorem k_0 {w:World} {ks:List Told} {c:Nat} {T:World->World->Prop} {x:Nat->Value} {i:Nat} {o:Oper} {a G:Act} {e:Told} (he:execOp G.eval o=execOp a.eval o) (A:Region.wanted o (yielded ops G.tmps)=Region.wanted o (yielded ops a.tmps)) (h:l_3 P ops w ks c T x i o a e):l_3 P ops w ks c T x i o G e:=by
 unfold l_3 q_F a_j b_i at *;rw [he,A];exact h
theorem l_4 {w:World} {ks:List Told} {Y:Nat->Oper->Act->Told->Prop} {x:Nat->Value} {G:Act} (hY:∀ i o a e,execOp G.eval o=execOp a.eval o->Region.wanted o (yielded ops G.tmps)=Region.wanted o (yielded ops a.tmps)->Y i o a e->Y i o G e) (n:Nat):∀ (l:List Oper) (i:Nat) (a:Act),a.tmps.size=n->(∀ o,o∈l->∀ cs b,o.op≠.select cs b)->d_6 ops n l=true->
  (∀ j e,a_E ks (i+j)=some e->∀ o,l[j]?=some o->o.dst=some e.t)->c_O P ops w ks Y x G i l a->∀ j o,l[j]?=some o->f_n P ops w ks Y x G (i+j) o
 | [],_,_,_,_,_,_,_,j,o,O=>by simp at O
 | o :: l,i,a,hn,hs,V,hk,h,j,p,hp=>by
  have aa:=f_4 (o :: l) i a hk h;rw [d_6,Bool.and_eq_true,Bool.and_eq_true] at V;obtain ⟨⟨I,L⟩,V⟩:=V
  have E:∀ t,t∈o.looksAt ops->G.tmps[t]?=a.tmps[t]?:=fun t J=>aa.2.2 t (fun hm=>by
   have:=all_eq_true.1 L t hm;simp at this;exact this J)
  have he:=c_e (ops:=ops) (hs o mem_cons_self) E;have hw:=b_J E;have M:∀ j e,a_E ks (i+1+j)=some e->∀ o,l[j]?=some o->o.dst=some e.t:=fun j e he o O=>hk (j+1) e (by rw [show i+(j+1)=i+1+j by omega];exact he) o (by simpa using O)
  have H:∀ v,c_O P ops w ks Y x G (i+1) l (a.put o.dst v)->∀ j p,(o :: l)[j+1]?=some p->f_n P ops w ks Y x G (i+(j+1)) p:=fun v Z j p hp=>by
   have:=l_4 hY n l (i+1) (a.put o.dst v) (by rw [a_V];exact hn) (fun o O=>hs o (mem_cons_of_mem _ O)) V M Z j p (by simpa using hp);rw [show i+(j+1)=i+1+j by omega];exact this
  have A:∀ v,c_O P ops w ks Y x G (i+1) l (a.put o.dst v)->∀ t,o.dst=some t->G.tmps[t]?=some v:=by
   intro v Z t J;rw [J] at I Z;simp at I;rw [(f_4 l (i+1) _ M Z).2.2 t I.2,c_J (by rw [hn];exact I.1)]
  rw [c_O] at h;cases R:a_E ks i with
  | none=>
   rw [R] at h;obtain ⟨v,h1,h2⟩:=h;cases j with
   | succ j=>exact H v h2 j p hp
   | zero=>
    simp only [getElem?_cons_zero,Option.some.injEq] at hp;subst hp;unfold f_n;rw [Nat.add_zero,R];intro F hF hf;have h3:=h1 F hF hf;by_cases c:Region.wanted o (yielded ops a.tmps)=true
    ·rw [if_pos c] at h3;obtain ⟨u,hu,hK⟩:=h3 (fun a'=>a'=a.put o.dst v) rfl
     left
     refine ⟨hw.trans c,u,?_,fun d=>?_⟩
     ·intro t J;rw [A v h2 t J];rw [J] at hK I;simp at I;have e1:(a.put (some t) u).tmps[t]?=(a.put (some t) v).tmps[t]?:=congrArg (fun a=>a.tmps[t]?) hK;rw [c_J (by rw [hn];exact I.1),c_J (by rw [hn];exact I.1)] at e1;exact e1.symm
     ·have:=hu _ ⟨d,rfl⟩;unfold Oper.quietAt at *;rw [he];exact this
    ·rw [if_neg c] at h3
     right
     refine ⟨hw.trans (by simpa using c),fun t J=>?_⟩;rw [A v h2 t J,h3]
  | some e=>
   rw [R] at h;have ab:=hk 0 e R o rfl;cases j with
   | succ j=>exact H (x e.k) (by rw [ab];exact h.2) j p hp
   | zero=>
    simp only [getElem?_cons_zero,Option.some.injEq] at hp;subst hp;unfold f_n;rw [Nat.add_zero,R];exact hY _ _ _ _ he hw h.1
theorem e_5:∀ (ks:List Told),(ks.map (·.k)).Nodup->∀ e,e∈ks->a_E ks e.k=some e
 | [],_,e,he=>by cases he
 | f :: ks,hn,e,he=>by
  rw [map_cons,nodup_cons] at hn;unfold a_E;rw [find?_cons];rcases mem_cons.1 he with rfl|he
  ·simp
  ·have A:f.k≠e.k:=fun h=>hn.1 (mem_map.2 ⟨e,he,h.symm⟩);have:(f.k==e.k)=false:=by simpa using A
   rw [this];exact e_5 ks hn.2 e he
structure InvR (ops:Array Oper) (w:World) (ks:List Told) (m:Nat) (G:Act) (listed:Array Bool) (s:Act) (W:World) (x:Nat->Value):Prop where
 size:listed.size=ops.size
 head:∀ j,m<=j->j < ops.size->listed.getD j true=false
 fsize:s.tmps.size=G.tmps.size
 fdef:s.defers=G.defers
 slot:∀ t,(∀ j o,j < m->ops[j]?=some o->o.dst=some t->listed.getD j false=true)->s.tmps[t]?=G.tmps[t]?
 below:Below w.heap.size w W
 told:∀ e,e∈ks->listed.getD e.k false=true->e.φ (x e.k) W
 closed:∀ j o,ops[j]?=some o->listed.getD j false=true->∀ e∈o.after,Region.binds .any e=true->listed.getD e.on false=true
theorem InvR.all {w W:World} {ks:List Told} {m:Nat} {G s:Act} {A:Array Bool} {x:Nat->Value} (H:InvR ops w ks m G A s W x) (h:∀ j,j < m->A.getD j false=true):s=G:=by
 have E:s.tmps=G.tmps:=Array.ext_getElem? fun t=>H.slot t fun j _ J _ _=>h j J;have I:=H.fdef;cases s;cases G;simp only at E I;rw [E,I]
theorem o_v {w:World} {ks:List Told} {Y:Nat->Oper->Act->Told->Prop} {x:Nat->Value} {G a:Act} {i:Nat} {o:Oper} {l:List Oper} (E:a_E ks i=none) (H:Region.wanted o (yielded ops a.tmps)=true)
  (h:∃ v,(∀ F,Fam w F->b_Y ops ks o x F->∀ K:Act->Prop,K (a.put o.dst v)->o.quiet P a (fun W=>∃ d,W=F d) K)/\c_O P ops w ks Y x G (i+1) l (a.put o.dst v)):c_O P ops w ks Y x G i (o :: l) a:=by
 rw [c_O,E];obtain ⟨v,A,I⟩:=h;exact ⟨v,fun F hF hf=>by rw [if_pos H];exact A F hF hf,I⟩
theorem c_w {w:World} {ks:List Told} {Y:Nat->Oper->Act->Told->Prop} {x:Nat->Value} {G a:Act} {i:Nat} {o:Oper} {l:List Oper} {v:Value} (E:a_E ks i=none) (H:Region.wanted o (yielded ops a.tmps)=true)
  (A:∀ F,Fam w F->b_Y ops ks o x F->∀ K:Act->Prop,K (a.put o.dst v)->(∀ d b o,b < w.heap.size->(F d).cell? ⟨b,o,none⟩=w.cell? ⟨b,o,none⟩)->(∀ d b o,b < w.heap.size->(F d).frozen? ⟨b,o,none⟩=w.frozen? ⟨b,o,none⟩)->o.quiet P a (fun W=>∃ d,W=F d) K) (I:c_O P ops w ks Y x G (i+1) l (a.put o.dst v)):c_O P ops w ks Y x G i (o :: l) a:=
 o_v E H ⟨v,fun F hF hf K hK=>A F hF hf K hK hF.cell hF.frozen,I⟩
theorem e_j {w:World} {ks:List Told} {x:Nat->Value} {G a:Act} {i:Nat} {o:Oper} {l:List Oper} {e:Told} (E:a_E ks i=some e) (H:Region.wanted o (yielded ops a.tmps)=true)
  (A:∀ F,Fam w F->b_Y ops ks o x F->∀ d,a_j P o a (F d) e.φ) (I:c_5 P ops w ks x G (i+1) l (a.put (some e.t) (x e.k))):c_5 P ops w ks x G i (o :: l) a:=by
 unfold c_5;rw [c_O,E];exact ⟨fun F hF hf=>⟨H,A F hF hf⟩,I⟩
theorem c_g {w:World} {ks:List Told} {x:Nat->Value} {G a:Act} {i:Nat} {o:Oper} {l:List Oper} {e:Told} (E:a_E ks i=some e) (H:Region.wanted o (yielded ops a.tmps)=true)
  (A:∀ F,Fam w F->b_Y ops ks o x F->∀ d,(∀ d b o,b < w.heap.size->(F d).cell? ⟨b,o,none⟩=w.cell? ⟨b,o,none⟩)->(∀ d b o,b < w.heap.size->(F d).frozen? ⟨b,o,none⟩=w.frozen? ⟨b,o,none⟩)->a_j P o a (F d) e.φ) (I:c_5 P ops w ks x G (i+1) l (a.put (some e.t) (x e.k))):c_5 P ops w ks x G i (o :: l) a:=
 e_j E H (fun F hF hf d=>A F hF hf d hF.cell hF.frozen) I
theorem upC {a:Told} {l:List Told} (h:∀ v W W',a.φ v W->Below W.heap.size W W'->a.φ v W') (A:∀ e,e∈l->∀ v W W',e.φ v W->Below W.heap.size W W'->e.φ v W'):∀ e,e∈a :: l->∀ v W W',e.φ v W->Below W.heap.size W W'->e.φ v W':=by
 intro e he;rcases mem_cons.1 he with rfl|E
 ·exact h
 ·exact A e E
theorem upN:∀ e,e∈([]:List Told)->∀ v W W',e.φ v W->Below W.heap.size W W'->e.φ v W':=fun e he=>by simp at he
theorem brn {P:Program} {A:Func} {R:Ending->World->Prop} {a:Act} {w:World} (E:Int) (h:Sem.run P (results A a.tmps) w = .ok (.tuple #[.agg #[.slice none 0 0,.slice none 0 0],.int .i64 E]) w) (I:R (.returned (.tuple #[.agg #[.slice none 0 0,.slice none 0 0],.int .i64 E])) w) (H:a.defers = []:=by rfl):bodyPost P A R .ret a w:=
 bodyPost_ret h H I
theorem f_5 {w:World} {ks:List Told} {Y E:Nat->Oper->Act->Told->Prop} {x:Nat->Value} {G:Act} (h:∀ i o a e,a_E ks i=some e->Y i o a e->E i o a e):∀ {l:List Oper} {i:Nat} {a:Act},c_O P ops w ks Y x G i l a->c_O P ops w ks E x G i l a
 | [],_,_,hw=>hw
 | o :: l,i,a,hw=>by
  rw [c_O] at hw ⊢;cases A:a_E ks i with
  | none=>
   rw [A] at hw;obtain ⟨v,H,I⟩:=hw;exact ⟨v,H,f_5 h I⟩
  | some e=>
   rw [A] at hw;exact ⟨h _ _ _ _ A hw.1,f_5 h hw.2⟩
theorem b_A {w:World} {ks:List Told} {Y:Nat->Oper->Act->Told->Prop} {x:Nat->Value} {G a:Act} {i:Nat} (h:a=G):c_O P ops w ks Y x G i [] a:=h
end
section
variable {P : Program} {ops : Array Oper} {Q : Exit -> Act -> World -> Prop}
def h_3 (ops:Array Oper) (i0:Nat):Bool:=(range ops.size).all fun j=>j==i0 || match ops[j]?,ops[i0]? with
 | some oj,some o0=>b_v o0 j || b_v oj i0 || o0.apart ops oj
 | _,_=>false
theorem o_w {A:Nat} {J:Oper} (L:ops[A]?=some J) (h:h_3 ops A=true):∀ j E,ops[j]?=some E->j≠A->b_v J j=false->b_v E A=false->J.apart ops E=true:=by
 intro j E M H I R;have O:=all_eq_true.1 h j (mem_range.2 (Array.getElem?_eq_some_iff.1 M).1);simp only [M,L,I,R,Bool.false_or,Bool.or_eq_true,beq_iff_eq,H,false_or] at O;exact O
end
section
variable {P : Program} {ops : Array Oper} {Q : Exit -> Act -> World -> Prop}
def e_6 (ops:Array Oper) (L0:List Nat) (m:Nat):Bool:=
 decide (m<=ops.size) && Region.noSelect ops &&
 ((range ops.size).all fun i=>match ops[i]? with
  | none=>false
  | some o=>(o.after.all fun e=>!Region.binds .any e || decide (e.on < i)) && (range i).all fun j=>decide (j < m) || b_v o j) &&
 (decide (ops.size<=m) || (range m).all fun j=>decide (j∈L0) || (range (m+1)).any fun k=>decide (j < k) && decide (k∉L0) && match ops[k]? with
  | none=>false
  | some o=>b_v o j) &&
 ((range m).all fun i=>match ops[i]? with
  | none=>false
  | some o=>(range m).all fun j=>match (ops[j]?).bind (·.dst) with
   | none=>true
   | some t=>(!(o.looksAt ops).contains t || (b_v o j && j != m)) && (i==j || o.dst != some t)) &&
 (L0.all fun i0=>decide (i0 < m) && match ops[i0]? with
  | none=>false
  | some o=>o.after.all fun e=>!Region.binds .any e || decide (e.on∉L0))
theorem e_k {o:Oper} {a:Act} {W:World} {φ ψ:Value->World->Prop} (h:∀ v W',φ v W'->ψ v W') (A:a_j P o a W φ):a_j P o a W ψ:=by
 unfold a_j at A ⊢;generalize (execOp a.eval o).run P W=r at A;cases r with
 | halt x w'=>exact A
 | ok n w'=>
  cases n <;> simp only [a_e] at A ⊢
  case value u=>exact ⟨h _ _ A.1,A.2⟩
  case skip=>exact ⟨h _ _ A.1,A.2⟩
  case enter f args=>exact ⟨A.1,A.2.mono fun J E ⟨v,he,H,I⟩=>⟨v,he,h _ _ H,I⟩⟩
/-- All of these come behind operation number c. -/
def i_3 (ops:Array Oper) (c:Nat) (D:List Nat):Bool:=D.all fun k=>match ops[k]? with
 | none=>false
 | some o=>b_v o c || D.any fun j=>b_v o j
theorem b_d {c:Nat} {D:List Nat} {A:Array Bool} (hb:∀ i o,ops[i]?=some o->∀ e∈o.after,Region.binds .any e=true->e.on < i)
  (M:∀ j o,ops[j]?=some o->A.getD j false=true->∀ e∈o.after,Region.binds .any e=true->A.getD e.on false=true) (V:i_3 ops c D=true):∀ k,k∈D->A.getD k false=true->A.getD c false=true:=by
 intro k
 induction k using Nat.strongRecOn with
 | _ k ih=>
  intro R O;have E:=all_eq_true.1 V k R;cases I:ops[k]? with
  | none=>rw [I] at E;cases E
  | some o=>
   rw [I] at E;simp only [Bool.or_eq_true] at E;rcases E with E|E
   ·exact a_w E (M k o I O)
   ·obtain ⟨j,Z,L⟩:=any_eq_true.1 E;refine ih j ?_ Z (a_w L (M k o I O));unfold b_v at L;obtain ⟨e,J,H⟩:=Array.any_eq_true'.1 L;simp only [Bool.and_eq_true,beq_iff_eq] at H;rw [<- H.2];exact hb k o I e J H.1
theorem h_j {c:Nat} {T:World->World->Prop} {w:World} {ks:List Told} {m n:Nat} {G:(Nat->Value)->Act} {G0:Act} (L0:List Nat) (fc fa:List Nat) (Z:Value->Option Nat) (br:∀ e,e∈ks->e.k∈fc->∀ o,ops[e.k]?=some o->∀ x F,Fam w F->b_Y ops ks o x F->∀ d,a_j P o (G x) (F d) fun v W'=>e.φ v W'/\∀ b,Z v=some b->(F d).heap.size<=b∨∃ e0,e0∈ks/\e0.k∈fc/\(o.looksAt ops).contains e0.t=true/\Z (x e0.k)=some b) (bt:∀ e,e∈ks->e.k∈fa->∀ o,ops[e.k]?=some o->∀ x F,Fam w F->b_Y ops ks o x F->∀ d,a_j P o (G x) (F d) fun v W'=>e.φ v W'/\∀ b,Z v=some b->(F d).heap.size<=b) (bc:∀ e,e∈ks->e.k∈fc∨e.k∈fa->∀ v W,e.φ v W->∀ b,Z v=some b->b < W.heap.size) (aP:∀ k,k∈fc->k∉fa) (a6:∀ e,e∈ks->e.k=c->e.k∉fc/\e.k∉fa) (D:List Nat) (hD:i_3 ops c D=true) (bo:∀ e,e∈ks->e.k≠c->e.k∉D->∀ v W W',e.φ v W->Below w.heap.size w W->T W W'->e.φ v W') (bg:∀ L,L∈L0->L∉fc/\L∉fa) (hB:e_6 ops L0 m=true) (aS:∀ L,L∈L0->∀ V,ops[L]?=some V->∀ j oj,ops[j]?=some oj->j≠L->b_v V j=false->b_v oj L=false->V.apart ops oj=true)
  (hQ:∀ L,L∈L0->∀ V,ops[L]?=some V->∀ c a w v,Q (.panic c) (a.put V.dst v) w->Q (.panic c) a w)
  (aX:∀ L,L∈L0->∀ V,ops[L]?=some V->∀ e,a_E ks L=some e->∀ W x,(∀ E,E∈ks->(V.looksAt ops).contains E.t=true->E.φ (x E.k) W)->∃ v,e.φ v W/\Yields P ops V v (G x))
  (hY:∀ L,L∈L0->∀ V,ops[L]?=some V->a_E ks L=none->∀ x,(∀ e,e∈ks->(V.looksAt ops).contains e.t=true->∃ W,e.φ (x e.k) W)->∃ v,(∀ t,V.dst=some t->(G x).tmps[t]?=some v)/\Yields P ops V v (G x)) (hK:g_v ops ks m n=true)
  (hφ:∀ e,e∈ks->∀ v W W',e.φ v W->Below W.heap.size W W'->e.φ v W') (hG:∀ x,G x=b_q ks x G0) (hn:G0.tmps.size=n)
  (bb:∀ x i o,i < m->ops[i]?=some o->f_n P ops w ks (l_3 P ops w ks c T x) x (G x) i o)
  (ht:∀ W x,Below w.heap.size w W->(∀ e,e∈ks->e.φ (x e.k) W)->(∀ e E,e∈ks->E∈ks->e.k∈fc->E.k∈fa->∀ b,Z (x e.k)=some b->Z (x E.k)≠some b)->wpList P ops Q (ops.toList.drop m) (G x) W):
  ∀ (fuel:Nat) (A:Array Bool) (s:Act) (W:World) (x:Nat->Value),A.toList.count false=fuel->InvR ops w ks m (G x) A s W x->(∀ e E,e∈ks->E∈ks->e.k∈fc->E.k∈fa->A.getD e.k false=true->A.getD E.k false=true->∀ b,Z (x e.k)=some b->Z (x E.k)≠some b)->wpAny P .any ops Q fuel A s W:=by
 simp only [e_6,Bool.and_eq_true,decide_eq_true_eq] at hB;obtain ⟨⟨⟨⟨⟨hm,aG⟩,aB⟩,aC⟩,hX⟩,be⟩:=hB
 have a8:∀ L,L∈L0->L < m/\∃ V,ops[L]?=some V/\∀ e∈V.after,Region.binds .any e=true->e.on∉L0:=fun L hi=>by
  have h:=all_eq_true.1 be L hi;cases ho:ops[L]? with
  | none=>rw [ho] at h;simp at h
  | some V=>
   rw [ho] at h;simp only [Bool.and_eq_true,decide_eq_true_eq] at h;refine ⟨h.1,V,rfl,fun e he aN=>?_⟩;have M:=Array.all_eq_true_iff_forall_mem.1 h.2 e he;simpa [aN] using M
 simp only [g_v,Bool.and_eq_true,decide_eq_true_eq] at hK;obtain ⟨⟨hK,bn⟩,bm⟩:=hK
 have ac:∀ e,e∈ks->e.k < m/\e.t < n/\(ops[e.k]?).bind (·.dst)=some e.t:=by
  intro e he;have:=all_eq_true.1 hK e he;simp only [Bool.and_eq_true,decide_eq_true_eq,beq_iff_eq] at this;exact ⟨this.1.1,this.1.2,this.2⟩
 have hb:∀ i o,ops[i]?=some o->∀ e∈o.after,Region.binds .any e=true->e.on < i:=by
  intro i o ho e he bs;have:=all_eq_true.1 aB i (mem_range.2 (Array.getElem?_eq_some_iff.1 ho).1);simp only [ho,Bool.and_eq_true] at this;have M:=Array.all_eq_true_iff_forall_mem.1 this.1 e he;simpa [bs] using M
 have hT:∀ i o,ops[i]?=some o->∀ j,m<=j->j < i->b_v o j=true:=by
  intro i o ho j hj aZ;have:=all_eq_true.1 aB i (mem_range.2 (Array.getElem?_eq_some_iff.1 ho).1);simp only [ho,Bool.and_eq_true] at this;have:=all_eq_true.1 this.2 j (mem_range.2 aZ);simp only [Bool.or_eq_true,decide_eq_true_eq] at this;rcases this with h|h
  ·omega
  ·exact h
 have hS:m < ops.size->∀ j,j < m->j∉L0->∃ k o,j < k/\k<=m/\k∉L0/\ops[k]?=some o/\b_v o j=true:=by
  intro a9 j hj a4;rw [Bool.or_eq_true] at aC;rcases aC with h|h
  ·simp at h;omega
  ·have h0:=all_eq_true.1 h j (mem_range.2 hj);rw [Bool.or_eq_true] at h0;have h0:=h0.resolve_left (by simpa using a4);obtain ⟨k,hk,M⟩:=any_eq_true.1 h0;simp only [Bool.and_eq_true,decide_eq_true_eq] at M;have aV:k < ops.size:=by have:=mem_range.1 hk;omega
   have ho:ops[k]?=some ops[k]:=Array.getElem?_eq_getElem aV;rw [ho] at M;exact ⟨k,_,M.1.1,by have:=mem_range.1 hk;omega,M.1.2,ho,M.2⟩
 have ax:∀ i o,i < m->ops[i]?=some o->∀ j t,j < m->(ops[j]?).bind (·.dst)=some t->(t∈o.looksAt ops->b_v o j=true)/\(i≠j->o.dst≠some t):=by
  intro i o hi ho j t hj hd;have:=all_eq_true.1 hX i (mem_range.2 hi);simp only [ho] at this;have:=all_eq_true.1 this j (mem_range.2 hj);simp only [hd,Bool.and_eq_true,Bool.or_eq_true,bne_iff_ne,beq_iff_eq,Bool.not_eq_true',contains_eq_mem,decide_eq_false_iff_not] at this;refine ⟨fun hl=>?_,fun ae=>?_⟩
  ·rcases this.1 with h|h
   ·exact absurd hl h
   ·exact h.1
  ·rcases this.2 with h|h
   ·exact absurd h ae
   ·exact h
 have aw:∀ x,(G x).tmps.size=n:=fun x=>by rw [hG,e_4];exact hn
 have bq:∀ x e,e∈ks->(G x).tmps[e.t]?=some (x e.k):=fun x e he=>by
  rw [hG];exact h_i x ks G0 bn e he (by rw [hn];exact (ac e he).2.1)
 intro fuel
 induction fuel with
 | zero=>
  intro A s W x hc I hA
  have bx:m=ops.size:=by
   rcases Nat.lt_or_ge m ops.size with c|c
   ·exact absurd (I.head m (Nat.le_refl _) c) (b_0 hc m)
   ·omega
  have H:∀ j,j < m->A.getD j false=true:=fun j hj=>f_1 (by rw [I.size];omega) (b_0 hc j);rw [I.all H];have h:=ht W x I.below (fun e he=>I.told e he (H _ (ac e he).1)) (fun e E he O hf an=>hA e E he O hf an (H _ (ac e he).1) (H _ (ac E O).1));rw [drop_eq_nil_of_le (by simp;omega)] at h;refine ⟨?_,h⟩;refine eq_nil_iff_forall_not_mem.2 fun i hi=>?_;exact b_0 hc i (mem_ready.1 hi).1
 | succ fuel ih=>
  intro A s W x hc I hA
  have aE:∀ (i:Nat) (o:Oper) (v:Value) (W':World),i < m->i∈Region.ready .any ops A->ops[i]?=some o->a_E ks i=none->(∀ t,o.dst=some t->(G x).tmps[t]?=some v)->Below W.heap.size W W'->wpAny P .any ops Q fuel (A.setIfInBounds i true) (s.put o.dst v) W':=by
   intro i o v W' ak hi ho aj hv a2;obtain ⟨ay,o',aH,H⟩:=mem_ready.1 hi;obtain rfl:o'=o:=by rw [ho] at aH;exact (Option.some.inj aH).symm
   have aU:=f_3 aj
   have J:∀ E,E∈ks->E.k≠i->(A.setIfInBounds i true).getD E.k false=true->A.getD E.k false=true:=fun E _ ae h=>by
    rw [getD_set_ne false (Ne.symm ae)] at h;exact h
   refine ih _ _ W' x (c_f ay hc) ⟨by simpa using I.size,fun j hj aW=>by rw [getD_set_ne true (by omega)];exact I.head j hj aW,by rw [a_V];exact I.fsize,by rw [c_k];exact I.fdef,fun t av=>?_,I.below.trans (a2.mono I.below.size),fun e R hl=>hφ e R _ _ _ (I.told e R (J e R (aU e R) hl)) a2,d_T ho H I.closed⟩ (fun e E he O hf an M h2=>hA e E he O hf an (J e he (aU e he) M) (J E O (aU E O) h2));by_cases hd:o'.dst=some t
   ·rw [hv t hd,hd];exact c_J (by rw [I.fsize];exact (Array.getElem?_eq_some_iff.1 (hv t hd)).1)
   ·rw [b_T hd];refine I.slot t fun j oj hj af aF=>?_;have:=av j oj hj af aF;by_cases c:i=j
    ·subst c;rw [ho] at af;cases af;exact absurd aF hd
    ·rw [getD_set_ne false c] at this;exact this
  have aI:∀ (e:Told) (o:Oper) (v:Value) (W':World),e.k < m->e.k∈Region.ready .any ops A->ops[e.k]?=some o->a_E ks e.k=some e->e.φ v W'->Below w.heap.size w W'->(∀ E,E∈ks->E.k≠e.k->A.getD E.k false=true->∀ u,E.φ u W->E.φ u W')->((e.k∈fc->∀ b,Z v=some b->W.heap.size<=b∨∃ e0,e0∈ks/\e0.k∈fc/\(o.looksAt ops).contains e0.t=true/\Z (x e0.k)=some b)/\(e.k∈fa->∀ b,Z v=some b->W.heap.size<=b))->wpAny P .any ops Q fuel (A.setIfInBounds e.k true) (s.put o.dst v) W':=by
   intro e o v W' ak hi ho aj hv bj aY a1;obtain ⟨ay,o',aH,H⟩:=mem_ready.1 hi;obtain rfl:o'=o:=by rw [ho] at aH;exact (Option.some.inj aH).symm
   obtain ⟨R,-⟩:=b_K aj;have a0:o'.dst=some e.t:=by have:=(ac e R).2.2;rw [ho] at this;exact this
   have aQ:∀ E,E∈ks->E.k=e.k->E=e:=fun E O hk=>by
    have M:=e_5 ks bm E O;rw [hk,aj] at M;exact (Option.some.inj M).symm
   have J:∀ E,E∈ks->E.k≠e.k->(A.setIfInBounds e.k true).getD E.k false=true->A.getD E.k false=true:=fun E _ ae h=>by
    rw [getD_set_ne false (Ne.symm ae)] at h;exact h
   refine ih _ _ W' (upd x e.k v) (c_f ay hc) ⟨by simpa using I.size,fun j hj aW=>by rw [getD_set_ne true (by omega)];exact I.head j hj aW,by rw [a_V,I.fsize,aw,aw],by rw [c_k,I.fdef,hG,hG,c_V,c_V],fun t av=>?_,bj,fun E ab hl=>?_,d_T ho H I.closed⟩ (fun e1 e2 au ag aM aD l1 l2=>by
    show ∀ b,Z (if e1.k=e.k then v else x e1.k)=some b->Z (if e2.k=e.k then v else x e2.k)≠some b;intro b;by_cases c1:e1.k=e.k
    ·have c2:e2.k≠e.k:=fun h=>aP e1.k aM (by rw [c1,<- h];exact aD);rw [if_pos c1,if_neg c2];intro h h';have p2:=bc e2 ag (.inr aD) _ _ (I.told e2 ag (J e2 ag c2 l2)) b h';rcases a1.1 (c1 ▸ aM) b h with p1|⟨e0,k0,f0,g0,h0⟩
     ·omega
     ·obtain ⟨q1,_,q3⟩:=ac e0 k0;exact hA e0 e2 k0 ag f0 aD (a_w ((ax e.k o' ak ho e0.k e0.t q1 q3).1 (by simpa using g0)) H) (J e2 ag c2 l2) b h0 h'
    ·rw [if_neg c1];by_cases c2:e2.k=e.k
     ·rw [if_pos c2];intro h h';have p1:=a1.2 (c2 ▸ aD) b h';have p2:=bc e1 au (.inl aM) _ _ (I.told e1 au (J e1 au c1 l1)) b h;omega
     ·rw [if_neg c2];exact hA e1 e2 au ag aM aD (J e1 au c1 l1) (J e2 ag c2 l2) b)
   ·by_cases hd:o'.dst=some t
    ·rw [hd];obtain rfl:e.t=t:=by rw [a0] at hd;exact Option.some.inj hd
     rw [bq _ e R,c_J (by rw [I.fsize,aw];exact (ac e R).2.1)];show some v=some (if e.k=e.k then v else x e.k);rw [if_pos rfl]
    ·rw [b_T hd,hG,f_2 x e.k v t ks G0 G0 rfl rfl (fun E O aV hh=>hd (by rw [a0,<- hh,aQ E O aV])),<- hG];refine I.slot t fun j oj hj af aF=>?_;have:=av j oj hj af aF;by_cases c:e.k=j
     ·subst c;rw [ho] at af;cases af;exact absurd aF hd
     ·rw [getD_set_ne false c] at this;exact this
   ·by_cases c:E.k=e.k
    ·obtain rfl:=aQ E ab c;show E.φ (if E.k=E.k then v else x E.k) W';rw [if_pos rfl];exact hv
    ·show E.φ (if E.k=e.k then v else x E.k) W';rw [if_neg c];exact aY E ab c (J E ab c hl) _ (I.told E ab (J E ab c hl))
  by_cases hE:∃ L,L∈L0/\L∈Region.ready .any ops A
  ·obtain ⟨L,ai,hE⟩:=hE;obtain ⟨ay,V,ad,H⟩:=mem_ready.1 hE;have az:=(a8 L ai).1;replace aS:=aS L ai V ad;replace hQ:=hQ L ai V ad;replace hY:=hY L ai V ad;replace aX:=aX L ai V ad
   have am:∀ t,t∈V.looksAt ops->s.tmps[t]?=(G x).tmps[t]?:=fun t ah=>
    I.slot t fun j oj hj af hd=>a_w ((ax L V az ad j t hj (by rw [af];exact hd)).1 ah) H
   have he:=c_e (ops:=ops) (Region.noSelect_spec aG L V · · ad) am;have aq:=b_J am
   obtain ⟨v,hy,hn⟩:∃ v,Yields P ops V v (G x)/\wpAny P .any ops Q fuel (A.setIfInBounds L true) (s.put V.dst v) W:=by
    cases aA:a_E ks L with
    | none=>
     obtain ⟨v,hv,hy⟩:=hY aA x fun e R ah=>by
      obtain ⟨M,_,h3⟩:=ac e R;exact ⟨W,I.told e R (a_w ((ax L V az ad e.k e.t M h3).1 (by simpa using ah)) H)⟩
     exact ⟨v,hy,aE L V v W az hE ad aA hv (Below.refl _ _)⟩
    | some e=>
     obtain ⟨R,aR⟩:=b_K aA;subst aR
     obtain ⟨v,hv,hy⟩:=aX e aA W x fun E ab ah=>by
      obtain ⟨M,_,h3⟩:=ac E ab;exact I.told E ab (a_w ((ax e.k V az ad E.k E.t M h3).1 (by simpa using ah)) H)
     exact ⟨v,hy,aI e V v W az hE ad aA hv I.below (fun _ _ _ _ _ h=>h) ⟨fun h=>absurd h (bg _ ai).1,fun h=>absurd h (bg _ ai).2⟩⟩
   have bu:Yields P ops V v s:=by
    rcases hy with ⟨M,h2⟩|⟨M,h2⟩
    ·exact .inl ⟨aq.trans M,fun w=>by rw [he];exact h2 w⟩
    ·exact .inr ⟨aq.trans M,h2⟩
   exact wpAny_first (md:=.any) ad (Region.noSelect_spec aG) (fun c a w h=>hQ c a w v h) fuel A s W (fun j oj hj ae ba bi=>aS j oj hj ae (by
    cases aJ:b_v V j with
    | false=>rfl
    | true=>
     have M:=a_w aJ H;have h2:=(b_w ba).2;rw [M] at h2;cases h2) (by
    cases aJ:b_v oj L with
    | false=>rfl
    | true=>
     unfold b_v at aJ;obtain ⟨e,au,ag⟩:=Array.any_eq_true'.1 aJ;simp only [Bool.and_eq_true,beq_iff_eq] at ag;exact absurd ag.2 (bi e au ag.1))) hE bu hn
  refine ⟨fun hr=>by
   obtain ⟨i,hi⟩:=e_3 hc;exact absurd hr (e_i I.size hb i hi),fun i hi=>?_⟩
  obtain ⟨ay,o,ho,H⟩:=mem_ready.1 hi;have bh:i < ops.size:=(Array.getElem?_eq_some_iff.1 ho).1;rcases Nat.lt_or_ge i m with ak|ak
  ·have am:∀ t,t∈o.looksAt ops->s.tmps[t]?=(G x).tmps[t]?:=fun t ah=>
    I.slot t fun j oj hj af hd=>a_w ((ax i o ak ho j t hj (by rw [af];exact hd)).1 ah) H
   have he:=c_e (ops:=ops) (Region.noSelect_spec aG i o · · ho) am;have aq:=b_J am
   have al:b_Y ops ks o x (e_1 W):=fun e R ah d=>by
    obtain ⟨M,_,h3⟩:=ac e R;have hl:=a_w ((ax i o ak ho e.k e.t M h3).1 (by simpa using ah)) H;exact hφ e R _ _ _ (I.told e R hl) (a_5 W d)
   have ao:=bb x i o ak ho;unfold f_n at ao;obtain ⟨d0,aO⟩:=f_z (Below.refl W.heap.size W)
   have J:∀ e,e∈ks->e.k≠i->(A.setIfInBounds i true).getD e.k false=true->A.getD e.k false=true:=fun e _ ae h=>by
    rw [getD_set_ne false (Ne.symm ae)] at h;exact h
   unfold wpOp;simp only [ho];cases aj:a_E ks i with
   | none=>
    rw [aj] at ao;replace ao:=ao (e_1 W) (e_2 I.below) al;have aa:=fun v W'=>aE i o v W' ak hi ho aj;rcases ao with ⟨hw,v,hv,hq⟩|⟨hw,hu⟩
    ·rw [if_pos (aq.trans hw)]
     left
     have hq:=hq d0;rw [<- aO] at hq;unfold Oper.wp;unfold Oper.quietAt at hq;rw [he];generalize (execOp (G x).eval o).run P W=r at hq;cases r with
     | halt x w'=>exact hq.elim
     | ok n w'=>
      cases n <;> simp only [Oper.quietUpon] at hq <;> simp only [Oper.upon]
      case value u=>
       obtain ⟨e1,e2⟩:=hq;rw [e1,e2];exact aa v W hv (Below.refl _ _)
      case skip=>
       obtain ⟨e1,e2⟩:=hq;rw [e1,<- e2];exact aa v W hv (Below.refl _ _)
      case enter f args=>
       obtain ⟨e1,hc⟩:=hq;rw [e1];exact hc.mono fun e aL ⟨he,d,a5⟩=>by subst he;rw [a5];exact aa v _ hv (a_5 W d)
    ·rw [if_neg (by rw [aq,hw];exact Bool.false_ne_true)];exact aa undef W hu (Below.refl _ _)
   | some e=>
    rw [aj] at ao;obtain ⟨R,aR⟩:=b_K aj;subst aR;have aa:=fun v W'=>aI e o v W' ak hi ho aj;rcases Decidable.em (e.k=c) with ap|ap
    ·obtain ⟨hw,hz⟩:=ao.2 ap;rw [if_pos (aq.trans hw)]
     left
     have hy:=hz W I.below fun E ab ah _=>I.told E ab (by obtain ⟨M,_,h3⟩:=ac E ab;exact a_w ((ax e.k o ak ho E.k E.t M h3).1 (by simpa using ah)) H)
     have ar:∀ (v:Value) (W':World),(e.φ v W'/\Below w.heap.size w W'/\T W W')->wpAny P .any ops Q fuel (A.setIfInBounds e.k true) (s.put o.dst v) W':=fun v W' ⟨M,h2,h3⟩=>aa v W' M h2 (fun E O ae bp u hu=>bo E O (by rw [<- ap];exact ae) (fun hd=>by
      have h7:=(b_w ay).2;rw [ap,b_d hb I.closed hD _ hd bp] at h7;cases h7) u W W' hu I.below h3) ⟨fun h=>absurd h (a6 e R ap).1,fun h=>absurd h (a6 e R ap).2⟩
     unfold Oper.wp;unfold b_i at hy;rw [he];generalize (execOp (G x).eval o).run P W=r at hy;cases r with
     | halt x w'=>exact hy.elim
     | ok n w'=>
      cases n <;> simp only [a_Z] at hy <;> simp only [Oper.upon]
      case value u=>exact ar u w' hy
      case skip=>exact ar undef w' hy
      case enter f args=>
       obtain ⟨e1,hc⟩:=hy;rw [e1];exact hc.mono fun E aL ⟨v,O,M⟩=>by subst O;exact ar v aL M
    obtain ⟨hw,hy⟩:=ao.1 ap (e_1 W) (e_2 I.below) al;rw [if_pos (aq.trans hw)]
    left
    have hy:=hy d0;rw [<- aO] at hy
    have hy:a_j P o (G x) W fun v W'=>e.φ v W'/\((e.k∈fc->∀ b,Z v=some b->W.heap.size<=b∨∃ e0,e0∈ks/\e0.k∈fc/\(o.looksAt ops).contains e0.t=true/\Z (x e0.k)=some b)/\(e.k∈fa->∀ b,Z v=some b->W.heap.size<=b)):=by
     by_cases hf:e.k∈fc
     ·have M:=br e R hf o ho x (e_1 W) (e_2 I.below) al d0;rw [<- aO] at M;exact e_k (fun v W' h=>⟨h.1,fun _=>h.2,fun h'=>absurd h' (aP _ hf)⟩) M
     ·by_cases an:e.k∈fa
      ·have M:=bt e R an o ho x (e_1 W) (e_2 I.below) al d0;rw [<- aO] at M;exact e_k (fun v W' h=>⟨h.1,fun h'=>absurd h' hf,fun _=>h.2⟩) M
      ·exact e_k (fun v W' h=>⟨h,fun h'=>absurd h' hf,fun h'=>absurd h' an⟩) hy
    replace aa:∀ (v:Value) (W':World),e.φ v W'->Below W.heap.size W W'->((e.k∈fc->∀ b,Z v=some b->W.heap.size<=b∨∃ e0,e0∈ks/\e0.k∈fc/\(o.looksAt ops).contains e0.t=true/\Z (x e0.k)=some b)/\(e.k∈fa->∀ b,Z v=some b->W.heap.size<=b))->wpAny P .any ops Q fuel (A.setIfInBounds e.k true) (s.put o.dst v) W':=fun v W' M h2 h3=>aa v W' M (I.below.trans (h2.mono I.below.size)) (fun E O _ _ u hu=>hφ E O _ _ _ hu h2) h3;unfold Oper.wp;unfold a_j at hy;rw [he];generalize bv:(execOp (G x).eval o).run P W=r at hy;cases r with
    | halt x w'=>exact hy.elim
    | ok n w'=>
     cases n <;> simp only [a_e] at hy <;> simp only [Oper.upon]
     case value u=>exact aa u w' hy.1.1 hy.2 hy.1.2
     case skip=>exact aa undef w' hy.1.1 hy.2 hy.1.2
     case enter f args=>
      obtain ⟨e1,hc⟩:=hy;rw [e1]
      exact hc.mono fun E aL ⟨v,O,M,h2⟩=>by
       subst O;exact aa v aL M.1 h2 M.2
  ·obtain rfl:i=m:=by
    rcases Nat.lt_or_ge m i with c|c
    ·have M:=a_w (hT i o ho m (Nat.le_refl _) c) H;have h2:=(b_w (I.head m (Nat.le_refl _) (by omega))).2;rw [M] at h2;cases h2
    ·omega
   have a3:∀ d j,i - j=d->j < i->j∉L0->A.getD j false=true:=by
    intro d
    induction d using Nat.strongRecOn with
    | _ d ihd=>
     intro j hd hj aZ;obtain ⟨k,ok,bw,hk,bk,aT,bd⟩:=hS bh j hj aZ;rcases Nat.lt_or_ge k i with c|c
     ·have:=ihd (i - k) (by omega) k rfl c bk;exact a_w bd (I.closed k ok aT this)
     ·obtain rfl:k=i:=by omega
      rw [ho] at aT;cases aT;exact a_w bd H
   have bl:∀ L,L∈L0->A.getD L false=true:=fun L ai=>by
    obtain ⟨az,V,ad,a7⟩:=a8 L ai;rcases Bool.eq_false_or_eq_true (A.getD L false) with h|h
    ·exact h
    ·exfalso;apply hE;refine ⟨L,ai,mem_ready.2 ⟨?_,V,ad,fun e he aN=>a3 _ e.on rfl (by have:=hb L V ad e he aN;omega) (a7 e he aN)⟩⟩;have a9:L < A.size:=by rw [I.size];omega
     rw [Array.getD_eq_getD_getElem?,Array.getElem?_eq_getElem a9] at h ⊢;exact h
   have hl:∀ j,j < i->A.getD j false=true:=fun j hj=>by
    by_cases c:j∈L0
    ·exact bl j c
    ·exact a3 _ j rfl hj c
   have hs:=I.all hl;have h:=ht W x I.below (fun e he=>I.told e he (hl _ (ac e he).1)) (fun e E he O hf an=>hA e E he O hf an (hl _ (ac e he).1) (hl _ (ac E O).1));rw [<- hs] at h;exact (j_U (P:=P) (Q:=Q) hb hT (fuel+1) i A s W I.size (Nat.le_refl _) hc hl I.head h).2 i hi
/-- THE LAW: the first m operations read, call, or make memory, but for number c, which may write what was made since; those that are told (ks) hand back what differs from world to world; told rows (fc) lie apart from blocks that are made (fa); the rest waits for all. -/
theorem u_E {id:Nat} (c:Nat) (T:World->World->Prop) {a:Act} {w:World} {l:List Oper} (ks:List Told) (m n:Nat) (hm:P.follows .mixedOrders=true) (hn:a.tmps.size=n) (L:l=ops.toList.take m) (V:List Nat) (hB:(e_6 ops V m && d_6 ops n l)=true) (ak:(V.all fun A=>h_3 ops A)=true)
  (hQ:∀ A,A∈V->∀ J,ops[A]?=some J->∀ c a w v,Q (.panic c) (a.put J.dst v) w->Q (.panic c) a w) (hK:g_v ops ks m n=true) (R fa:List Nat) (H:Value->Option Nat) (ag:∀ e,e∈ks->e.k∈R∨e.k∈fa->∀ v W,e.φ v W->∀ b,H v=some b->b < W.heap.size) (ab:∀ k,k∈R->k∉fa) (an:∀ A,A∈V->A∉R/\A∉fa) (ae:∀ e,e∈ks->e.k=c->e.k∉R/\e.k∉fa) (D:List Nat) (hD:i_3 ops c D=true) (ap:∀ e,e∈ks->e.k≠c->e.k∉D->∀ v W W',e.φ v W->Below w.heap.size w W->T W W'->e.φ v W')
  (hφ:∀ e,e∈ks->∀ v W W',e.φ v W->Below W.heap.size W W'->e.φ v W')
  (h:∃ G:(Nat->Value)->Act,(∀ A,A∈V->∀ J,ops[A]?=some J->∀ e,a_E ks A=some e->∀ W x,(∀ M,M∈ks->(J.looksAt ops).contains M.t=true->M.φ (x M.k) W)->∃ v,e.φ v W/\Yields P ops J v (G x))/\(∀ A,A∈V->∀ J,ops[A]?=some J->a_E ks A=none->∀ x,(∀ e,e∈ks->(J.looksAt ops).contains e.t=true->∃ W,e.φ (x e.k) W)->∃ v,(∀ t,J.dst=some t->(G x).tmps[t]?=some v)/\Yields P ops J v (G x))/\(∀ x,c_O P ops w ks (l_3 P ops w ks c T x) x (G x) 0 l a)/\(∀ x,G x=b_q ks x (G fun _=>undef))/\(∀ e,e∈ks->e.k∈R->∀ o,ops[e.k]?=some o->∀ x F,Fam w F->b_Y ops ks o x F->∀ d,a_j P o (G x) (F d) fun v W'=>e.φ v W'/\∀ b,H v=some b->(F d).heap.size<=b∨∃ e0,e0∈ks/\e0.k∈R/\(o.looksAt ops).contains e0.t=true/\H (x e0.k)=some b)/\(∀ e,e∈ks->e.k∈fa->∀ o,ops[e.k]?=some o->∀ x F,Fam w F->b_Y ops ks o x F->∀ d,a_j P o (G x) (F d) fun v W'=>e.φ v W'/\∀ b,H v=some b->(F d).heap.size<=b)/\
   ∀ W x,Below w.heap.size w W->(∀ e,e∈ks->e.φ (x e.k) W)->(∀ e M,e∈ks->M∈ks->e.k∈R->M.k∈fa->∀ b,H (x e.k)=some b->H (x M.k)≠some b)->wpList P ops Q (ops.toList.drop m) (G x) W):(Code.region id ops true).wp P Q a w:=by
 obtain ⟨G,ah,hY,h1,h2,al,ao,h3⟩:=h;rw [Bool.and_eq_true] at hB;have ac:=hB.1;simp only [e_6,Bool.and_eq_true,decide_eq_true_eq] at ac;have O:=hK;simp only [g_v,Bool.and_eq_true,decide_eq_true_eq] at O
 have hk:∀ j e,a_E ks (0+j)=some e->∀ o,l[j]?=some o->o.dst=some e.t:=by
  intro j e he o I;obtain ⟨aj,Z⟩:=b_K he;have:=all_eq_true.1 O.1.1 e aj;simp only [Bool.and_eq_true,decide_eq_true_eq,beq_iff_eq] at this;have ai:j < m:=by rw [Nat.zero_add] at Z;rw [<- Z];exact this.1.1
  rw [L,getElem?_take_of_lt ai] at I;have h4:=this.2;rw [Z,Nat.zero_add,show ops[j]?=some o by simpa using I] at h4;exact h4
 have ad:∀ o,o∈l->∀ cs b,o.op≠.select cs b:=by
  intro o I cs b;rw [L] at I;obtain ⟨j,hj,e⟩:=getElem_of_mem (mem_of_mem_take I);exact Region.noSelect_spec ac.1.1.1.1.2 j o cs b (by rw [<- e];simp at hj ⊢)
 have af:∀ x,(G x).tmps.size=n:=fun x=>by rw [(f_4 l 0 a hk (h1 x)).1,hn]
 have aa:=f_4 l 0 a hk (h1 fun _=>undef);refine wp_region_any hm (h_j (c:=c) (T:=T) (w:=w) (ks:=ks) (m:=m) (n:=n) (G:=G) (G0:=G fun _=>undef) V R fa H al ao ag ab ae D hD ap an hB.1 (fun A hi J aq=>o_w aq (all_eq_true.1 ak A hi)) hQ ah hY hK hφ h2 (af _) (fun x i o hi I=>?_) h3 _ _ _ _ (fun _=>undef) ?_ ⟨by simp,fun j _ hj=>by simp [hj],aa.1.symm,aa.2.1.symm,fun t hc=>?_,⟨rfl,rfl,rfl,Nat.le_refl _,fun _ _=>rfl⟩,fun e he L=>?_,fun j o I L=>?_⟩ (fun e M he _ _ _ L _=>?_))
 ·have:=l_4 (fun i o a e he hw h=>k_0 he hw h) n l 0 a hn ad hB.2 hk (h1 x) i o (by rw [L,getElem?_take_of_lt hi];simpa using I);rw [Nat.zero_add] at this;exact this
 ·simp
 ·refine (aa.2.2 t fun am=>?_).symm;obtain ⟨o,I,hd⟩:=mem_filterMap.1 am;rw [L] at I;obtain ⟨j,hj,e⟩:=getElem_of_mem I;simp at hj e;have E:j < ops.size:=by omega
  have:=hc j o (by omega) (by rw [Array.getElem?_eq_getElem E,e]) hd;simp [E] at this
 ·have:=all_eq_true.1 O.1.1 e he;simp only [Bool.and_eq_true,decide_eq_true_eq,beq_iff_eq] at this;have E:e.k < ops.size:=by have:=this.1.1;omega
  simp [E] at L
 ·have E:j < ops.size:=(Array.getElem?_eq_some_iff.1 I).1;simp [E] at L
 ·have:=all_eq_true.1 O.1.1 e he;simp only [Bool.and_eq_true,decide_eq_true_eq,beq_iff_eq] at this;have E:e.k < ops.size:=by have:=this.1.1;omega
  simp [E] at L
/-- THE LAW: no block is made; the first m operations are quiet, the rest waits for all. -/
theorem u_F {id:Nat} {a:Act} {w:World} {l:List Oper} (m n:Nat) (hm:P.follows .mixedOrders=true) (hn:a.tmps.size=n) (J:l=ops.toList.take m) (V:(e_6 ops [] m && d_6 ops n l)=true)
  (h:∃ A,(∀ F,Fam w F->wpQuiet P ops (fun W=>∃ d,W=F d) (fun a'=>a'=A) l a)/\∀ W,Below w.heap.size w W->wpList P ops Q (ops.toList.drop m) A W):(Code.region id ops true).wp P Q a w:=by
 obtain ⟨A,h1,h2⟩:=h;rw [Bool.and_eq_true] at V;have O:=V.1;simp only [e_6,Bool.and_eq_true,decide_eq_true_eq] at O
 have R:∀ o,o∈l->∀ cs b,o.op≠.select cs b:=by
  intro o H cs b;rw [J] at H;obtain ⟨j,M,e⟩:=getElem_of_mem (mem_of_mem_take H);exact Region.noSelect_spec O.1.1.1.1.2 j o cs b (by rw [<- e];simp at M ⊢)
 have E:=d_A l a (h1 _ (e_2 (Below.refl _ _)));have no:∀ {p:Prop} (e:Told),e∈([]:List Told)->p:=fun e h=>absurd h not_mem_nil;have L:∀ {p:Prop} (i:Nat),i∈([]:List Nat)->p:=fun e h=>absurd h not_mem_nil;refine wp_region_any hm (h_j (c:=m) (T:=fun _ _=>False) (w:=w) (ks:=[]) (m:=m) (n:=n) (G:=fun _=>A) (G0:=A) [] [] [] (fun _=>none) (fun e h=>no e h) (fun e h=>no e h) (fun e h=>no e h) (fun _ h=>L _ h) (fun e h=>no e h) [] rfl (fun e h=>no e h) (fun _ h=>L _ h) V.1 (fun _ h=>L _ h) (fun _ h=>L _ h) (fun _ h=>L _ h) (fun _ h=>L _ h) rfl (fun e h=>no e h) (fun _=>rfl) (by rw [E.1,hn]) (fun x i o hi H=>?_) (fun W x hb _ _=>h2 W hb) _ _ _ _ (fun _=>undef) ?_ ⟨by simp,fun j _ M=>by simp [M],E.1.symm,E.2.1.symm,fun t hc=>?_,⟨rfl,rfl,rfl,Nat.le_refl _,fun _ _=>rfl⟩,fun e he J=>no e he,fun j o H J=>?_⟩ (fun e e' he _ _ _ J _=>no e he))
 ·show ∀ F,Fam w F->b_Y ops [] o x F->_;intro F hF _;rcases e_J n l a hn R V.2 (h1 F hF) o (mem_of_getElem? (i:=i) (by rw [J,getElem?_take_of_lt hi];simpa using H)) with ⟨c,v,hv,hq⟩|h
  ·exact .inl ⟨c,v,hv,fun d=>hq _ ⟨d,rfl⟩⟩
  ·exact .inr h
 ·simp
 ·refine (E.2.2 t fun Z=>?_).symm;obtain ⟨o,H,hd⟩:=mem_filterMap.1 Z;rw [J] at H;obtain ⟨j,M,e⟩:=getElem_of_mem H;simp at M e;have I:j < ops.size:=by omega
  have:=hc j o (by omega) (by rw [Array.getElem?_eq_getElem I,e]) hd;simp [I] at this
 ·have I:j < ops.size:=(Array.getElem?_eq_some_iff.1 H).1;simp [I] at J
/-- THE LAW, with a block that is made by operation number al. -/
theorem e_K {id:Nat} {a A:Act} {w:World} {l:List Oper} (m n:Nat) (J:P.follows .mixedOrders=true) (L:a.tmps.size=n) (O:l=ops.toList.take m) (I:(e_6 ops [] m && d_6 ops n l)=true)
  (E:∀ F,Fam w F->(∀ d b o,b < w.heap.size->(F d).cell? ⟨b,o,none⟩=w.cell? ⟨b,o,none⟩)->(∀ d b o,b < w.heap.size->(F d).frozen? ⟨b,o,none⟩=w.frozen? ⟨b,o,none⟩)->wpQuiet P ops (fun W=>∃ d,W=F d) (fun H=>H=A) l a) (M:∀ W,Below w.heap.size w W->wpList P ops Q (ops.toList.drop m) A W):(Code.region id ops true).wp P Q a w:=
 u_F m n J L O I ⟨A,fun F hF=>E F hF hF.cell hF.frozen,M⟩
theorem h_k {id:Nat} {a:Act} {w:World} {l:List Oper} {mk:Oper} (L:Obj) (H m n d:Nat) (hm:P.follows .mixedOrders=true) (hn:a.tmps.size=n) (hl:l=(ops.toList.take m).eraseIdx H) (hB:(e_6 ops [] m && d_6 ops n l && decide (H < m) && decide (d < n) && (range m).all fun i=>match ops[i]? with|none=>false|some o=>!(o.looksAt ops).contains d && (i==H || o.dst != some d))=true)
  (E:ops[H]?=some mk) (hd:mk.dst=some d) (hg:mk.guard=none)
  (h:∃ A,(∀ F,Fam w F->wpQuiet P ops (fun W=>∃ d,W=F d) (fun a'=>a'=A) l a)/\(∀ W,(execOp A.eval mk).run P W = .ok (.value (k_Z W.heap.size)) (W.alloc L))/\
   ∀ W b,Below w.heap.size w W->Made w L b W->wpList P ops Q (ops.toList.drop m) (A.put (some d) (k_Z b)) W):(Code.region id ops true).wp P Q a w:=by
 obtain ⟨A,h1,ai,h3⟩:=h;simp only [Bool.and_eq_true,decide_eq_true_eq] at hB;obtain ⟨⟨⟨⟨hB,aj⟩,aa⟩,ao⟩,an⟩:=hB;have ag:=hB;simp only [e_6,Bool.and_eq_true,decide_eq_true_eq] at ag;have ac:∀ (i:Nat) (o:Oper),ops[i]?=some o->∀ cs b,o.op≠.select cs b:=fun i o E cs b=>Region.noSelect_spec ag.1.1.1.1.2 i o cs b E
 have ah:∀ o,o∈l->∀ cs b,o.op≠.select cs b:=by
  intro o E cs b;rw [hl] at E;obtain ⟨j,hj,e⟩:=getElem_of_mem (mem_of_mem_take (mem_of_mem_eraseIdx E));exact ac j o (by rw [<- e];simp at hj ⊢) cs b
 have lk:∀ (i:Nat) (o:Oper),i < m->ops[i]?=some o->d∉o.looksAt ops/\(i=H∨o.dst≠some d):=fun i o hi E=>by
  have:=all_eq_true.1 an i (mem_range.2 hi);simp only [E,Bool.and_eq_true,Bool.or_eq_true,beq_iff_eq,Bool.not_eq_true',bne_iff_ne] at this;exact ⟨fun c=>by have:=this.1;simp [c] at this,this.2⟩
 have Z:=d_A l a (h1 _ (e_2 (Below.refl _ _)));have ab:∀ (v:Value) (i:Nat) (o:Oper),i < m->ops[i]?=some o->(∀ t,t∈o.looksAt ops->(A.put (some d) v).tmps[t]?=A.tmps[t]?):=fun v i o hi E t J=>b_T fun e=>(lk i o hi E).1 (by rw [Option.some.inj e];exact J);have O:∀ {p:Prop} (i:Nat),i∈([]:List Nat)->p:=fun e h=>absurd h not_mem_nil;obtain ⟨I,R⟩:∃ I:Told,I=⟨H,d,fun v W=>∃ b,v=k_Z b/\Made w L b W⟩:=⟨_,rfl⟩
 have ad:∀ {p:Told->Prop},p I->∀ e,e∈[I]->p e:=fun h e he=>by rw [mem_singleton.1 he];exact h
 have ek:I.k=H:=by rw [R]
 have et:I.t=d:=by rw [R]
 have ae:H < ops.size:=(Array.getElem?_eq_some_iff.1 E).1;have ar:ops[H]=mk:=by have:=E;rw [Array.getElem?_eq_getElem ae] at this;exact Option.some.inj this
 have am:A.tmps.size=n:=by rw [Z.1,hn]
 refine wp_region_any hm (h_j (c:=m) (T:=fun _ _=>False) (w:=w) (ks:=[I]) (m:=m) (n:=n) (G:=fun x=>A.put (some d) (x H)) (G0:=A.put (some d) undef) [] [] [] (fun _=>none) (fun _ _ h=>O _ h) (fun _ _ h=>O _ h) (fun _ _ h=>h.elim (O _) (O _)) (fun _ h=>O _ h) (ad fun h=>by rw [ek] at h;omega) [] rfl (fun _ _ _ _ _ _ _ _ _ h=>h.elim) (fun _ h=>O _ h) hB (fun _ h=>O _ h) (fun _ h=>O _ h) (fun _ h=>O _ h) (fun _ h=>O _ h) ?_ (ad ?_) (fun x=>?_) (by rw [a_V];exact am) (fun x i o hi M=>?_) (fun W x hb hf _=>?_) _ _ _ _ (fun _=>undef) ?_ ⟨by simp,fun j _ hj=>by simp [hj],by rw [a_V];exact Z.1.symm,by rw [c_k];exact Z.2.1.symm,fun t hc=>?_,⟨rfl,rfl,rfl,Nat.le_refl _,fun _ _=>rfl⟩,ad fun hl=>?_,fun j o E hl=>?_⟩ (fun _ _ _ _ h=>O _ h))
 ·simp [g_v,ek,et,aa,ao,E,hd]
 ·rw [R];exact fun v W W' ⟨b,e,hM⟩ hb=>⟨b,e,hM.up hb⟩
 ·show _=(A.put (some d) undef).put (some I.t) (x I.k);rw [ek,et];simp [Act.put]
 ·by_cases c:i=H
  ·subst c;obtain rfl:o=mk:=by rw [E] at M;exact (Option.some.inj M).symm
   have J:a_E [I] i=some I:=by simp [a_E,ek]
   unfold f_n;rw [J];refine ⟨fun _ F hF hf=>⟨?_,fun dd=>?_⟩,fun h=>by omega⟩
   ·unfold Region.wanted;rw [hg]
   ·unfold a_j;rw [c_e (ac i o E) (ab _ i o hi E),ai,R];exact ⟨⟨_,rfl,by show _ < ((F dd).heap.push L).size;simp,(hF.below dd).size,by show ((F dd).heap.push L)[(F dd).heap.size]?=some L;simp⟩,(Below.refl _ _).alloc (Nat.le_refl _) _⟩
  ·have J:a_E [I] i=none:=by simp [a_E,ek];exact fun h=>c h.symm
   unfold f_n;rw [J];intro F hF _;have hs:=ab (x H) i o hi M;have ap:=(lk i o hi M).2.resolve_left c;have af:∀ t,o.dst=some t->(A.put (some d) (x H)).tmps[t]?=A.tmps[t]?:=fun t J=>b_T fun e=>ap (by rw [J,Option.some.inj e]);rw [b_J hs];rcases e_J n l a hn ah aj (h1 F hF) o (o_u hl i o hi c M) with ⟨c1,v,hv,hq⟩|⟨c1,hv⟩
   ·refine .inl ⟨c1,v,fun t J=>(af t J).trans (hv t J),fun dd=>?_⟩;have:=hq _ ⟨dd,rfl⟩;unfold Oper.quietAt at *;rw [c_e (ac i o M) hs];exact this
   ·exact .inr ⟨c1,fun t J=>(af t J).trans (hv t J)⟩
 ·have:=hf I mem_cons_self;rw [R] at this;obtain ⟨b,e,hM⟩:=this;rw [e];exact h3 W b hb hM
 ·simp
 ·have ak:t≠d:=fun e=>by
   have:=hc H mk aa E (by rw [hd,e]);simp [ae] at this
  rw [b_T (fun e=>ak (Option.some.inj e).symm)];refine (Z.2.2 t fun aq=>?_).symm;obtain ⟨o,E,hd⟩:=mem_filterMap.1 aq;rw [hl] at E;obtain ⟨j,hj,e⟩:=getElem_of_mem (mem_of_mem_eraseIdx E);simp at hj e;have V:j < ops.size:=by omega
  have:=hc j o (by omega) (by rw [Array.getElem?_eq_getElem V,e]) hd;simp [V] at this
 ·rw [ek] at hl;simp [ae] at hl
 ·have V:j < ops.size:=(Array.getElem?_eq_some_iff.1 E).1;simp [V] at hl
/-- THE LAW: the first m operations read, call, or make memory; those that are told (ks) hand back what differs from world to world; told rows (fc) lie apart from blocks that are made (fa); the rest waits for all. -/
theorem u_w {id:Nat} {a:Act} {w:World} {l:List Oper} (ks:List Told) (m n:Nat) (hm:P.follows .mixedOrders=true) (hn:a.tmps.size=n) (hl:l=ops.toList.take m) (J:List Nat) (hB:(e_6 ops J m && d_6 ops n l)=true) (ab:(J.all fun A=>h_3 ops A)=true)
  (hQ:∀ A,A∈J->∀ H,ops[A]?=some H->∀ c a w v,Q (.panic c) (a.put H.dst v) w->Q (.panic c) a w) (hK:g_v ops ks m n=true) (L M:List Nat) (E:Value->Option Nat) (af:∀ e,e∈ks->e.k∈L∨e.k∈M->∀ v W,e.φ v W->∀ b,E v=some b->b < W.heap.size) (O:∀ k,k∈L->k∉M) (ad:∀ A,A∈J->A∉L/\A∉M)
  (hφ:∀ e,e∈ks->∀ v W W',e.φ v W->Below W.heap.size W W'->e.φ v W')
  (h:∃ G:(Nat->Value)->Act,(∀ A,A∈J->∀ H,ops[A]?=some H->∀ e,a_E ks A=some e->∀ W x,(∀ I,I∈ks->(H.looksAt ops).contains I.t=true->I.φ (x I.k) W)->∃ v,e.φ v W/\Yields P ops H v (G x))/\(∀ A,A∈J->∀ H,ops[A]?=some H->a_E ks A=none->∀ x,(∀ e,e∈ks->(H.looksAt ops).contains e.t=true->∃ W,e.φ (x e.k) W)->∃ v,(∀ t,H.dst=some t->(G x).tmps[t]?=some v)/\Yields P ops H v (G x))/\(∀ x,c_5 P ops w ks x (G x) 0 l a)/\(∀ x,G x=b_q ks x (G fun _=>undef))/\(∀ e,e∈ks->e.k∈L->∀ o,ops[e.k]?=some o->∀ x F,Fam w F->b_Y ops ks o x F->∀ d,a_j P o (G x) (F d) fun v W'=>e.φ v W'/\∀ b,E v=some b->(F d).heap.size<=b∨∃ V,V∈ks/\V.k∈L/\(o.looksAt ops).contains V.t=true/\E (x V.k)=some b)/\(∀ e,e∈ks->e.k∈M->∀ o,ops[e.k]?=some o->∀ x F,Fam w F->b_Y ops ks o x F->∀ d,a_j P o (G x) (F d) fun v W'=>e.φ v W'/\∀ b,E v=some b->(F d).heap.size<=b)/\
   ∀ W x,Below w.heap.size w W->(∀ e,e∈ks->e.φ (x e.k) W)->(∀ e I,e∈ks->I∈ks->e.k∈L->I.k∈M->∀ b,E (x e.k)=some b->E (x I.k)≠some b)->wpList P ops Q (ops.toList.drop m) (G x) W):(Code.region id ops true).wp P Q a w:=by
 obtain ⟨G,aa,hY,Z,h2,ac,ae,h3⟩:=h
 have R:∀ e,e∈ks->e.k < m:=fun e he=>by
  simp only [g_v,Bool.and_eq_true,decide_eq_true_eq] at hK;have:=all_eq_true.1 hK.1.1 e he;simp only [Bool.and_eq_true,decide_eq_true_eq,beq_iff_eq] at this;exact this.1.1
 exact u_E m (fun _ _=>False) ks m n hm hn hl J hB ab hQ hK L M E af O ad (fun e he h=>absurd (R e he) (by omega)) [] rfl (fun _ _ _ _ _ _ _ _ _ h=>h.elim) hφ ⟨G,aa,hY,fun x=>f_5 (fun i o a e hi h=>by
  obtain ⟨Z,h2⟩:=b_K hi;have:=R e Z;exact ⟨fun _=>h,fun h=>by omega⟩) (Z x),h2,ac,ae,h3⟩
theorem t_i {id:Nat} {a:Act} {w:World} {l:List Oper} (ks:List Told) (m n:Nat) (V:P.follows .mixedOrders=true) (Z:a.tmps.size=n) (hl:l=ops.toList.take m) (H:List Nat) (O:(e_6 ops H m && d_6 ops n l)=true) (L:(H.all fun A=>h_3 ops A)=true)
  (hQ:∀ A,A∈H->∀ E,ops[A]?=some E->∀ c a w v,Q (.panic c) (a.put E.dst v) w->Q (.panic c) a w) (hK:g_v ops ks m n=true)
  (hφ:∀ e,e∈ks->∀ v W W',e.φ v W->Below W.heap.size W W'->e.φ v W')
  (h:∃ G:(Nat->Value)->Act,(∀ A,A∈H->∀ E,ops[A]?=some E->∀ e,a_E ks A=some e->∀ W x,(∀ I,I∈ks->(E.looksAt ops).contains I.t=true->I.φ (x I.k) W)->∃ v,e.φ v W/\Yields P ops E v (G x))/\(∀ A,A∈H->∀ E,ops[A]?=some E->a_E ks A=none->∀ x,(∀ e,e∈ks->(E.looksAt ops).contains e.t=true->∃ W,e.φ (x e.k) W)->∃ v,(∀ t,E.dst=some t->(G x).tmps[t]?=some v)/\Yields P ops E v (G x))/\(∀ x,c_5 P ops w ks x (G x) 0 l a)/\(∀ x,G x=b_q ks x (G fun _=>undef))/\
   ∀ W x,Below w.heap.size w W->(∀ e,e∈ks->e.φ (x e.k) W)->wpList P ops Q (ops.toList.drop m) (G x) W):(Code.region id ops true).wp P Q a w:=by
 obtain ⟨G,J,R,M,h2,h3⟩:=h;exact u_w ks m n V Z hl H O L hQ hK [] [] (fun _=>none) (fun _ _ h=>absurd h (by simp)) (fun _ h=>absurd h not_mem_nil) (fun _ _=>⟨not_mem_nil,not_mem_nil⟩) hφ ⟨G,J,R,M,h2,fun _ _ h=>absurd h not_mem_nil,fun _ _ h=>absurd h not_mem_nil,fun W x hb hf _=>h3 W x hb hf⟩
theorem rel {id:Nat} {a:Act} {w:World} {l:List Oper} (ks:List Told) (m n:Nat) (H:P.follows .mixedOrders=true) (I:a.tmps.size=n) (M:l=ops.toList.take m) (E:(e_6 ops [] m && d_6 ops n l)=true) (hK:g_v ops ks m n=true)
  (hφ:∀ e,e∈ks->∀ v W W',e.φ v W->Below W.heap.size W W'->e.φ v W')
  (h:∃ G:(Nat->Value)->Act,(∀ x,c_5 P ops w ks x (G x) 0 l a)/\(∀ x,G x=b_q ks x (G fun _=>undef))/\
   ∀ W x,Below w.heap.size w W->(∀ e,e∈ks->e.φ (x e.k) W)->wpList P ops Q (ops.toList.drop m) (G x) W):(Code.region id ops true).wp P Q a w:=by
 obtain ⟨G,A,L,J⟩:=h;exact t_i ks m n H I M [] E rfl (fun _ h=>absurd h not_mem_nil) hK hφ ⟨G,fun _ h=>absurd h not_mem_nil,fun _ h=>absurd h not_mem_nil,A,L,J⟩
theorem q_G {id:Nat} {a:Act} {w:World} {l:List Oper} (ks:List Told) (m n:Nat) (hm:P.follows .mixedOrders=true) (hn:a.tmps.size=n) (hl:l=ops.toList.take m) (A:Nat) (J:Oper) (O:ops[A]?=some J) (aa:A < m) (M:a_E ks A=none) (V:(e_6 ops [A] m && d_6 ops n l)=true) (L:h_3 ops A=true)
  (hQ:∀ c a w v,Q (.panic c) (a.put J.dst v) w->Q (.panic c) a w) (hK:g_v ops ks m n=true)
  (hφ:∀ e,e∈ks->∀ v W W',e.φ v W->Below W.heap.size W W'->e.φ v W')
  (h:∃ G:(Nat->Value)->Act,(∀ x,(∀ e,e∈ks->(J.looksAt ops).contains e.t=true->∃ W,e.φ (x e.k) W)->∃ v,(∀ t,J.dst=some t->(G x).tmps[t]?=some v)/\Yields P ops J v (G x))/\(∀ x,c_5 P ops w ks x (G x) 0 l a)/\(∀ x,G x=b_q ks x (G fun _=>undef))/\
   ∀ W x,Below w.heap.size w W->(∀ e,e∈ks->e.φ (x e.k) W)->wpList P ops Q (ops.toList.drop m) (G x) W):(Code.region id ops true).wp P Q a w:=by
 obtain ⟨G,Z,R,h2,h3⟩:=h
 have I:∀ j,j∈[A]->∀ o,ops[j]?=some o->j=A/\o=J:=fun j H o E=>by
  have e:j=A:=by simpa using H
  subst e;rw [O] at E;exact ⟨rfl,(Option.some.inj E).symm⟩
 refine t_i ks m n hm hn hl [A] V (by simpa using L) (fun j H o E=>?_) hK hφ ⟨G,fun j H o E e he=>?_,fun j H o E _=>?_,R,h2,h3⟩
 ·obtain ⟨_,rfl⟩:=I j H o E;exact hQ
 ·obtain ⟨rfl,_⟩:=I j H o E;rw [M] at he;cases he
 ·obtain ⟨_,rfl⟩:=I j H o E;exact Z
end
end Go.Proofs.YtkfpainpomobfaaGreatDoor.Wd
