/- Nets: what chapter 12 says of shapes and -/
import Derived.WalkKit
import Derived.Lib.FieldsP
import Derived.Lib.Join
import Derived.Lib.ItoaNum
import Derived.ProofKit
import Derived.OpenShut
import Derived.ChangeSlices
import Derived.Carry
import Derived.WalkSpells
import Derived.Handy
import Derived.Deep.AppendSrc
import Derived.OwnWalk
import Derived.Laws.AppendOwnNone
import Derived.Laws.OwnMore
import Derived.OneCell
import Derived.RowKit
import Derived.Test.YtihjnbbhpojnpaaGreatDoorProg
import Derived.Deep.LoopGhost
import Derived.Deep.Draws
import Derived.BigQuiet
import Derived.Deep.QuietTactic
import Derived.WalkSmall
set_option linter.unusedVariables false
set_option linter.unusedSimpArgs false
set_option maxHeartbeats 16000000
set_option maxRecDepth 16000
namespace Go.Proofs.YtihjnbbhpojnpaaGreatDoor.Wd
/-- A layer: its kind and two numbers. -/
abbrev Ly:=ByteArray×Int×Int
def kDense:ByteArray:=⟨#[100,101,110,115,101]⟩
def kConv:ByteArray:=⟨#[99,111,110,118]⟩
def kPool:ByteArray:=⟨#[112,111,111,108]⟩
def kBend:ByteArray:=⟨#[98,101,110,100]⟩
def kSkip:ByteArray:=⟨#[115,107,105,112]⟩
/-- A kind's place in the table; 5: it is none. -/
def kindI (s:ByteArray):Nat:=if s=kDense then 0 else if s=kConv then 1 else if s=kPool then 2 else if s=kBend then 3 else if s=kSkip then 4 else 5
def kName (i:Nat):ByteArray:=[kDense,kConv,kPool,kBend,kSkip].getD i ⟨#[]⟩
theorem kind_cases (s:ByteArray):(s=kDense∧kindI s=0)∨(s=kConv∧kindI s=1)∨(s=kPool∧kindI s=2)∨(s=kBend∧kindI s=3)∨(s=kSkip∧kindI s=4)∨((s≠kDense∧s≠kConv∧s≠kPool∧s≠kBend∧s≠kSkip)∧kindI s=5):=by
 by_cases h0:s=kDense
 ·exact .inl ⟨h0,by rw [h0];decide +kernel⟩
 by_cases h1:s=kConv
 ·exact .inr (.inl ⟨h1,by rw [h1];decide +kernel⟩)
 by_cases h2:s=kPool
 ·exact .inr (.inr (.inl ⟨h2,by rw [h2];decide +kernel⟩))
 by_cases h3:s=kBend
 ·exact .inr (.inr (.inr (.inl ⟨h3,by rw [h3];decide +kernel⟩)))
 by_cases h4:s=kSkip
 ·exact .inr (.inr (.inr (.inr (.inl ⟨h4,by rw [h4];decide +kernel⟩))))
 ·exact .inr (.inr (.inr (.inr (.inr ⟨⟨h0,h1,h2,h3,h4⟩,by simp [kindI,h0,h1,h2,h3,h4]⟩))))
theorem kind_le (s:ByteArray):kindI s≤5:=by
 rcases kind_cases s with h|h|h|h|h|h <;> omega
theorem kind_name (s:ByteArray) (h:kindI s < 5):kName (kindI s)=s:=by
 rcases kind_cases s with ⟨rfl,e⟩|⟨rfl,e⟩|⟨rfl,e⟩|⟨rfl,e⟩|⟨rfl,e⟩|⟨_,e⟩
 ·rw [e];rfl
 ·rw [e];rfl
 ·rw [e];rfl
 ·rw [e];rfl
 ·rw [e];rfl
 ·omega
def kCnt (i:Nat):Nat:=if i=1 then 2 else if i < 4 then 1 else 0
def kTopA (i:Nat):Int:=if i=0 then 256 else if i=1 then 16 else if i=2 then 16 else if i=3 then 5 else 0
def kTopB (i:Nat):Int:=if i=1 then 16 else 0
/-- May a layer's kind and numbers be? -/
abbrev LayOk (l:Ly):Prop:=kindI l.1 < 5∧(if 0 < kCnt (kindI l.1) then 1≤l.2.1∧l.2.1≤kTopA (kindI l.1) else l.2.1=0)∧(if 1 < kCnt (kindI l.1) then 1≤l.2.2∧l.2.2≤kTopB (kindI l.1) else l.2.2=0)
theorem layOk_cases {l:Ly} (h:LayOk l):(l.1=kDense∧kindI l.1=0∧(1≤l.2.1∧l.2.1≤256)∧l.2.2=0)∨(l.1=kConv∧kindI l.1=1∧(1≤l.2.1∧l.2.1≤16)∧1≤l.2.2∧l.2.2≤16)∨(l.1=kPool∧kindI l.1=2∧(1≤l.2.1∧l.2.1≤16)∧l.2.2=0)∨(l.1=kBend∧kindI l.1=3∧(1≤l.2.1∧l.2.1≤5)∧l.2.2=0)∨(l.1=kSkip∧kindI l.1=4∧l.2.1=0∧l.2.2=0):=by
 obtain ⟨h0,h1,h2⟩:=h
 rcases kind_cases l.1 with ⟨e,k⟩|⟨e,k⟩|⟨e,k⟩|⟨e,k⟩|⟨e,k⟩|⟨_,k⟩ <;> rw [k] at h0 h1 h2 <;> simp [kCnt,kTopA,kTopB] at h1 h2
 ·exact .inl ⟨e,k,h1,h2⟩
 ·exact .inr (.inl ⟨e,k,h1,h2⟩)
 ·exact .inr (.inr (.inl ⟨e,k,h1,h2⟩))
 ·exact .inr (.inr (.inr (.inl ⟨e,k,h1,h2⟩)))
 ·exact .inr (.inr (.inr (.inr ⟨e,k,h1,h2⟩)))
 ·omega
/-- What comes in. -/
def InOk (d:List Int):Prop:=(∃ x,d = [x]∧1≤x∧x≤1024)∨∃ x y,d = [x,y]∧(1≤x∧x≤64)∧1≤y∧y≤64
def inOkB (d:List Int):Bool:=match d with
 | [x]=>decide (1≤x∧x≤1024)
 | [x,y]=>decide ((1≤x∧x≤64)∧1≤y∧y≤64)
 | _=>false
theorem inOkB_iff (d:List Int):inOkB d=true↔InOk d:=by
 unfold InOk
 match d with
 | []=>simp [inOkB]
 | [x]=>simp [inOkB]
 | [x,y]=>
  simp only [inOkB,decide_eq_true_eq]
  exact ⟨fun h=>.inr ⟨x,y,rfl,h⟩,fun h=>by
   rcases h with ⟨_,h,_⟩|⟨_,_,h,h2⟩
   ·simp at h
   ·simp only [List.cons.injEq,and_true] at h
    obtain ⟨rfl,rfl⟩:=h
    exact h2⟩
 | x :: y :: z :: r=>simp [inOkB]
def formB (d:List Int) (ls:List Ly):Bool:=inOkB d && ls.all fun l=>decide (LayOk l)
def prodI (l:List Int):Int:=l.foldl (·*·) 1
def outD (l:Ly) (d:List Int):Option (List Int):=
 if kindI l.1=0 then some [l.2.1]
 else if kindI l.1=1 then (if d.length=2∧l.2.2≤d.getD 1 0 then some [l.2.1,d.getD 1 0 - l.2.2+1] else none)
 else if kindI l.1=2 then (if d.length=2∧l.2.1≤d.getD 1 0 then some [d.getD 0 0,Int.tdiv (d.getD 1 0) l.2.1] else none)
 else some d
def parD (l:Ly) (d:List Int):List (List Int):=if kindI l.1=0 then [[l.2.1,prodI d],[l.2.1]] else if kindI l.1=1 then [[l.2.1,d.getD 0 0,l.2.2]] else []
def lyD:Ly:=(⟨#[]⟩,0,0)
def lyA (ls:List Ly) (i:Nat):Ly:=ls.getD i lyD
def shA (S:List (List Int)) (i:Nat):List Int:=S.getD i []
/-- May the i-th layer, a skip, add what went into the one ahead? -/
abbrev SkipOk (ls:List Ly) (S:List (List Int)) (i:Nat):Prop:=0 < i∧(lyA ls (i - 1)).1≠kSkip∧shA S (i - 1)=shA S i
def stepS (ls:List Ly) (i:Nat) (S:List (List Int)):Option (List (List Int)):=
 if (lyA ls i).1=kSkip∧¬ SkipOk ls S i then none else (outD (lyA ls i) (shA S i)).map fun o=>S++[o]
/-- What comes in, and what goes out of the first i layers. -/
def shN (d:List Int) (ls:List Ly):Nat→Option (List (List Int))
 | 0=>some [d]
 | i+1=>(shN d ls i).bind (stepS ls i)
theorem shN_none {d:List Int} {ls:List Ly} {i:Nat} (h:shN d ls i=none):∀ k,shN d ls (i+k)=none
 | 0=>h
 | k+1=>by rw [← Nat.add_assoc];show (shN d ls (i+k)).bind _=none;rw [shN_none h k];rfl
theorem shN_stop {d:List Int} {ls:List Ly} {i n:Nat} (h:shN d ls i=none) (hi:i≤n):shN d ls n=none:=by
 have:=shN_none h (n - i)
 rwa [show i+(n - i)=n by omega] at this
theorem shN_succ {d:List Int} {ls:List Ly} {i:Nat} {S:List (List Int)} (h:shN d ls i=some S):shN d ls (i+1)=stepS ls i S:=by
 show (shN d ls i).bind _=_
 rw [h];rfl
theorem shN_len {d:List Int} {ls:List Ly}:∀ {i:Nat} {S:List (List Int)},shN d ls i=some S→S.length=i+1
 | 0,S,h=>by cases h;rfl
 | i+1,S,h=>by
  cases hi:shN d ls i with
  | none=>rw [shN_stop hi (Nat.le_succ i)] at h;cases h
  | some S0=>
   rw [shN_succ hi] at h
   unfold stepS at h
   split at h
   ·cases h
   ·obtain ⟨o,ho,rfl⟩:=Option.map_eq_some_iff.1 h
    rw [List.length_append,shN_len hi];rfl
theorem stepS_pre {ls:List Ly} {i:Nat} {S S':List (List Int)} (h:stepS ls i S=some S'):∃ o,S'=S++[o]∧outD (lyA ls i) (shA S i)=some o:=by
 unfold stepS at h
 split at h
 ·cases h
 ·obtain ⟨o,ho,rfl⟩:=Option.map_eq_some_iff.1 h
  exact ⟨o,rfl,ho⟩
theorem lyA_mem {ls:List Ly} {i:Nat} (h:i < ls.length):lyA ls i∈ls:=by
 unfold lyA
 rw [List.getD_eq_getElem?_getD,List.getElem?_eq_getElem h]
 exact List.getElem_mem _
theorem shA_app {S:List (List Int)} {i:Nat} (T:List (List Int)) (h:i < S.length):shA (S++T) i=shA S i:=by
 unfold shA
 rw [List.getD_eq_getElem?_getD,List.getD_eq_getElem?_getD,List.getElem?_append_left h]
theorem shA_last (S:List (List Int)) (o:List Int) (i:Nat) (h:S.length=i):shA (S++[o]) i=o:=by
 subst h
 unfold shA
 simp
theorem InOk.out {l:Ly} {d o:List Int} (hd:InOk d) (hl:LayOk l) (h:outD l d=some o):InOk o:=by
 unfold outD at h
 rcases layOk_cases hl with ⟨_,k,h1,h2⟩|⟨_,k,h1,h2⟩|⟨_,k,h1,h2⟩|⟨_,k,h1,h2⟩|⟨_,k,h1,h2⟩ <;> rw [k] at h <;> simp at h
 ·subst h
  exact .inl ⟨_,rfl,by omega,by omega⟩
 ·obtain ⟨⟨h3,h4⟩,rfl⟩:=h
  rcases hd with ⟨x,rfl,_⟩|⟨x,y,rfl,hx,hy⟩
  ·simp at h3
  ·simp at h4 ⊢
   exact .inr ⟨_,_,rfl,by omega,by omega,by omega⟩
 ·obtain ⟨⟨h3,h4⟩,rfl⟩:=h
  rcases hd with ⟨x,rfl,_⟩|⟨x,y,rfl,hx,hy⟩
  ·simp at h3
  ·simp at h4 ⊢
   refine .inr ⟨_,_,rfl,hx,?_,?_⟩
   ·rw [Int.tdiv_eq_ediv_of_nonneg (by omega)]
    exact (Int.le_ediv_iff_mul_le (by omega)).2 (by omega)
   ·rw [Int.tdiv_eq_ediv_of_nonneg (by omega)]
    have:=Int.ediv_le_self l.2.1 (a:=y) (by omega)
    omega
 ·subst h;exact hd
 ·subst h;exact hd
theorem shN_in {d:List Int} {ls:List Ly} (hd:InOk d) (hl:∀ l∈ls,LayOk l):∀ {i:Nat} {S:List (List Int)},i≤ls.length→shN d ls i=some S→∀ k,k < i+1→InOk (shA S k)
 | 0,S,_,h,k,hk=>by
  cases h
  obtain rfl:k=0:=by omega
  exact hd
 | i+1,S,hi,h,k,hk=>by
  cases hs:shN d ls i with
  | none=>rw [shN_stop hs (Nat.le_succ i)] at h;cases h
  | some S0=>
   rw [shN_succ hs] at h
   obtain ⟨o,rfl,ho⟩:=stepS_pre h
   have hln:=shN_len hs
   rcases Nat.lt_or_ge k (i+1) with hk2|hk2
   ·rw [shA_app _ (by omega)]
    exact shN_in hd hl (by omega) hs k hk2
   ·rw [shA_last S0 o k (by omega)]
    exact (shN_in hd hl (by omega) hs i (by omega)).out (hl _ (lyA_mem (by omega))) ho
theorem prodI_one (x:Int):prodI [x]=x:=by simp [prodI]
theorem prodI_two (x y:Int):prodI [x,y]=x*y:=by simp [prodI]
theorem prodI_three (x y z:Int):prodI [x,y,z]=x*y*z:=by simp [prodI]
theorem mprod_rng {x y a b:Int} (hx:1≤x∧x≤a) (hy:1≤y∧y≤b):1≤x*y∧x*y≤a*b:=by
 refine ⟨?_,Int.mul_le_mul hx.2 hy.2 (by omega) (by omega)⟩
 have:=Int.mul_le_mul hx.1 hy.1 (by omega) (by omega)
 omega
theorem InOk.prod {d:List Int} (h:InOk d):1≤prodI d∧prodI d≤4096:=by
 rcases h with ⟨x,rfl,h⟩|⟨x,y,rfl,hx,hy⟩
 ·rw [prodI_one];omega
 ·rw [prodI_two]
  have:=mprod_rng hx hy
  omega
/-- How many parameters a layer has. -/
def psz (l:Ly) (d:List Int):Int:=if kindI l.1=0 then l.2.1*prodI d+l.2.1 else if kindI l.1=1 then l.2.1*d.getD 0 0*l.2.2 else 0
def cntP (ls:List Ly) (S:List (List Int)):Nat→Int
 | 0=>0
 | i+1=>cntP ls S i+psz (lyA ls i) (shA S i)
theorem psz_rng {l:Ly} {d:List Int} (hd:InOk d) (hl:LayOk l):0≤psz l d∧psz l d≤1049600:=by
 unfold psz
 have hp:=hd.prod
 rcases layOk_cases hl with ⟨_,k,h1,h2⟩|⟨_,k,h1,h2⟩|⟨_,k,h1,h2⟩|⟨_,k,h1,h2⟩|⟨_,k,h1,h2⟩ <;> rw [k] <;> simp
 ·have:=mprod_rng h1 hp
  omega
 ·rcases hd with ⟨x,rfl,h⟩|⟨x,y,rfl,hx,hy⟩
  ·have:=mprod_rng (mprod_rng h1 h) h2
   simp
   omega
  ·have:=mprod_rng (mprod_rng h1 hx) h2
   simp
   omega
theorem cntP_rng {ls:List Ly} {S:List (List Int)}:∀ {i:Nat},(∀ k,k < i→InOk (shA S k))→(∀ k,k < i→LayOk (lyA ls k))→0≤cntP ls S i∧cntP ls S i≤1049600*(i:Int)
 | 0,_,_=>by simp [cntP]
 | i+1,h,h2=>by
  have:=cntP_rng (fun k hk=>h k (by omega)) (fun k hk=>h2 k (by omega)) (i:=i)
  have h3:=psz_rng (h i (by omega)) (h2 i (by omega))
  simp only [cntP]
  omega
/-- More than may be: the reasons, the first i layers' parameters among them. -/
def bigS (S:List (List Int)):Bool:=S.any fun s=>decide (4096 < prodI s)
def bigP (l:Ly) (d:List Int):Bool:=(parD l d).any fun s=>decide (4096 < prodI s)
def bigN (ls:List Ly) (S:List (List Int)):Nat→Bool
 | 0=>false
 | i+1=>bigN ls S i || bigP (lyA ls i) (shA S i)
def tooM (ls:List Ly) (S:List (List Int)):Bool:=decide (16 < ls.length) || bigS S || bigN ls S ls.length || decide (4096 < cntP ls S ls.length)
/-- What Shapes answers: an error, shapes, how many parameters. -/
def nE (d:List Int) (ls:List Ly):Int:=if formB d ls=true then (match shN d ls ls.length with|none=>4|some S=>if tooM ls S=true then 2 else 0) else 1
def nS (d:List Int) (ls:List Ly):List (List Int):=if nE d ls=0 then (shN d ls ls.length).getD [] else []
def nP (d:List Int) (ls:List Ly):Int:=if nE d ls=0 then cntP ls ((shN d ls ls.length).getD []) ls.length else 0
theorem formB_iff (d:List Int) (ls:List Ly):formB d ls=true↔InOk d∧∀ l∈ls,LayOk l:=by
 unfold formB
 rw [Bool.and_eq_true,inOkB_iff,List.all_eq_true]
 simp only [decide_eq_true_eq]
theorem nE_form {d:List Int} {ls:List Ly} (h:¬ formB d ls=true):nE d ls=1:=by unfold nE;rw [if_neg h]
theorem nE_none {d:List Int} {ls:List Ly} (h:formB d ls=true) (h2:shN d ls ls.length=none):nE d ls=4:=by unfold nE;rw [if_pos h,h2]
theorem nE_too {d:List Int} {ls:List Ly} {S:List (List Int)} (h:formB d ls=true) (h2:shN d ls ls.length=some S) (h3:tooM ls S=true):nE d ls=2:=by unfold nE;rw [if_pos h,h2];simp [h3]
theorem nE_ok {d:List Int} {ls:List Ly} {S:List (List Int)} (h:formB d ls=true) (h2:shN d ls ls.length=some S) (h3:tooM ls S=false):nE d ls=0∧nS d ls=S∧nP d ls=cntP ls S ls.length:=by
 have e:nE d ls=0:=by unfold nE;rw [if_pos h,h2];simp [h3]
 refine ⟨e,?_,?_⟩
 ·unfold nS;rw [if_pos e,h2];rfl
 ·unfold nP;rw [if_pos e,h2];rfl
theorem nE_bad {d:List Int} {ls:List Ly} (h:nE d ls≠0):nS d ls = []∧nP d ls=0:=⟨if_neg h,if_neg h⟩
/-- What a good net is. -/
theorem net_good {d:List Int} {ls:List Ly} (h:nE d ls=0):∃ S,formB d ls=true∧shN d ls ls.length=some S∧tooM ls S=false:=by
 unfold nE at h
 split at h
 ·rename_i hf
  cases hs:shN d ls ls.length with
  | none=>rw [hs] at h;simp at h
  | some S=>
   rw [hs] at h
   refine ⟨S,hf,rfl,?_⟩
   cases ht:tooM ls S with
   | false=>rfl
   | true=>simp [ht] at h
 ·cases h
def blankB (b:UInt8):Bool:=b==32 || b==9 || b==10
def blankR (r:Nat):Bool:=r==32 || r==9 || r==10
/-- One step of reading: the word under way, and those that were read. -/
def spanStep (s:ByteArray) (pos:Nat) (x:List (Nat×Nat)×Option Nat):List (Nat×Nat)×Option Nat:=
 if blankB (s.get! pos) then (match x.2 with|some a=>(x.1++[(a,pos)],none)|none=>(x.1,none)) else (match x.2 with|some a=>(x.1,some a)|none=>(x.1,some pos))
/-- The first n bytes are read. -/
def spansN (s:ByteArray):Nat→List (Nat×Nat)×Option Nat
 | 0=>([],none)
 | n+1=>spanStep s n (spansN s n)
theorem spanStep_on {s:ByteArray} {pos:Nat} {x:List (Nat×Nat)×Option Nat} {a:Nat} (h:blankB (s.get! pos)=false) (hx:x.2=some a):spanStep s pos x=x:=by
 obtain ⟨l,st⟩:=x
 cases hx
 simp [spanStep,h]
theorem spansN_on {s:ByteArray} {n a:Nat} (h1:(spansN s n).2=some a):∀ k,(∀ j,j < k→blankB (s.get! (n+j))=false)→spansN s (n+k)=spansN s n
 | 0,_=>rfl
 | k+1,h=>by
  have ih:=spansN_on h1 k fun j hj=>h j (by omega)
  show spanStep s (n+k) (spansN s (n+k))=_
  rw [spanStep_on (h k (by omega)) (by rw [ih];exact h1),ih]
theorem blank_high {b:UInt8} (h:128≤b.toNat):blankB b=false:=by
 unfold blankB
 have e1:¬ b=32:=fun e=>by rw [e] at h;exact absurd h (by decide)
 have e2:¬ b=9:=fun e=>by rw [e] at h;exact absurd h (by decide)
 have e3:¬ b=10:=fun e=>by rw [e] at h;exact absurd h (by decide)
 simp [e1,e2,e3]
theorem blank_nat (b:UInt8):blankB b=blankR b.toNat:=by
 have k:∀ c:UInt8,(b==c)=(b.toNat==c.toNat):=fun c=>by
  by_cases h:b=c
  ·rw [h,beq_self_eq_true,beq_self_eq_true]
  ·rw [beq_false_of_ne h,beq_false_of_ne fun e=>h (UInt8.toNat_inj.1 e)]
 show (b==32 || b==9 || b==10)=_
 rw [k 32,k 9,k 10]
 rfl
/-- What is read of one rune: the byte itself, or bytes that are no blank. -/
theorem decode_blank (s:ByteArray) (pos:Nat) (h:pos < s.size):(∃ k,(Utf8.decode s pos).2=k+1∧pos+(k+1)≤s.size∧(∀ j,j < k→128≤(s.get! (pos+1+j)).toNat))∧blankR (Utf8.decode s pos).1=blankB (s.get! pos):=by
 rw [Lib.decode_at,blank_nat]
 generalize e0:(s.get! pos).toNat=b0
 generalize e1:(s.get! (pos+1)).toNat=b1
 generalize e2:(s.get! (pos+2)).toNat=b2
 generalize e3:(s.get! (pos+3)).toNat=b3
 have hi:∀ b r:Nat,128≤b→128≤r→blankR r=blankR b:=fun b r h1 h2=>by
  have k:∀ x:Nat,128≤x→blankR x=false:=fun x hx=>by
   unfold blankR
   have q1:¬ x=32:=by omega
   have q2:¬ x=9:=by omega
   have q3:¬ x=10:=by omega
   simp [q1,q2,q3]
  rw [k b h1,k r h2]
 have g1:∀ j,j < 1→s.get! (pos+1+j)=s.get! (pos+1):=fun j hj=>by rw [show pos+1+j=pos+1 by omega]
 unfold Lib.decodeN
 split
 ·exact ⟨⟨0,rfl,by omega,fun j hj=>by omega⟩,rfl⟩
 split
 ·rename_i hA hB
  split
  ·rename_i hC
   exact ⟨⟨1,rfl,by omega,fun j hj=>by rw [g1 j hj,e1];omega⟩,hi _ _ (by omega) (by omega)⟩
  ·exact ⟨⟨0,rfl,by omega,fun j hj=>by omega⟩,hi _ _ (by omega) (by omega)⟩
 split
 ·rename_i hA _ hB
  split
  ·rename_i hC
   refine ⟨⟨2,rfl,by omega,fun j hj=>?_⟩,hi _ _ (by omega) (by omega)⟩
   rcases (show j=0∨j=1 by omega) with rfl|rfl
   ·rw [show pos+1+0=pos+1 by omega,e1];omega
   ·rw [show pos+1+1=pos+2 by omega,e2];omega
  ·exact ⟨⟨0,rfl,by omega,fun j hj=>by omega⟩,hi _ _ (by omega) (by omega)⟩
 split
 ·rename_i hA _ _ hB
  split
  ·rename_i hC
   refine ⟨⟨3,rfl,by omega,fun j hj=>?_⟩,hi _ _ (by omega) (by omega)⟩
   rcases (show j=0∨j=1∨j=2 by omega) with rfl|rfl|rfl
   ·rw [show pos+1+0=pos+1 by omega,e1];omega
   ·rw [show pos+1+1=pos+2 by omega,e2];omega
   ·rw [show pos+1+2=pos+3 by omega,e3];omega
  ·exact ⟨⟨0,rfl,by omega,fun j hj=>by omega⟩,hi _ _ (by omega) (by omega)⟩
 ·exact ⟨⟨0,rfl,by omega,fun j hj=>by omega⟩,hi _ _ (by omega) (by omega)⟩
theorem spans_same (s:ByteArray):∀ (f pos:Nat),s.size - pos≤f→pos≤s.size→Lib.spansFromP blankR s f pos (spansN s pos).2 (spansN s pos).1=spansN s s.size
 | 0,pos,hf,hp=>by
  obtain rfl:pos=s.size:=by omega
  rfl
 | f+1,pos,hf,hp=>by
  by_cases h:pos < s.size
  ·obtain ⟨⟨k,ek,hk,hj⟩,eb⟩:=decode_blank s pos h
   have hlt:¬ ((spansN s (pos+1)).2=none)→spansN s (pos+(k+1))=spansN s (pos+1):=fun hn=>by
    cases hst:(spansN s (pos+1)).2 with
    | none=>exact absurd hst hn
    | some a=>rw [show pos+(k+1)=pos+1+k by omega];exact spansN_on hst k fun j hj'=>blank_high (hj j hj')
   have ih:=spans_same s f (pos+(k+1)) (by omega) hk
   have es:spansN s (pos+1)=spanStep s pos (spansN s pos):=rfl
   unfold Lib.spansFromP
   rw [if_pos h,eb,ek]
   cases hb:blankB (s.get! pos) with
   | false=>
    have hst:(spansN s (pos+1)).2≠none:=by
     rw [es];unfold spanStep;rw [hb]
     cases (spansN s pos).2 <;> simp
    rw [hlt hst,es] at ih
    unfold spanStep at ih
    rw [hb] at ih
    cases hs:(spansN s pos).2 with
    | none=>rw [hs] at ih;simpa using ih
    | some a=>rw [hs] at ih;simpa using ih
   | true=>
    have h0:k=0:=by
     have hl:(s.get! pos).toNat < 128:=by
      rcases Nat.lt_or_ge (s.get! pos).toNat 128 with h|h
      ·exact h
      ·rw [blank_high h] at hb;cases hb
     have:(Utf8.decode s pos).2=1:=by rw [Lib.decode_at];unfold Lib.decodeN;rw [if_pos hl]
     omega
    subst h0
    rw [show pos+(0+1)=pos+1 by omega,es] at ih
    unfold spanStep at ih
    rw [hb] at ih
    cases hs:(spansN s pos).2 with
    | none=>rw [hs] at ih;simpa using ih
    | some a=>rw [hs] at ih;simpa using ih
  ·obtain rfl:pos=s.size:=by omega
   rw [Lib.spansFromP_end _ _ _ _ _ _ h]
/-- A text's words. -/
def wordsB (s:ByteArray):List ByteArray:=(Lib.closeSpans s (spansN s s.size)).map fun x=>s.extract x.1 x.2
theorem words_same (s:ByteArray):Lib.goFieldsP blankR s=wordsB s:=by
 unfold Lib.goFieldsP Lib.spansOfP wordsB
 rw [← spans_same s s.size 0 (by omega) (by omega)]
 rfl
def kIn:ByteArray:=⟨#[105,110]⟩
def digB (b:UInt8):Bool:=decide (48≤b.toNat∧b.toNat≤57)
def numV (w:ByteArray):Nat→Int
 | 0=>0
 | i+1=>numV w i*10+(((w.get! i).toNat:Int) - 48)
abbrev NumF (w:ByteArray):Prop:=(1≤w.size∧w.size≤4)∧¬ (1 < w.size∧(w.get! 0).toNat=48)
def allDig (w:ByteArray):Nat→Bool
 | 0=>true
 | i+1=>allDig w i && digB (w.get! i)
/-- A number in a text. -/
def numB (w:ByteArray):Option Int:=if NumF w∧allDig w w.size=true then some (numV w w.size) else none
theorem allDig_le {w:ByteArray} {n:Nat} (h:allDig w n=true):∀ {i},i < n→digB (w.get! i)=true:=by
 induction n with
 | zero=>intro i hi;omega
 | succ n ih=>
  simp only [allDig,Bool.and_eq_true] at h
  intro i hi
  rcases Nat.lt_succ_iff_lt_or_eq.1 hi with h2|rfl
  ·exact ih h.1 h2
  ·exact h.2
theorem numV_rng {w:ByteArray}:∀ {n:Nat},allDig w n=true→0≤numV w n∧numV w n≤10 ^ n - 1
 | 0,_=>by simp [numV]
 | n+1,h=>by
  simp only [allDig,Bool.and_eq_true] at h
  have ih:=numV_rng h.1
  have hd:=of_decide_eq_true h.2
  simp only [numV]
  have e:(10:Int) ^ (n+1)=10 ^ n*10:=Int.pow_succ 10 n
  omega
theorem numV_small {w:ByteArray} {n:Nat} (hn:n≤4) (h:allDig w n=true):0≤numV w n∧numV w n≤9999:=by
 have:=numV_rng h
 rcases (show n=0∨n=1∨n=2∨n=3∨n=4 by omega) with rfl|rfl|rfl|rfl|rfl <;> omega
theorem numB_rng {w:ByteArray} {v:Int} (h:numB w=some v):0≤v∧v≤9999:=by
 unfold numB at h
 split at h
 ·rename_i hc
  cases h
  exact numV_small hc.1.1.2 hc.2
 ·cases h
/-- Numbers ahead, at most so many, and the words behind them. -/
def numsA:List ByteArray→Nat→List Int×List ByteArray
 | [],_=>([],[])
 | w :: r,0=>([],w :: r)
 | w :: r,m+1=>match numB w with
  | some v=>(v :: (numsA r m).1,(numsA r m).2)
  | none=>([],w :: r)
theorem numsA_len:∀ (ws:List ByteArray) (m:Nat),(numsA ws m).1.length≤m∧(numsA ws m).2.length+(numsA ws m).1.length=ws.length
 | [],m=>by simp [numsA]
 | w :: r,0=>by simp [numsA]
 | w :: r,m+1=>by
  have:=numsA_len r m
  simp only [numsA]
  cases numB w with
  | none=>simp
  | some v=>simp only [List.length_cons];omega
theorem numsA_zero (ws:List ByteArray):numsA ws 0=([],ws):=by cases ws <;> rfl
theorem numsA_some {w:ByteArray} {r:List ByteArray} {m:Nat} {v:Int} (h:numB w=some v):numsA (w :: r) (m+1)=(v :: (numsA r m).1,(numsA r m).2):=by simp only [numsA,h]
theorem numsA_none {w:ByteArray} {r:List ByteArray} {m:Nat} (h:numB w=none):numsA (w :: r) (m+1)=([],w :: r):=by simp only [numsA,h]
/-- The layers of so many words. -/
def parL:Nat→List ByteArray→Option (List Ly)
 | 0,_=>some []
 | _+1,[]=>some []
 | f+1,w :: r=>if kindI w=5∨(numsA r (kCnt (kindI w))).1.length≠kCnt (kindI w) then none else (parL f (numsA r (kCnt (kindI w))).2).map fun ls=>(w,(numsA r (kCnt (kindI w))).1.getD 0 0,(numsA r (kCnt (kindI w))).1.getD 1 0) :: ls
theorem parL_fuel:∀ (f g:Nat) (ws:List ByteArray),ws.length≤f→ws.length≤g→parL f ws=parL g ws
 | 0,0,_,_,_=>rfl
 | 0,g+1,[],_,_=>rfl
 | 0,g+1,w :: r,h,_=>by simp at h
 | f+1,0,[],_,_=>rfl
 | f+1,0,w :: r,_,h=>by simp at h
 | f+1,g+1,[],_,_=>rfl
 | f+1,g+1,w :: r,h1,h2=>by
  have:=(numsA_len r (kCnt (kindI w))).2
  simp only [List.length_cons] at h1 h2
  unfold parL
  rw [parL_fuel f g _ (by omega) (by omega)]
def parW (ws:List ByteArray):Option (List Int×List Ly):=match ws with
 | []=>none
 | w :: r=>if w=kIn∧(numsA r 2).1≠[] then (parL (numsA r 2).2.length (numsA r 2).2).map fun ls=>((numsA r 2).1,ls) else none
/-- What Parse answers. -/
def pE (s:ByteArray):Int:=if 16384 < s.size then 2 else match parW (wordsB s) with
 | none=>7
 | some x=>nE x.1 x.2
def pX (s:ByteArray):List Int×List Ly:=if pE s=0 then (parW (wordsB s)).getD ([],[]) else ([],[])
/-- What is written of a net. -/
def dgB (x:Int):ByteArray:=⟨(Lib.decDigits x.toNat).toArray⟩
def lyW (l:Ly):List ByteArray:=l.1 :: (if kindI l.1=1 then [dgB l.2.1,dgB l.2.2] else if kindI l.1 < 4 then [dgB l.2.1] else [])
def netW (d:List Int) (ls:List Ly):List ByteArray:=kIn :: (d.map dgB++ls.flatMap lyW)
def joinW (ws:List ByteArray):ByteArray:=⟨(Lib.join (ws.map (·.data.toList)) [32]).toArray⟩
def netT (d:List Int) (ls:List Ly):ByteArray:=if nE d ls=0 then joinW (netW d ls) else ⟨#[]⟩
end Go.Proofs.YtihjnbbhpojnpaaGreatDoor.Wd
namespace Go.Proofs.YtihjnbbhpojnpaaGreatDoor.Wd
open Go.ChangeShapes Go.WideShapes Go.ChangeAt Go.RowKit
/-- The slice's elements are the numbers z 0, z 1 .. , each fitting its kind; where it has one, they lie one behind the other in a block. -/
def Row (k:IntKind) (W:World) (p:Option Addr) (n c:Nat) (z:Nat→Int):Prop:=
 n≤c∧c≤9223372036854775807∧(∀ i,i < n→(Lit.int k (z i)).wf=true)∧(0 < n→∃ b o,p=some ⟨b,o,none⟩∧b < W.heap.size∧∀ i,i < n→W.cell? ⟨b,o+i,none⟩=some (.int k (z i)))
theorem spot_none {W:World} {a:Addr} {v:Value} (h:W.cell? a=some v):a=⟨a.block,a.off,none⟩:=by
 unfold World.cell? at h
 split at h
 ·obtain ⟨b,o,s⟩:=a
  cases s with
  | none=>rfl
  | some x=>simp at h
 ·cases h
theorem cell_size {W:World} {b o:Nat} {v:Value} (h:W.cell? ⟨b,o,none⟩=some v):b < W.heap.size:=by
 by_cases c:b < W.heap.size
 ·exact c
 ·exfalso
  unfold World.cell? at h
  rw [show W.heap[b]?=none from by simp;omega] at h
  simp at h
/-- The same, and a nil slice has no room. -/
def RowN (k:IntKind) (W:World) (p:Option Addr) (n c:Nat) (z:Nat→Int):Prop:=Row k W p n c z∧(p=none→n=0∧c=0)
end Go.Proofs.YtihjnbbhpojnpaaGreatDoor.Wd
namespace Go.Proofs.YtihjnbbhpojnpaaGreatDoor.Wd
open Go.RowKit
theorem cell_block {W:World} {a:Addr} {v:Value} (h:W.cell? a=some v):a.block < W.heap.size:=by
 by_cases c:a.block < W.heap.size
 ·exact c
 ·exfalso
  unfold World.cell? at h
  rw [show W.heap[a.block]?=none from by simp;omega] at h
  simp at h
theorem addr_plus (b o j:Nat):(⟨b,o,none⟩:Addr).add j=⟨b,o+j,none⟩:=by
 unfold Addr.add
 split
 ·rename_i h;rw [h,Nat.add_zero]
 ·rfl
theorem still_cell {W W':World} {a:Addr} {v:Value} (hb:Below W.heap.size W W') (h:W.cell? a=some v):W'.cell? a=some v:=by
 rw [hb.cell (p:=a) (cell_block h)]
 exact h
def vals (k:IntKind) (l:List Int):List Value:=l.map (Value.int k)
theorem vals_one (k:IntKind) (l:List Int):∀ u∈vals k l,u.oneCell'=true:=by
 intro u hu
 obtain ⟨x,_,rfl⟩:=List.mem_map.1 hu
 rfl
theorem vals_set (k:IntKind) (l:List Int) (j:Nat) (x:Int):(vals k l).set j (.int k x)=vals k (l.set j x):=by
 unfold vals
 rw [List.map_set]
theorem vals_get (k:IntKind) (l:List Int) (j:Nat) (h:j < l.length):(vals k l)[j]?=some (.int k (l.getD j 0)):=by
 unfold vals
 rw [List.getElem?_map,List.getElem?_eq_getElem h,List.getD_eq_getElem?_getD,List.getElem?_eq_getElem h]
 rfl
/-- The slice's numbers are these. -/
def Nums (k:IntKind) (W:World) (v:Value) (l:List Int):Prop:=
 (v = .slice none 0 0∧l = [])∨∃ ad c,v = .slice (some ad) l.length c∧∀ j u,(vals k l)[j]?=some u→W.cell? (ad.add j)=some u
theorem Nums.up {k:IntKind} {W W':World} {v:Value} {l:List Int} (h:Nums k W v l) (hb:Below W.heap.size W W'):Nums k W' v l:=by
 rcases h with h|⟨ad,c,rfl,h⟩
 ·exact .inl h
 ·exact .inr ⟨ad,c,rfl,fun j u hu=>still_cell hb (h j u hu)⟩
theorem Nums.view {k:IntKind} {W:World} {v:Value} {l:List Int} (h:Nums k W v l):∃ p c,v = .slice p l.length c∧∀ j,j < l.length→∃ q o,p=some ⟨q,o,none⟩∧W.cell? ⟨q,o+j,none⟩=some (.int k (l.getD j 0)):=by
 rcases h with ⟨rfl,rfl⟩|⟨ad,c,rfl,h⟩
 ·exact ⟨none,0,rfl,fun j hj=>by simp at hj⟩
 ·refine ⟨_,c,rfl,fun j hj=>?_⟩
  have h0:=h 0 _ (vals_get k l 0 (by omega))
  have hj':=h j _ (vals_get k l j hj)
  have:=spot_none (show W.cell? ad=_ from h0)
  obtain ⟨q,o,sp⟩:=ad
  cases this
  rw [addr_plus] at hj'
  exact ⟨q,o,rfl,hj'⟩
/-- A slice that came in, as a list. -/
def nlst (n:Nat) (z:Nat→Int):List Int:=(List.range n).map z
theorem RowN.wf {k:IntKind} {W:World} {p:Option Addr} {n c:Nat} {z:Nat→Int} (h:RowN k W p n c z):∀ y,y∈nlst n z→(Lit.int k y).wf=true:=by
 intro y hy
 obtain ⟨i,hi,rfl⟩:=List.mem_map.1 hy
 exact h.1.2.2.1 i (List.mem_range.1 hi)
/-- A slice of the call's own holds these numbers. -/
def OwnK (k:IntKind) (e:TypeId) (W:World) (B:Nat) (v:Value) (l:List Int):Prop:=W.ownsRow B e 1 v l.length (vals k l)
theorem OwnK.nums {k:IntKind} {e:TypeId} {W:World} {B:Nat} {v:Value} {l:List Int} (h:OwnK k e W B v l):Nums k W v l:=by
 rcases h.2 with ⟨h1,h2⟩|⟨g,cap,cur,rfl,_⟩
 ·exact .inl ⟨h1,by simpa using h2⟩
 ·exact .inr ⟨⟨g,0,none⟩,cap,rfl,World.ownsRow.cells h rfl⟩
theorem OwnK.low {k:IntKind} {e:TypeId} {W:World} {B B':Nat} {v:Value} {l:List Int} (h:OwnK k e W B v l) (hB:B'≤B):OwnK k e W B' v l:=by
 refine ⟨h.1,?_⟩
 rcases h.2 with h|⟨g,cap,cur,h1,h2,h3⟩
 ·exact .inl h
 ·exact .inr ⟨g,cap,cur,h1,Nat.le_trans hB h2,h3⟩
theorem OwnK.block {k:IntKind} {e:TypeId} {W:World} {B:Nat} {v:Value} {l:List Int} (h:OwnK k e W B v l):∀ j,v.ownBlock=some j→B≤j:=by
 intro j hj
 rcases h.2 with ⟨rfl,_⟩|⟨g,cap,cur,rfl,hB,_⟩
 ·cases hj
 ·cases hj;exact hB
theorem OwnK.nil (k:IntKind) (e:TypeId) (W:World) (B:Nat):OwnK k e W B (.slice none 0 0) []:=⟨by simp [vals],.inl ⟨rfl,rfl⟩⟩
/-- A cell of it is read, and stored into. -/
theorem OwnK.cell {k:IntKind} {e:TypeId} {W:World} {B g n c:Nat} {l:List Int} (h:OwnK k e W B (.slice (some ⟨g,0,none⟩) n c) l) (hn:l.length=n) (j:Nat) (hj:j < n):W.cell? ⟨g,j,none⟩=some (.int k (l.getD j 0))∧W.frozen? ⟨g,j,none⟩=false:=by
 subst hn
 exact ⟨by rw [World.ownsRow.cellAt h j (by omega),vals_get k l j hj],World.ownsRow.frozenAt h j⟩
theorem OwnK.store {k:IntKind} {e:TypeId} {W:World} {B g n c:Nat} {l:List Int} (h:OwnK k e W B (.slice (some ⟨g,0,none⟩) n c) l) (hn:l.length=n) (j:Nat) (x:Int):OwnK k e (W.setCell ⟨g,j,none⟩ (.int k x)) B (.slice (some ⟨g,0,none⟩) n c) (l.set j x):=by
 subst hn
 have:=(World.ownsRow.stored h j (.int k x)).1
 unfold OwnK
 rw [← vals_set,List.length_set]
 exact this
/-- The facts of a type of slices of integers. -/
structure NumT (P:Program) (t e:TypeId) (k:IntKind) (b:Nat):Prop where
 ht:P.underlying t=some (.slice e)
 hi:(P.info? e).map (fun i=>(i.zero,i.size,i.bytes))=some (some (.int k 0),1,b)
theorem info_of {P:Program} {t e:TypeId} {k:IntKind} {b:Nat} (T:NumT P t e k b):∃ i0,P.info? e=some i0∧i0.zero=some (.int k 0)∧i0.size=1∧i0.bytes=b:=by
 have:=T.hi
 cases h:P.info? e with
 | none=>rw [h] at this;cases this
 | some i=>
  rw [h] at this
  simp only [Option.map_some,Option.some.injEq,Prod.mk.injEq] at this
  exact ⟨i,rfl,this.1,this.2.1,this.2.2⟩
/-- append of numbers, whatever they are, behind numbers of the call's own. -/
theorem wpList_appendK {P:Program} {t e:TypeId} {k:IntKind} {b:Nat} (T:NumT P t e k b) (hb8:b≤8) {ops:Array Oper} {rest:List Oper} {o:Oper} {a:Act} {Q:Exit→Act→World→Prop} {w:World} (hgd:o.guard=none) (s x:Operand)
  (ho:o.op = .call { callee:=.builtin .append,args:=#[s,x],argTypes:=#[t,t] }) (B:Nat) (v0:Value) (l0:List Int) (hs:a.eval s=v0) (hown:OwnK k e w B v0 l0)
  (v:Value) (l:List Int) (hx:a.eval x=v) (hb:Nums k w v l) (hlen:l0.length+l.length≤1073741824) (hB:B≤w.heap.size) (w0:World) (hB0:Below B w0 w)
  (h:∀ v' w',Hid (OwnK k e w' B v' (l0++l))→Below B w0 w'→wpList P ops Q rest (a.put o.dst v') w'):wpList P ops Q (o :: rest) a w:=by
 obtain ⟨i0,hi,hz0,hz1,hz2⟩:=info_of T
 rcases hb with ⟨rfl,rfl⟩|⟨ad,c,rfl,hc⟩
 ·refine wpList_append_own_none hgd s x t ho B e i0 1 T.ht hi v0 l0.length _ hs hown hx ?_
  exact h v0 w (show OwnK _ _ _ _ _ _ by rw [List.append_nil];exact hown) hB0
 ·have hm:(l0.length+l.length)*b≤1073741824*8:=Nat.mul_le_mul hlen hb8
  refine wpList_append_own _ hgd s x t ho B e i0 (.int k 0) 1 b T.ht hi hz0 hz1 hz2 rfl (by decide) v0 l0.length _ hs hown ad l.length c (vals k l) hx (by simp [vals]) hc (vals_one k l) (by unfold maxLen;omega) (by omega) hB ?_
  intro v' w' h1 h2 h3
  refine h v' w' ?_ (Below.grown hB0 h2 hB hown.block)
  show OwnK _ _ _ _ _ _
  unfold OwnK vals at *
  simpa using h1
/-- make: as many noughts. -/
theorem wpList_makeK {P:Program} {t e:TypeId} {k:IntKind} {b:Nat} (T:NumT P t e k b) (hb8:b≤8) (w:World) {ops:Array Oper} {rest:List Oper} {o:Oper} {a:Act} {Q:Exit→Act→World→Prop}
  (hg:o.guard=none) (l c:Operand) (hop:o.op=Op.makeSlice t l c) (kl kc:IntKind) (L C:Int) (n:Nat) (hl:a.eval l = .int kl L) (hc:a.eval c = .int kc C) (hL:L=(n:Int)) (hC:C=(n:Int)) (hn:n≤1073741824)
  (B:Nat) (w0:World) (hB:B≤w.heap.size) (hB0:Below B w0 w)
  (hK:∀ w',Hid (OwnK k e w' w.heap.size (.slice (some ⟨w.heap.size,0,none⟩) n n) (List.replicate n 0))→Below w.heap.size w w'→Below B w0 w'→wpList P ops Q rest (a.put o.dst (.slice (some ⟨w.heap.size,0,none⟩) n n)) w'):
  wpList P ops Q (o :: rest) a w:=by
 obtain ⟨i0,hi,hz0,hz1,hz2⟩:=info_of T
 have hm:b*n≤8*1073741824:=Nat.mul_le_mul hb8 hn
 refine wpList_make_full w hg l c t hop w.heap.size e i0 (.int k 0) 1 T.ht hi hz0 hz1 kl kc L C n hl hc hL hC (by rw [hz2];omega) (by unfold maxLen;omega) (Nat.le_refl _) ?_
 intro w' h1 h2
 have hB1:Below w.heap.size w w':=Below.grown (Below.refl _ _) h2 (Nat.le_refl _) (fun j hj=>by cases hj)
 refine hK w' ?_ hB1 (hB0.trans (hB1.mono hB))
 show OwnK _ _ _ _ _ _
 unfold OwnK vals
 rw [List.length_replicate,List.map_replicate]
 have e1:(madeCells (Value.int k 0).cells (n*1)).toList=List.replicate n (Value.int k 0):=by
  rw [Nat.mul_one]
  exact toList_madeCells_one _ _
 rw [e1] at h1
 exact h1
/-- A literal's row. -/
theorem nums_lit {k:IntKind} {e:TypeId} (W:World) (l:List Int) (n:Nat) (fz:Nat×Nat) (h:l.length=n):Nums k (W.alloc (.cells (vals k l).toArray e fz)) (.slice (some ⟨W.heap.size,0,none⟩) n n) l:=.inr ⟨_,n,by rw [h],by
 intro j u hj
 rw [addr_plus,Nat.zero_add]
 unfold World.cell? World.alloc
 simp only [Array.getElem?_push_size]
 simpa using hj⟩
theorem own_lit {k:IntKind} {e:TypeId} (W:World) (l:List Int) (n:Nat) (h:l.length=n) (hn:n≤1073741824):OwnK k e (W.alloc (.cells (vals k l).toArray e)) W.heap.size (.slice (some ⟨W.heap.size,0,none⟩) n n) l:=by
 subst h
 refine ⟨by simp [vals],.inr ⟨W.heap.size,l.length,(vals k l).toArray,rfl,Nat.le_refl _,?_,Nat.le_refl _,by unfold maxLen;omega,by simp [vals],by rw [Nat.mul_one,List.take_of_length_le (by simp [vals])]⟩⟩
 show (W.heap.push _)[W.heap.size]?=_
 simp
theorem OwnK.up {k:IntKind} {e:TypeId} {W W':World} {B:Nat} {v:Value} {l:List Int} (h:OwnK k e W B v l) (hb:Below W.heap.size W W'):OwnK k e W' B v l:=by
 refine ⟨h.1,?_⟩
 rcases h.2 with h|⟨g,cap,cur,h1,h2,h3,h4⟩
 ·exact .inl h
 ·refine .inr ⟨g,cap,cur,h1,h2,?_,h4⟩
  have hg:g < W.heap.size:=by
   rcases Nat.lt_or_ge g W.heap.size with h|h
   ·exact h
   ·rw [Array.getElem?_eq_none h] at h3;cases h3
  rw [hb.block g hg]
  exact h3
structure Stay (g:Nat) (W W':World):Prop where
 size:W.heap.size≤W'.heap.size
 block:∀ b,b≠g→b < W.heap.size→W'.heap[b]?=W.heap[b]?
theorem Stay.refl (g:Nat) (W:World):Stay g W W:=⟨Nat.le_refl _,fun _ _ _=>rfl⟩
theorem Stay.trans {g:Nat} {a b c:World} (h:Stay g a b) (h2:Stay g b c):Stay g a c:=
 ⟨Nat.le_trans h.size h2.size,fun k h1 hk=>(h2.block k h1 (Nat.lt_of_lt_of_le hk h.size)).trans (h.block k h1 hk)⟩
theorem Stay.of {g:Nat} {a b:World} (h:Below a.heap.size a b):Stay g a b:=⟨h.size,fun k _ hk=>h.block k hk⟩
theorem Stay.up {g:Nat} {a b c:World} (h:Stay g a b) (h2:Below b.heap.size b c):Stay g a c:=h.trans (Stay.of h2)
theorem Stay.set {g:Nat} {a b:World} (h:Stay g a b) (o:Nat) (x:Value):Stay g a (b.setCell ⟨g,o,none⟩ x):=
 h.trans ⟨by simp,fun k hk _=>Below.heap_setCell _ _ _ _ hk⟩
theorem Stay.cell {g:Nat} {W W':World} {a:Addr} {v:Value} (h:Stay g W W') (hc:W.cell? a=some v) (hg:a.block≠g):W'.cell? a=some v:=by
 have hb:=cell_block hc
 unfold World.cell? at hc ⊢
 rw [h.block _ hg hb]
 exact hc
theorem Stay.frozen {g:Nat} {W W':World} {b o:Nat} (h:Stay g W W') (hb:b < W.heap.size) (hg:b≠g):W'.frozen? ⟨b,o,none⟩=W.frozen? ⟨b,o,none⟩:=by
 unfold World.frozen?
 rw [h.block _ hg hb]
theorem Stay.below {g:Nat} {w a b:World} (h:Stay g a b) (hB:Below w.heap.size w a) (hg:w.heap.size≤g) (h2:Below w.heap.size w b):Below w.heap.size w b:=h2
/-- A slice whose cells lie in blocks but g. -/
def Off (g:Nat) (v:Value):Prop:=∀ ad n c,v = .slice (some ad) n c→ad.block≠g
theorem Nums.stay {k:IntKind} {g:Nat} {W W':World} {v:Value} {l:List Int} (h:Nums k W v l) (hs:Stay g W W') (ho:Off g v):Nums k W' v l:=by
 rcases h with h|⟨ad,c,rfl,h⟩
 ·exact .inl h
 ·refine .inr ⟨ad,c,rfl,fun j u hu=>hs.cell (h j u hu) ?_⟩
  have:=ho ad _ _ rfl
  unfold Addr.add
  split <;> exact this
theorem OwnK.off {k:IntKind} {e:TypeId} {W:World} {B g:Nat} {v:Value} {l:List Int} (h:OwnK k e W B v l) (hg:g < B):Off g v:=by
 intro ad n c ev
 rcases h.2 with ⟨h1,_⟩|⟨q,cap,cur,h1,h2,_⟩
 ·rw [h1] at ev;cases ev
 ·rw [h1] at ev
  cases ev
  show q≠g
  omega
theorem OwnK.stay {k:IntKind} {e:TypeId} {W W':World} {B g:Nat} {v:Value} {l:List Int} (h:OwnK k e W B v l) (hs:Stay g W W') (hg:Off g v):OwnK k e W' B v l:=by
 refine ⟨h.1,?_⟩
 rcases h.2 with h|⟨q,cap,cur,h1,h2,h3,h4⟩
 ·exact .inl h
 ·refine .inr ⟨q,cap,cur,h1,h2,?_,h4⟩
  have hq:q < W.heap.size:=by
   rcases Nat.lt_or_ge q W.heap.size with h|h
   ·exact h
   ·rw [Array.getElem?_eq_none h] at h3;cases h3
  rw [hs.block q (hg _ _ _ h1) hq]
  exact h3
theorem OwnK.size {k:IntKind} {e:TypeId} {W:World} {B g n c:Nat} {l:List Int} (h:OwnK k e W B (.slice (some ⟨g,0,none⟩) n c) l):g < W.heap.size:=by
 rcases h.2 with ⟨h1,_⟩|⟨q,cap,cur,h1,h2,h3,h4⟩
 ·cases h1
 ·cases h1
  rcases Nat.lt_or_ge g W.heap.size with h|h
  ·exact h
  ·rw [Array.getElem?_eq_none h] at h3;cases h3
def prodN:List Nat→Nat
 | []=>1
 | d :: ds=>d*prodN ds
theorem prodN_append:∀ a b:List Nat,prodN (a++b)=prodN a*prodN b
 | [],b=>by simp [prodN]
 | d :: a,b=>by simp [prodN,prodN_append a b,Nat.mul_assoc]
theorem prodN_pos:∀ {d:List Nat},(∀ x,x∈d→1≤x)→1≤prodN d
 | [],_=>Nat.le_refl _
 | x :: d,h=>by
  have h1:=h x List.mem_cons_self
  have h2:=prodN_pos (d:=d) fun y hy=>h y (List.mem_cons_of_mem _ hy)
  exact Nat.mul_pos h1 h2
/-- A shape's numbers. -/
abbrev goodN (d:List Nat):Prop:=d.length≤4∧(∀ x,x∈d→1≤x)∧prodN d≤4096
theorem mem_le_prodN:∀ {d:List Nat},(∀ x,x∈d→1≤x)→∀ x,x∈d→x≤prodN d
 | y :: d,h,x,hx=>by
  have hp:=prodN_pos (d:=d) fun y hy=>h y (List.mem_cons_of_mem _ hy)
  have hy:=h y List.mem_cons_self
  rcases List.mem_cons.1 hx with rfl|hx
  ·exact Nat.le_mul_of_pos_right _ hp
  ·exact Nat.le_trans (mem_le_prodN (fun y hy=>h y (List.mem_cons_of_mem _ hy)) x hx) (Nat.le_mul_of_pos_left _ hy)
theorem goodN.le {d:List Nat} (h:goodN d):∀ x,x∈d→x≤4096:=fun x hx=>Nat.le_trans (mem_le_prodN h.2.1 x hx) h.2.2
theorem prodN_take_le {d:List Nat} (h:∀ x,x∈d→1≤x) (k:Nat):prodN (d.take k)≤prodN d:=by
 have e:prodN d=prodN (d.take k)*prodN (d.drop k):=by rw [← prodN_append,List.take_append_drop]
 have:=prodN_pos (d:=d.drop k) fun x hx=>h x (List.mem_of_mem_drop hx)
 rw [e]
 exact Nat.le_mul_of_pos_right _ this
theorem prodN_drop_le {d:List Nat} (h:∀ x,x∈d→1≤x) (k:Nat):prodN (d.drop k)≤prodN d:=by
 have e:prodN d=prodN (d.take k)*prodN (d.drop k):=by rw [← prodN_append,List.take_append_drop]
 have:=prodN_pos (d:=d.take k) fun x hx=>h x (List.mem_of_mem_take hx)
 rw [e]
 exact Nat.le_mul_of_pos_left _ this
theorem prodN_take_succ (d:List Nat) (k:Nat) (h:k < d.length):prodN (d.take (k+1))=prodN (d.take k)*d[k]:=by
 rw [List.take_succ_eq_append_getElem h,prodN_append]
 simp [prodN]
theorem prodN_drop_succ (d:List Nat) (k:Nat) (h:k < d.length):prodN (d.drop k)=d[k]*prodN (d.drop (k+1)):=by
 rw [List.drop_eq_getElem_cons h]
 rfl
/-- How far it is from one to the next along each. -/
def stridesN:List Nat→List Nat
 | []=>[]
 | _ :: ds=>prodN ds :: stridesN ds
theorem stridesN_len:∀ d,(stridesN d).length=d.length
 | []=>rfl
 | _ :: ds=>by simp [stridesN,stridesN_len ds]
theorem stridesN_get:∀ (d:List Nat) (k:Nat),k < d.length→(stridesN d)[k]?=some (prodN (d.drop (k+1)))
 | [],k,h=>by simp at h
 | _ :: ds,0,h=>by simp [stridesN]
 | _ :: ds,k+1,h=>by
  simp only [stridesN,List.getElem?_cons_succ,List.drop_succ_cons]
  exact stridesN_get ds k (by simpa using h)
/-- The number of a place, and back. -/
def evalN:List Nat→List Nat→Nat
 | _ :: ds,p :: ps=>p*prodN ds+evalN ds ps
 | _,_=>0
def placeN:List Nat→Nat→List Nat
 | [],_=>[]
 | _ :: ds,at_=>at_ / prodN ds :: placeN ds (at_ % prodN ds)
theorem placeN_len:∀ d a,(placeN d a).length=d.length
 | [],_=>rfl
 | _ :: ds,a=>by simp [placeN,placeN_len ds]
theorem eval_place:∀ (d:List Nat) (a:Nat),(∀ x,x∈d→1≤x)→a < prodN d→evalN d (placeN d a)=a
 | [],a,_,h=>by simp [prodN] at h;simp [evalN,h]
 | x :: ds,a,h,ha=>by
  have hp:=prodN_pos (d:=ds) fun y hy=>h y (List.mem_cons_of_mem _ hy)
  rw [placeN,evalN,eval_place ds _ (fun y hy=>h y (List.mem_cons_of_mem _ hy)) (Nat.mod_lt _ hp),Nat.mul_comm]
  exact Nat.div_add_mod a (prodN ds)
/-- Each number of a place is below its side. -/
def Inside:List Nat→List Nat→Prop
 | d :: ds,p :: ps=>p < d∧Inside ds ps
 | [],[]=>True
 | _,_=>False
theorem inside_place:∀ (d:List Nat) (a:Nat),(∀ x,x∈d→1≤x)→a < prodN d→Inside d (placeN d a)
 | [],_,_,_=>trivial
 | x :: ds,a,h,ha=>by
  have hp:=prodN_pos (d:=ds) fun y hy=>h y (List.mem_cons_of_mem _ hy)
  refine ⟨Nat.div_lt_of_lt_mul (by rw [Nat.mul_comm];exact ha),inside_place ds _ (fun y hy=>h y (List.mem_cons_of_mem _ hy)) (Nat.mod_lt _ hp)⟩
theorem inside_len:∀ {d p:List Nat},Inside d p→p.length=d.length
 | [],[],_=>rfl
 | _ :: ds,_ :: ps,h=>by simp [inside_len h.2]
 | [],_ :: _,h=>h.elim
 | _ :: _,[],h=>h.elim
theorem inside_get:∀ {d p:List Nat},Inside d p→∀ (k:Nat) (x y:Nat),d[k]?=some x→p[k]?=some y→y < x
 | _ :: _,_ :: _,h,0,x,y,hx,hy=>by
  simp at hx hy
  subst hx hy
  exact h.1
 | _ :: ds,_ :: ps,h,k+1,x,y,hx,hy=>inside_get h.2 k x y (by simpa using hx) (by simpa using hy)
 | [],[],_,k,x,y,hx,_=>by simp at hx
 | [],_ :: _,h,_,_,_,_,_=>h.elim
 | _ :: _,[],h,_,_,_,_,_=>h.elim
theorem inside_of:∀ {d p:List Nat},p.length=d.length→(∀ (k:Nat) (x y:Nat),d[k]?=some x→p[k]?=some y→y < x)→Inside d p
 | [],[],_,_=>trivial
 | d :: ds,p :: ps,hl,h=>⟨h 0 d p rfl rfl,inside_of (by simpa using hl) fun k x y hx hy=>h (k+1) x y (by simpa using hx) (by simpa using hy)⟩
 | [],_ :: _,hl,_=>by simp at hl
 | _ :: _,[],hl,_=>by simp at hl
theorem eval_lt:∀ {d p:List Nat},Inside d p→evalN d p < prodN d
 | [],[],_=>by simp [evalN,prodN]
 | d :: ds,p :: ps,h=>by
  have h1:=eval_lt h.2
  have h2:(p+1)*prodN ds≤d*prodN ds:=Nat.mul_le_mul_right _ h.1
  rw [Nat.add_mul] at h2
  simp only [evalN,prodN]
  omega
 | [],_ :: _,h=>h.elim
 | _ :: _,[],h=>h.elim
/-- The same, of the first k sides. -/
def hornK (d p:List Nat):Nat→Nat
 | 0=>0
 | k+1=>hornK d p k*d.getD k 0+p.getD k 0
/-- A place's k-th number, by the sides behind it. -/
theorem placeN_get:∀ (d:List Nat) (a k:Nat),(∀ x,x∈d→1≤x)→a < prodN d→(hk:k < d.length)→(placeN d a)[k]?=some (a / prodN (d.drop (k+1)) % d[k])
 | x :: ds,a,0,h,ha,hk=>by
  simp only [placeN,List.getElem?_cons_zero,List.drop_succ_cons,List.drop_zero,List.getElem_cons_zero]
  rw [Nat.mod_eq_of_lt (Nat.div_lt_of_lt_mul (by rw [Nat.mul_comm];exact ha))]
 | x :: ds,a,k+1,h,ha,hk=>by
  have hg:∀ y,y∈ds→1≤y:=fun y hy=>h y (List.mem_cons_of_mem _ hy)
  have hp:=prodN_pos hg
  have hk':k < ds.length:=by simpa using hk
  simp only [placeN,List.getElem?_cons_succ,List.drop_succ_cons,List.getElem_cons_succ]
  rw [placeN_get ds (a % prodN ds) k hg (Nat.mod_lt _ hp) hk']
  congr 1
  have e:prodN ds=prodN (ds.take k)*(ds[k]*prodN (ds.drop (k+1))):=by rw [← prodN_drop_succ ds k hk',← prodN_append,List.take_append_drop]
  generalize hP:prodN (ds.drop (k+1))=P at *
  have hP1:1≤P:=by rw [← hP];exact prodN_pos fun y hy=>hg y (List.mem_of_mem_drop hy)
  have hK1:1≤ds[k]:=hg _ (List.getElem_mem hk')
  generalize ds[k]=K at *
  generalize prodN (ds.take k)=T at *
  rw [e,show T*(K*P)=P*(K*T) by rw [Nat.mul_comm T,Nat.mul_comm K P,Nat.mul_assoc],Nat.mod_mul_right_div_self,Nat.mod_mul_right_mod]
/-- What is left of a number behind the sides from k on. -/
theorem div_drop (d:List Nat) (a k:Nat) (hk:k < d.length):a / prodN (d.drop (k+1)) / d[k]=a / prodN (d.drop k):=by
 rw [Nat.div_div_eq_div_mul,prodN_drop_succ d k hk,Nat.mul_comm]
/-- The sum of products, of the first k. -/
def dotK (p s:List Nat):Nat→Nat
 | 0=>0
 | k+1=>dotK p s k+p.getD k 0*s.getD k 0
theorem dotK_cons (p0 s0:Nat) (p s:List Nat):∀ k,dotK (p0 :: p) (s0 :: s) (k+1)=p0*s0+dotK p s k
 | 0=>by simp [dotK]
 | k+1=>by
  rw [dotK,dotK_cons p0 s0 p s k,dotK]
  simp only [List.getD_cons_succ]
  omega
theorem dotK_strides:∀ (d p:List Nat),p.length=d.length→dotK p (stridesN d) d.length=evalN d p
 | [],[],_=>rfl
 | d :: ds,p :: ps,h=>by
  rw [stridesN,List.length_cons,dotK_cons,dotK_strides ds ps (by simpa using h),evalN]
 | [],_ :: _,h=>by simp at h
 | _ :: _,[],h=>by simp at h
/-- The i-th side from the last on (from 1), 1 where there is none. -/
def sideN (l:List Nat) (i:Nat):Nat:=if i≤l.length then l.getD (l.length - i) 1 else 1
theorem sideN_pos {l:List Nat} (h:∀ x,x∈l→1≤x) (i:Nat):1≤sideN l i:=by
 unfold sideN
 split
 ·rw [List.getD_eq_getElem?_getD]
  cases hc:l[l.length - i]? with
  | none=>exact Nat.le_refl _
  | some x=>exact h x (List.mem_of_getElem? hc)
 ·exact Nat.le_refl _
theorem sideN_get (l:List Nat) (j:Nat) (h:j < l.length):l[j]?=some (sideN l (l.length - j)):=by
 unfold sideN
 rw [if_pos (by omega),show l.length - (l.length - j)=j by omega,List.getD_eq_getElem?_getD,List.getElem?_eq_getElem h]
 rfl
theorem ext_side {a b:List Nat} (hl:a.length=b.length) (h:∀ i,1≤i→i≤a.length→sideN a i=sideN b i):a=b:=by
 refine List.ext_getElem? fun j=>?_
 by_cases hj:j < a.length
 ·rw [sideN_get a j hj,sideN_get b j (by omega),h (a.length - j) (by omega) (by omega),hl]
 ·rw [List.getElem?_eq_none (by omega),List.getElem?_eq_none (by omega)]
/-- The list of n sides. -/
def ofSides (n:Nat) (f:Nat→Nat):List Nat:=(List.range n).map fun j=>f (n - j)
theorem ofSides_len (n:Nat) (f:Nat→Nat):(ofSides n f).length=n:=by simp [ofSides]
theorem ofSides_side (n:Nat) (f:Nat→Nat) (i:Nat) (h1:1≤i) (h:i≤n):sideN (ofSides n f) i=f i:=by
 unfold sideN
 rw [ofSides_len,if_pos h,List.getD_eq_getElem?_getD,ofSides,List.getElem?_map,List.getElem?_range (by omega)]
 simp only [Option.map_some,Option.getD_some]
 rw [show n - (n - i)=i by omega]
theorem sideN_far (l:List Nat) (i:Nat) (h:l.length < i):sideN l i=1:=by
 unfold sideN
 rw [if_neg (by omega)]
def joinN (a b:List Nat):List Nat:=ofSides (max a.length b.length) fun i=>max (sideN a i) (sideN b i)
abbrev fitN (x y:Nat):Prop:=x=y∨x=1∨y=1
def fitsN (a b:List Nat):Prop:=∀ i,1≤i→i≤max a.length b.length→fitN (sideN a i) (sideN b i)
theorem joinN_len (a b:List Nat):(joinN a b).length=max a.length b.length:=ofSides_len _ _
theorem joinN_side (a b:List Nat) (i:Nat) (h:1≤i):sideN (joinN a b) i=max (sideN a i) (sideN b i):=by
 by_cases hi:i≤max a.length b.length
 ·exact ofSides_side _ _ i h hi
 ·rw [sideN_far _ i (by rw [joinN_len];omega),sideN_far a i (by omega),sideN_far b i (by omega)]
  rfl
theorem joinN_comm (a b:List Nat):joinN a b=joinN b a:=
 ext_side (by rw [joinN_len,joinN_len,Nat.max_comm]) fun i h1 h2=>by rw [joinN_side _ _ _ h1,joinN_side _ _ _ h1,Nat.max_comm]
theorem fitN_comm {x y:Nat}:fitN x y↔fitN y x:=by unfold fitN;omega
theorem fitsN_comm (a b:List Nat):fitsN a b↔fitsN b a:=by
 unfold fitsN
 rw [Nat.max_comm b.length]
 exact ⟨fun h i h1 h2=>fitN_comm.1 (h i h1 h2),fun h i h1 h2=>fitN_comm.1 (h i h1 h2)⟩
theorem fitsN_again {a b:List Nat} (ha:∀ x,x∈a→1≤x) (hb:∀ x,x∈b→1≤x) (h:fitsN a b):fitsN (joinN a b) a:=by
 intro i h1 h2
 rw [joinN_side _ _ _ h1]
 rw [joinN_len] at h2
 have:=h i h1 (by omega)
 have p1:=sideN_pos ha i
 have p2:=sideN_pos hb i
 unfold fitN at *
 omega
theorem joinN_again (a b:List Nat):joinN (joinN a b) a=joinN a b:=
 ext_side (by rw [joinN_len,joinN_len];omega) fun i h1 h2=>by
  rw [joinN_side _ _ _ h1,joinN_side _ _ _ h1]
  omega
/-- A shape spread to another's length: ones ahead. -/
def padN (n:Nat) (l:List Nat):List Nat:=List.replicate (n - l.length) 1++l
theorem padN_len (n:Nat) (l:List Nat) (h:l.length≤n):(padN n l).length=n:=by simp [padN];omega
theorem padN_side (n:Nat) (l:List Nat) (h:l.length≤n) (i:Nat) (h1:1≤i):sideN (padN n l) i=sideN l i:=by
 by_cases hl:i≤l.length
 ·unfold sideN
  rw [padN_len n l h,if_pos hl,if_pos (by omega),padN,List.getD_eq_getElem?_getD,List.getElem?_append_right (by simp;omega),List.getD_eq_getElem?_getD]
  congr 2
  simp
  omega
 ·rw [sideN_far l i (by omega)]
  unfold sideN
  rw [padN_len n l h]
  split
  ·rw [padN,List.getD_eq_getElem?_getD,List.getElem?_append_left (by simp;omega)]
   rw [List.getElem?_replicate]
   split <;> rfl
  ·rfl
theorem prodN_ones (m:Nat):prodN (List.replicate m 1)=1:=by
 induction m with
 | zero=>rfl
 | succ m ih=>rw [List.replicate_succ,prodN,ih]
theorem prodN_pad (n:Nat) (l:List Nat):prodN (padN n l)=prodN l:=by rw [padN,prodN_append,prodN_ones,Nat.one_mul]
/-- What is spread where: of each side that is 1 its only number. -/
def pickN:List Nat→List Nat→List Nat
 | d :: ds,p :: ps=>(if d=1 then 0 else p) :: pickN ds ps
 | _,_=>[]
theorem pickN_len:∀ d p:List Nat,p.length=d.length→(pickN d p).length=d.length
 | [],[],_=>rfl
 | d :: ds,p :: ps,h=>by simp [pickN,pickN_len ds ps (by simpa using h)]
 | [],_ :: _,h=>by simp at h
 | _ :: _,[],h=>by simp at h
theorem pickN_get:∀ (d p:List Nat) (k:Nat) (x y:Nat),d[k]?=some x→p[k]?=some y→(pickN d p)[k]?=some (if x=1 then 0 else y)
 | d :: ds,p :: ps,0,x,y,hx,hy=>by
  simp at hx hy
  subst hx hy
  rfl
 | d :: ds,p :: ps,k+1,x,y,hx,hy=>by
  simp only [pickN,List.getElem?_cons_succ]
  exact pickN_get ds ps k x y (by simpa using hx) (by simpa using hy)
 | [],_,k,x,y,hx,_=>by simp at hx
 | _ :: _,[],k,x,y,_,hy=>by simp at hy
/-- The place of the number that is spread to the place a of big. -/
def fromN (d big:List Nat) (a:Nat):Nat:=evalN d (pickN d ((placeN big a).drop (big.length - d.length)))
/-- The same, side by side. -/
def frN:List Nat→List Nat→Nat→Nat
 | d :: ds,b :: bs,a=>(if d=1 then 0 else a / prodN bs)*prodN ds+frN ds bs (a % prodN bs)
 | _,_,_=>0
theorem frN_eq:∀ (d b:List Nat) (a:Nat),d.length=b.length→evalN d (pickN d (placeN b a))=frN d b a
 | [],[],_,_=>rfl
 | d :: ds,b :: bs,a,h=>by rw [placeN,pickN,evalN,frN_eq ds bs _ (by simpa using h),frN]
 | [],_ :: _,_,h=>by simp at h
 | _ :: _,[],_,h=>by simp at h
theorem eval_ones:∀ (m:Nat) (d p:List Nat),p.length=m+d.length→evalN (List.replicate m 1++d) (pickN (List.replicate m 1++d) p)=evalN d (pickN d (p.drop m))
 | 0,d,p,h=>by simp
 | m+1,d,[],h=>by simp at h;omega
 | m+1,d,p :: ps,h=>by
  rw [List.replicate_succ,List.cons_append,pickN,evalN,if_pos rfl,Nat.zero_mul,Nat.zero_add,eval_ones m d ps (by simp at h;omega),List.drop_succ_cons]
theorem fromN_fr (d big:List Nat) (a:Nat) (h:d.length≤big.length):fromN d big a=frN (padN big.length d) big a:=by
 rw [← frN_eq _ _ _ (padN_len _ _ h),padN,eval_ones _ d _ (by rw [placeN_len];omega)]
 rfl
/-- Each side of d is 1 or big's. -/
def Spread:List Nat→List Nat→Prop
 | d :: ds,b :: bs=>(d=1∨d=b)∧Spread ds bs
 | [],[]=>True
 | _,_=>False
theorem spread_of:∀ {d b:List Nat},d.length=b.length→(∀ (k:Nat) (x y:Nat),d[k]?=some x→b[k]?=some y→x=1∨x=y)→Spread d b
 | [],[],_,_=>trivial
 | d :: ds,b :: bs,hl,h=>⟨h 0 d b rfl rfl,spread_of (by simpa using hl) fun k x y hx hy=>h (k+1) x y (by simpa using hx) (by simpa using hy)⟩
 | [],_ :: _,hl,_=>by simp at hl
 | _ :: _,[],hl,_=>by simp at hl
theorem join_big {d big:List Nat} (hd:∀ x,x∈d→1≤x) (hb:∀ x,x∈big→1≤x) (hf:fitsN d big) (hj:joinN d big=big):d.length≤big.length∧Spread (padN big.length d) big:=by
 have hl:d.length≤big.length:=by
  have:=congrArg List.length hj
  rw [joinN_len] at this
  omega
 refine ⟨hl,spread_of (padN_len _ _ hl) fun k x y hx hy=>?_⟩
 have hk:k < big.length:=(List.getElem?_eq_some_iff.1 hy).1
 rw [sideN_get _ k (by rw [padN_len _ _ hl];exact hk),padN_len _ _ hl,padN_side _ _ hl _ (by omega)] at hx
 rw [sideN_get _ k hk] at hy
 cases hx
 cases hy
 have h1:=hf (big.length - k) (by omega) (by omega)
 have h2:=congrArg (fun l=>sideN l (big.length - k)) hj
 simp only [joinN_side _ _ _ (show 1≤big.length - k by omega)] at h2
 have p1:=sideN_pos hd (big.length - k)
 have p2:=sideN_pos hb (big.length - k)
 unfold fitN at h1
 omega
theorem frN_lt:∀ {d b:List Nat},Spread d b→(∀ x,x∈b→1≤x)→∀ a,a < prodN b→frN d b a < prodN d
 | [],[],_,_,a,_=>by simp [frN,prodN]
 | d :: ds,b :: bs,h,hb,a,ha=>by
  have hp:=prodN_pos (d:=bs) fun y hy=>hb y (List.mem_cons_of_mem _ hy)
  have ih:=frN_lt h.2 (fun y hy=>hb y (List.mem_cons_of_mem _ hy)) (a % prodN bs) (Nat.mod_lt _ hp)
  have hq:a / prodN bs < b:=Nat.div_lt_of_lt_mul (by rw [Nat.mul_comm];exact ha)
  have hk:(if d=1 then 0 else a / prodN bs) < d:=by
   rcases h.1 with e|e
   ·rw [if_pos e];omega
   ·split <;> omega
  rw [frN,prodN]
  have:=Nat.mul_le_mul_right (prodN ds) (show (if d=1 then 0 else a / prodN bs)+1≤d from hk)
  rw [Nat.add_mul] at this
  omega
 | [],_ :: _,h,_,_,_=>h.elim
 | _ :: _,[],h,_,_,_=>h.elim
theorem fromN_lt {d big:List Nat} (hd:∀ x,x∈d→1≤x) (hb:∀ x,x∈big→1≤x) (hf:fitsN d big) (hj:joinN d big=big) (a:Nat) (ha:a < prodN big):fromN d big a < prodN d:=by
 obtain ⟨hl,hs⟩:=join_big hd hb hf hj
 rw [fromN_fr d big a hl,← prodN_pad big.length d]
 exact frN_lt hs hb a ha
def ntl (l:List Int):List Nat:=l.map Int.toNat
def itl (l:List Nat):List Int:=l.map fun (x:Nat)=>(x:Int)
theorem ntl_len (l:List Int):(ntl l).length=l.length:=by simp [ntl]
theorem itl_len (l:List Nat):(itl l).length=l.length:=by simp [itl]
theorem ntl_itl (l:List Nat):ntl (itl l)=l:=by
 unfold ntl itl
 rw [List.map_map]
 exact (List.map_congr_left fun x _=>by simp).trans (List.map_id _)
theorem itl_ntl {l:List Int} (h:∀ x,x∈ntl l→1≤x):itl (ntl l)=l:=by
 unfold ntl itl at *
 rw [List.map_map]
 refine (List.map_congr_left fun x hx=>?_).trans (List.map_id _)
 have:=h x.toNat (List.mem_map.2 ⟨x,hx,rfl⟩)
 show ((x.toNat:Nat):Int)=x
 omega
theorem getD_lt {α:Type} (l:List α) (k:Nat) (d:α) (h:k < l.length):l.getD k d=l[k]:=by
 rw [List.getD_eq_getElem?_getD,List.getElem?_eq_getElem h]
 rfl
theorem itl_getD (l:List Nat) (k:Nat):(itl l).getD k 0=((l.getD k 0:Nat):Int):=by
 rw [List.getD_eq_getElem?_getD,List.getD_eq_getElem?_getD,itl,List.getElem?_map]
 cases l[k]? <;> rfl
theorem ntl_getD (l:List Int) (k:Nat) (h:k < l.length):(ntl l).getD k 0=(l.getD k 0).toNat:=by
 rw [List.getD_eq_getElem?_getD,List.getD_eq_getElem?_getD,ntl,List.getElem?_map,List.getElem?_eq_getElem h]
 rfl
def sizeN (d:List Nat):Nat:=if goodN d then prodN d else 0
theorem sizeN_good {d:List Nat} (h:goodN d):sizeN d=prodN d:=if_pos h
theorem sizeN_bad {d:List Nat} (h:¬ goodN d):sizeN d=0:=if_neg h
theorem goodN.pos {d:List Nat} (h:goodN d):1≤prodN d:=prodN_pos h.2.1
theorem sizeN_iff (d:List Nat):(0 < sizeN d)↔goodN d:=by
 unfold sizeN
 split
 ·rename_i h;have:=h.pos;exact ⟨fun _=>h,fun _=>by omega⟩
 ·rename_i h;exact ⟨fun h'=>by omega,fun h'=>absurd h' h⟩
/-- The product of the first k, and that they are not below 1. -/
def pK (l:List Int) (k:Nat):Int:=((prodN ((ntl l).take k):Nat):Int)
def okK (l:List Int) (k:Nat):Prop:=∀ i,i < k→1≤l.getD i 0
theorem pK_zero (l:List Int):pK l 0=1:=rfl
theorem okK_zero (l:List Int):okK l 0:=fun i h=>absurd h (Nat.not_lt_zero _)
theorem pK_succ (l:List Int) (k:Nat) (hk:k < l.length) (h:1≤l.getD k 0):pK l (k+1)=pK l k*l.getD k 0:=by
 unfold pK
 rw [prodN_take_succ _ k (by rw [ntl_len];exact hk),Int.natCast_mul]
 congr 1
 rw [← getD_lt (ntl l) k 0 (by rw [ntl_len];exact hk),ntl_getD l k hk]
 omega
theorem okK_succ {l:List Int} {k:Nat} (h:okK l k) (hk:1≤l.getD k 0):okK l (k+1):=fun i hi=>by
 rcases Nat.lt_succ_iff_lt_or_eq.1 hi with h'|rfl
 ·exact h i h'
 ·exact hk
theorem ntl_mem {l:List Int} {k:Nat} (hk:k < l.length):(l.getD k 0).toNat∈ntl l:=by
 rw [getD_lt l k 0 hk]
 exact List.mem_map.2 ⟨_,List.getElem_mem hk,rfl⟩
theorem bad_low {l:List Int} {k:Nat} (hk:k < l.length) (h:l.getD k 0 < 1):¬ goodN (ntl l):=fun hg=>by
 have:=hg.2.1 _ (ntl_mem hk)
 omega
theorem good_pK {l:List Int} (hg:goodN (ntl l)) (k:Nat):1≤pK l k∧pK l k≤4096:=by
 have h1:=prodN_take_le hg.2.1 k
 have h2:=prodN_pos (d:=(ntl l).take k) fun x hx=>hg.2.1 x (List.mem_of_mem_take hx)
 have h3:=hg.2.2
 unfold pK
 omega
theorem bad_great {l:List Int} {k:Nat} (hk:k < l.length) (h1:1≤l.getD k 0) (h:4096 < pK l k*l.getD k 0):¬ goodN (ntl l):=fun hg=>by
 have:=good_pK hg (k+1)
 rw [pK_succ l k hk h1] at this
 omega
theorem good_end {l:List Int} (hl:l.length≤4) (hok:okK l l.length) (h:pK l l.length≤4096):goodN (ntl l)∧pK l l.length=((prodN (ntl l):Nat):Int):=by
 have e:(ntl l).take l.length=ntl l:=List.take_of_length_le (by rw [ntl_len];exact Nat.le_refl _)
 unfold pK at *
 rw [e] at h ⊢
 refine ⟨⟨by rw [ntl_len];exact hl,fun x hx=>?_,by omega⟩,rfl⟩
 obtain ⟨y,hy,rfl⟩:=List.mem_map.1 hx
 obtain ⟨i,hi,rfl⟩:=List.mem_iff_getElem.1 hy
 have:=hok i hi
 rw [getD_lt l i 0 hi] at this
 omega
theorem long_bad {l:List Int} (h:4 < l.length):¬ goodN (ntl l):=fun hg=>by
 have:=hg.1
 rw [ntl_len] at this
 omega
/-- The quotient that a bound is held against. -/
theorem quo_le (x y:Int) (hx:1≤x) (hx2:x≤4096) (h:y≤4096 / x) (hy:1≤y):x*y≤4096∧1≤x*y:=by
 have h1:x*(4096 / x)≤4096:=Int.mul_ediv_self_le (by omega)
 have h2:x*y≤x*(4096 / x):=Int.mul_le_mul_of_nonneg_left h (by omega)
 have h3:1*1≤x*y:=Int.mul_le_mul hx hy (by omega) (by omega)
 omega
theorem quo_gt (x y:Int) (hx:1≤x) (hx2:x≤4096) (h:4096 / x < y):4096 < x*y:=by
 have h1:4096 < (4096 / x+1)*x:=Int.lt_mul_of_ediv_lt (by omega) (by omega)
 have h2:x*(4096 / x+1)≤x*y:=Int.mul_le_mul_of_nonneg_left (by omega) (by omega)
 rw [Int.mul_comm] at h1
 omega
/-- A row in the making, from its end on. -/
def rowB (L:List Int) (k:Nat):List Int:=List.replicate (L.length - k) 0++L.drop (L.length - k)
theorem rowB_len (L:List Int) (k:Nat):(rowB L k).length=L.length:=by
 unfold rowB
 rw [List.length_append,List.length_replicate,List.length_drop]
 omega
theorem rowB_zero (L:List Int):rowB L 0=List.replicate L.length 0:=by simp [rowB]
theorem rowB_full (L:List Int):rowB L L.length=L:=by simp [rowB]
theorem rowB_set (L:List Int) (j k:Nat) (h:j+k+1=L.length):(rowB L k).set j (L.getD j 0)=rowB L (k+1):=by
 unfold rowB
 rw [show L.length - k=j+1 by omega,show L.length - (k+1)=j by omega,List.replicate_succ',List.append_assoc,List.set_append_right _ _ (by simp),List.length_replicate,Nat.sub_self,List.drop_eq_getElem_cons (show j < L.length by omega),getD_lt L j 0 (by omega)]
 rfl
/-- The product of the last k. -/
def sK (d:List Nat) (k:Nat):Int:=((prodN (d.drop (d.length - k)):Nat):Int)
theorem sK_zero (d:List Nat):sK d 0=1:=by simp [sK,prodN]
theorem sK_succ (d:List Nat) (j k:Nat) (h:j+k+1=d.length):sK d (k+1)=sK d k*((d.getD j 0:Nat):Int):=by
 unfold sK
 rw [show d.length - k=j+1 by omega,show d.length - (k+1)=j by omega,prodN_drop_succ d j (by omega),Int.natCast_mul,Int.mul_comm,getD_lt d j 0 (by omega)]
theorem sK_rng {d:List Nat} (h:goodN d) (k:Nat):1≤sK d k∧sK d k≤4096:=by
 have h1:=prodN_drop_le h.2.1 (d.length - k)
 have h2:=prodN_pos (d:=d.drop (d.length - k)) fun x hx=>h.2.1 x (List.mem_of_mem_drop hx)
 have h3:=h.2.2
 unfold sK
 omega
theorem goodN.at {d:List Nat} (h:goodN d) (j:Nat) (hj:j < d.length):1≤d.getD j 0∧d.getD j 0≤4096:=by
 rw [getD_lt d j 0 hj]
 exact ⟨h.2.1 _ (List.getElem_mem hj),h.le _ (List.getElem_mem hj)⟩
def stridesI (d:List Int):List Int:=if goodN (ntl d) then itl (stridesN (ntl d)) else []
theorem strides_at (d:List Nat) (j k:Nat) (h:j+k+1=d.length):(itl (stridesN d)).getD j 0=sK d k:=by
 rw [itl_getD,List.getD_eq_getElem?_getD,stridesN_get d j (by omega)]
 unfold sK
 rw [show d.length - k=j+1 by omega]
 rfl
/-- What a walk from the first side on has reckoned. -/
def hK (d p:List Int) (k:Nat):Int:=((hornK (ntl d) (ntl p) k:Nat):Int)
/-- Do two fit, by looking. -/
def fitsB (a b:List Nat):Bool:=(List.range (max a.length b.length+1)).all fun i=>decide (i=0) || decide (fitN (sideN a i) (sideN b i))
theorem fitsB_iff (a b:List Nat):fitsB a b=true↔fitsN a b:=by
 unfold fitsB fitsN
 rw [List.all_eq_true]
 constructor
 ·intro h i h1 h2
  have:=h i (List.mem_range.2 (by omega))
  rw [Bool.or_eq_true,decide_eq_true_eq,decide_eq_true_eq] at this
  rcases this with h'|h'
  ·omega
  ·exact h'
 ·intro h i hi
  have hi:=List.mem_range.1 hi
  rw [Bool.or_eq_true,decide_eq_true_eq,decide_eq_true_eq]
  by_cases h0:i=0
  ·exact .inl h0
  ·exact .inr (h i (by omega) (by omega))
/-- What two spread to, and the error. -/
def joinL (a b:List Int):List Int:=if goodN (ntl a)∧goodN (ntl b)∧fitsB (ntl a) (ntl b)=true∧goodN (joinN (ntl a) (ntl b)) then itl (joinN (ntl a) (ntl b)) else []
def joinE (a b:List Int):Int:=if goodN (ntl a)∧goodN (ntl b) then if fitsB (ntl a) (ntl b)=true then if goodN (joinN (ntl a) (ntl b)) then 0 else 2 else 4 else 1
theorem join_none {a b:List Int} (h:¬ (goodN (ntl a)∧goodN (ntl b))):joinL a b = []∧joinE a b=1:=⟨if_neg fun h'=>h ⟨h'.1,h'.2.1⟩,if_neg h⟩
theorem join_unlike {a b:List Nat} (ha:goodN a) (hb:goodN b) (h:¬ fitsN a b):joinL (itl a) (itl b) = []∧joinE (itl a) (itl b)=4:=by
 unfold joinL joinE
 rw [ntl_itl,ntl_itl]
 exact ⟨if_neg fun h'=>h ((fitsB_iff a b).1 h'.2.2.1),by rw [if_pos ⟨ha,hb⟩,if_neg fun h'=>h ((fitsB_iff a b).1 h')]⟩
theorem join_great {a b:List Nat} (ha:goodN a) (hb:goodN b) (hf:fitsN a b) (h:¬ goodN (joinN a b)):joinL (itl a) (itl b) = []∧joinE (itl a) (itl b)=2:=by
 unfold joinL joinE
 rw [ntl_itl,ntl_itl]
 exact ⟨if_neg fun h'=>h h'.2.2.2,by rw [if_pos ⟨ha,hb⟩,if_pos ((fitsB_iff a b).2 hf),if_neg h]⟩
theorem join_fine {a b:List Nat} (ha:goodN a) (hb:goodN b) (hf:fitsN a b) (h:goodN (joinN a b)):joinL (itl a) (itl b)=itl (joinN a b)∧joinE (itl a) (itl b)=0:=by
 unfold joinL joinE
 rw [ntl_itl,ntl_itl]
 exact ⟨if_pos ⟨ha,hb,(fitsB_iff a b).2 hf,h⟩,by rw [if_pos ⟨ha,hb⟩,if_pos ((fitsB_iff a b).2 hf),if_pos h]⟩
theorem side_at (d:List Nat) (k:Nat) (h1:1≤k) (h:k≤d.length):(itl d).getD (d.length - k) 0=((sideN d k:Nat):Int):=by
 rw [itl_getD]
 unfold sideN
 rw [if_pos h,getD_lt d _ 0 (by omega),getD_lt d _ 1 (by omega)]
theorem side_rng {d:List Nat} (h:goodN d) (k:Nat):1≤sideN d k∧sideN d k≤4096:=by
 refine ⟨sideN_pos h.2.1 k,?_⟩
 unfold sideN
 split
 ·rw [List.getD_eq_getElem?_getD]
  cases hc:d[d.length - k]? with
  | none=>show 1≤4096;omega
  | some x=>exact h.le x (List.mem_of_getElem? hc)
 ·omega
theorem join_at (a b:List Nat) (j k:Nat) (h:j+k+1=max a.length b.length):(itl (joinN a b)).getD j 0=((max (sideN a (k+1)) (sideN b (k+1)):Nat):Int):=by
 have:=side_at (joinN a b) (k+1) (by omega) (by rw [joinN_len];omega)
 rw [joinN_len,show max a.length b.length - (k+1)=j by omega,joinN_side _ _ _ (by omega)] at this
 exact this
/-- The side that two sides spread to, and whether they do. -/
def jnd (x y:Int):Int:=if x=1 then y else x
def jok (x y:Int):Bool:=decide (x=1∨y=1∨x=y)
theorem jok_fit (x y:Nat):jok (x:Int) (y:Int)=decide (fitN x y):=by
 unfold jok fitN
 exact decide_eq_decide.2 (by omega)
theorem jnd_max (x y:Nat) (hx:1≤x) (hy:1≤y) (h:fitN x y):jnd (x:Int) (y:Int)=((max x y:Nat):Int):=by
 unfold jnd fitN at *
 split <;> omega
theorem joinE_zero {a b:List Int} (h:joinE a b=0):goodN (ntl a)∧goodN (ntl b)∧fitsN (ntl a) (ntl b)∧goodN (joinN (ntl a) (ntl b)):=by
 unfold joinE at h
 split at h
 ·rename_i h1
  split at h
  ·rename_i h2
   split at h
   ·rename_i h3;exact ⟨h1.1,h1.2,(fitsB_iff _ _).1 h2,h3⟩
   ·omega
  ·omega
 ·omega
theorem join_le {d big:List Nat} (hj:joinN d big=big):d.length≤big.length:=by
 have:=congrArg List.length hj
 rw [joinN_len] at this
 omega
/-- The place that is spread to the place a of big. -/
def qN (d big:List Nat) (a:Nat):List Nat:=pickN d ((placeN big a).drop (big.length - d.length))
theorem qN_len (d big:List Nat) (a:Nat) (h:d.length≤big.length):(qN d big a).length=d.length:=pickN_len _ _ (by rw [List.length_drop,placeN_len];omega)
/-- A number of the spread place, by big's place. -/
theorem qN_pick {d big:List Nat} (h:d.length≤big.length) (a i:Nat) (hi:i < d.length):(((qN d big a).getD i 0:Nat):Int)=if ((d.getD i 0:Nat):Int)=1 then 0 else (itl (placeN big a)).getD (big.length - d.length+i) 0:=by
 have hl:=placeN_len big a
 have e1:d[i]?=some (d.getD i 0):=by rw [List.getElem?_eq_getElem hi,getD_lt d i 0 hi]
 have e2:((placeN big a).drop (big.length - d.length))[i]?=some ((placeN big a).getD (big.length - d.length+i) 0):=by
  rw [List.getElem?_drop,List.getElem?_eq_getElem (by omega),getD_lt _ _ 0 (by omega)]
 rw [itl_getD,List.getD_eq_getElem?_getD,qN,pickN_get d _ i _ _ e1 e2]
 simp only [Option.getD_some]
 by_cases h1:d.getD i 0=1
 ·rw [if_pos h1,if_pos (by rw [h1];rfl)];rfl
 ·rw [if_neg h1,if_neg (by omega)]
/-- Go's ints. -/
def RI (l:List Int):Prop:=∀ y,y∈l→-9223372036854775808≤y∧y≤9223372036854775807
theorem RI.at {l:List Int} (h:RI l) (k:Nat) (hk:k < l.length):-9223372036854775808≤l.getD k 0∧l.getD k 0≤9223372036854775807:=by
 rw [getD_lt l k 0 hk]
 exact h _ (List.getElem_mem hk)
/-- A slice's cells, as a walk reads them. -/
def Lst (w:World) (p:Option Addr) (n:Nat) (l:List Int):Prop:=l.length=n∧∀ j,j < n→∃ q o,p=some ⟨q,o,none⟩∧w.cell? ⟨q,o+j,none⟩=some (.int .i64 (l.getD j 0))
theorem Nums.lst {w:World} {v:Value} {l:List Int} (h:Nums .i64 w v l):∃ p n c,v = .slice p n c∧Hid (Lst w p n l):=by
 obtain ⟨p,c,rfl,hc⟩:=h.view
 exact ⟨p,_,c,rfl,rfl,hc⟩
theorem size_any (v:Value) (l:List Int) (hl:RI l) (w:World) (hv:Nums .i64 w v l):
  Calls Tryz.prog 86 #[v] w fun e w'=>e = .returned (.int .i64 ((sizeN (ntl l):Nat):Int))∧w'=w:=by
 obtain ⟨p,n,c,rfl,HC⟩:=hv.lst
 have HL:Hid (RI l):=hl
 obtain ⟨r,er⟩:∃ r:Int,((sizeN (ntl l):Nat):Int)=r:=⟨_,rfl⟩
 have HR:Hid (((sizeN (ntl l):Nat):Int)=r):=er
 rw [er]
 clear er hv hl
 go_enter Tryz.func86,Tryz.ntmps86
 by_cases hn:4 < n
 ·have hn':(4:Int) < (n:Int):=by omega
  go_wp2
  go_ret
  have:=long_bad (l:=l) (by rw [HC.out.1];exact hn)
  rw [← HR.out,sizeN_bad this]
  exact ⟨rfl,rfl⟩
 have hn':(n:Int)≤4:=by omega
 go_wp2_with fail
 go_loopg [3,11] n (fun gg u v wr=>∃ (k:Nat) (x:Int),k≤n∧gg=n - k∧u = .int .i64 x∧v = .int .i64 (k:Int)∧Hid (x=pK l k∧okK l k)∧1≤x∧x≤4096∧wr=w)
 case atStart=>exact ⟨0,1,by omega,by omega,rfl,rfl,⟨(pK_zero l).symm,okK_zero l⟩,by omega,by omega,rfl⟩
 case round=>
  obtain ⟨k,x,hk,hg,rfl,rfl,Hx,hx0,hx1,rfl⟩:=hrel
  by_cases hkn:k < n
  ·have hk':(k:Int) < (n:Int):=by omega
   obtain ⟨q,o,rfl,hcell⟩:=HC.out.2 k hkn
   have hkl:k < l.length:=by rw [HC.out.1];exact hkn
   have Hk:Hid (k < l.length):=hkl
   have hy:=HL.out.at k hkl
   obtain ⟨y,ey⟩:∃ y,l.getD k 0=y:=⟨_,rfl⟩
   have Hy:Hid (l.getD k 0=y):=ey
   rw [ey] at hcell hy
   obtain ⟨qq,eq⟩:∃ qq,(4096:Int) / x=qq:=⟨_,rfl⟩
   have hq1:0≤qq∧qq≤4096:=by
    rw [← eq]
    exact ⟨Int.ediv_nonneg (by omega) (by omega),Int.ediv_le_self _ (by omega)⟩
   have hqt:Int.tdiv 4096 x=qq:=by rw [Int.tdiv_eq_ediv_of_nonneg (by omega)];exact eq
   clear ey hkl
   by_cases hy1:y < 1
   ·go_wp2
    go_ret
    rw [← HR.out,sizeN_bad (bad_low Hk.out (by rw [Hy.out];exact hy1))]
    exact ⟨rfl,rfl⟩
   by_cases hy2:qq < y
   ·have hbad:¬ goodN (ntl l):=bad_great Hk.out (by rw [Hy.out];omega) (by rw [Hy.out,← Hx.out.1];exact quo_gt x y hx0 hx1 (by rw [eq];exact hy2))
    have Hbad:Hid (¬ goodN (ntl l)):=hbad
    clear hbad eq
    go_wp2
    go_ret
    rw [← HR.out,sizeN_bad Hbad.out]
    exact ⟨rfl,rfl⟩
   ·obtain ⟨m,em⟩:∃ m,x*y=m:=⟨_,rfl⟩
    have hm:=quo_le x y hx0 hx1 (by rw [eq];omega) (by omega)
    rw [em] at hm
    have Hn:Hid (m=pK l (k+1)∧okK l (k+1)):=⟨by rw [pK_succ l k Hk.out (by rw [Hy.out];omega),← Hx.out.1,Hy.out,em],okK_succ Hx.out.2 (by rw [Hy.out];omega)⟩
    clear eq
    go_wp2
    go_roundg (n - (k+1))
    case measure=>omega
    case rel=>exact ⟨k+1,m,by omega,rfl,by first|rfl|simp [em],by first|rfl|simp,Hn,hm.2,hm.1,rfl⟩
  ·obtain rfl:k=n:=by omega
   go_wp2
   go_ret
   have hlen:=HC.out.1
   subst hlen
   have:=good_end (l:=l) (by omega) Hx.out.2 (by rw [← Hx.out.1];exact hx1)
   rw [← HR.out,sizeN_good this.1,← this.2,← Hx.out.1]
   exact ⟨rfl,rfl⟩
theorem good_any (v:Value) (l:List Int) (hl:RI l) (w:World) (hv:Nums .i64 w v l):
  Calls Tryz.prog 85 #[v] w fun e w'=>e = .returned (.bool (decide (goodN (ntl l))))∧w'=w:=by
 have cs:=size_any v l hl w hv
 have ei:decide (((sizeN (ntl l):Nat):Int) > 0)=decide (goodN (ntl l)):=by
  have:=sizeN_iff (ntl l)
  exact decide_eq_decide.2 ⟨fun h=>this.1 (by omega),fun h=>by have:=this.2 h;omega⟩
 obtain ⟨r,er⟩:∃ r:Int,((sizeN (ntl l):Nat):Int)=r:=⟨_,rfl⟩
 rw [er] at cs ei
 rw [← ei]
 clear er ei hv
 go_enter Tryz.func85,Tryz.ntmps85
 go_wp2_with fail
 refine cs.mono ?_
 rintro e w1 ⟨rfl,rfl⟩
 go_wp2
 go_ret
 exact ⟨rfl,rfl⟩
theorem ne_at {a b:List Int} {n k:Nat} (ha:a.length=n) (hb:b.length=n) (hk:k < n) (h:a.getD k 0≠b.getD k 0):¬ a=b:=fun e=>h (by rw [e])
theorem eq_all {a b:List Int} {n:Nat} (ha:a.length=n) (hb:b.length=n) (h:∀ i,i < n→a.getD i 0=b.getD i 0):a=b:=
 List.ext_getElem (by omega) fun i h1 h2=>by
  have:=h i (by omega)
  rw [getD_lt a i 0 h1,getD_lt b i 0 h2] at this
  exact this
theorem equal_any (u v:Value) (a b:List Int) (hm:a.length≤9223372036854775807) (w:World) (hu:Nums .i64 w u a) (hv:Nums .i64 w v b):
  Calls Tryz.prog 68 #[u,v] w fun e w'=>e = .returned (.bool (decide (a=b)))∧∃ n,w'=w.drewN n:=by
 obtain ⟨p,n,c,rfl,HA⟩:=hu.lst
 obtain ⟨p2,n2,c2,rfl,HB⟩:=hv.lst
 obtain ⟨r,er⟩:∃ r:Bool,decide (a=b)=r:=⟨_,rfl⟩
 have HR:Hid (decide (a=b)=r):=er
 rw [er]
 rw [HA.out.1] at hm
 have hm':(n:Int)≤9223372036854775807:=by omega
 clear er hv hu
 go_enter Tryz.func68,Tryz.ntmps68
 by_cases hn:n=n2
 ·subst hn
  go_wp2_with fail
  go_loopg [13] n (fun gg v wr=>∃ (k d:Nat),k≤n∧gg=n - k∧v = .int .i64 (k:Int)∧Hid (∀ i,i < k→a.getD i 0=b.getD i 0)∧wr=w.drewN d)
  case atStart=>exact ⟨0,0,by omega,by omega,rfl,fun i hi=>by omega,rfl⟩
  case round=>
   obtain ⟨k,d,hk,hg,rfl,Hx,rfl⟩:=hrel
   by_cases hkn:k < n
   ·have hk':(k:Int) < (n:Int):=by omega
    obtain ⟨q,o,rfl,ca⟩:=HA.out.2 k hkn
    obtain ⟨q2,o2,rfl,cb⟩:=HB.out.2 k hkn
    obtain ⟨x,ex⟩:∃ x,a.getD k 0=x:=⟨_,rfl⟩
    obtain ⟨y,ey⟩:∃ y,b.getD k 0=y:=⟨_,rfl⟩
    have HE:Hid (a.getD k 0=x∧b.getD k 0=y):=⟨ex,ey⟩
    rw [ex] at ca
    rw [ey] at cb
    clear ex ey
    by_cases hxy:x=y
    ·subst hxy
     have Hn:Hid (∀ i,i < k+1→a.getD i 0=b.getD i 0):=fun i hi=>by
      rcases Nat.lt_succ_iff_lt_or_eq.1 hi with h|rfl
      ·exact Hx.out i h
      ·rw [HE.out.1,HE.out.2]
     clear Hx
     go_wp2
     go_region
     all_goals
      go_wp2
      go_roundg (n - (k+1))
     case measure=>omega
     case rel=>exact ⟨k+1,d+1,by omega,rfl,by first|rfl|simp,Hn,rfl⟩
    ·have hxy':(x != y)=true:=by simp [hxy]
     go_wp2
     go_region
     all_goals go_wp2
     go_ret
     rw [← HR.out,decide_eq_false (ne_at HA.out.1 HB.out.1 hkn (by rw [HE.out.1,HE.out.2];exact hxy))]
     exact ⟨rfl,d+1,rfl⟩
   ·obtain rfl:k=n:=by omega
    go_wp2
    go_ret
    rw [← HR.out,decide_eq_true (eq_all HA.out.1 HB.out.1 Hx.out)]
    exact ⟨rfl,d,rfl⟩
 ·have hne:((n:Int) != (n2:Int))=true:=by simp;omega
  have hne':¬ ((n:Int)=(n2:Int)):=by omega
  go_wp2
  go_ret
  rw [← HR.out,decide_eq_false (fun e=>hn (by rw [← HA.out.1,← HB.out.1,e]))]
  exact ⟨rfl,0,rfl⟩
theorem rsame_any (u v:Value) (a b:List Int) (hm:a.length≤9223372036854775807) (w:World) (hu:Nums .i64 w u a) (hv:Nums .i64 w v b):
  Calls Tryz.prog 21 #[u,v] w fun e w'=>e = .returned (.bool (decide (a=b)))∧∃ n,w'=w.drewN n:=by
 obtain ⟨p,n,c,rfl,HA⟩:=hu.lst
 obtain ⟨p2,n2,c2,rfl,HB⟩:=hv.lst
 obtain ⟨r,er⟩:∃ r:Bool,decide (a=b)=r:=⟨_,rfl⟩
 have HR:Hid (decide (a=b)=r):=er
 rw [er]
 rw [HA.out.1] at hm
 have hm':(n:Int)≤9223372036854775807:=by omega
 clear er hv hu
 go_enter Tryz.func21,Tryz.ntmps21
 by_cases hn:n=n2
 ·subst hn
  go_wp2_with fail
  go_loopg [5] n (fun gg v wr=>∃ (k d:Nat),k≤n∧gg=n - k∧v = .int .i64 (k:Int)∧Hid (∀ i,i < k→a.getD i 0=b.getD i 0)∧wr=w.drewN d)
  case atStart=>exact ⟨0,0,by omega,by omega,rfl,fun i hi=>by omega,rfl⟩
  case round=>
   obtain ⟨k,d,hk,hg,rfl,Hx,rfl⟩:=hrel
   by_cases hkn:k < n
   ·have hk':(k:Int) < (n:Int):=by omega
    obtain ⟨q,o,rfl,ca⟩:=HA.out.2 k hkn
    obtain ⟨q2,o2,rfl,cb⟩:=HB.out.2 k hkn
    obtain ⟨x,ex⟩:∃ x,a.getD k 0=x:=⟨_,rfl⟩
    obtain ⟨y,ey⟩:∃ y,b.getD k 0=y:=⟨_,rfl⟩
    have HE:Hid (a.getD k 0=x∧b.getD k 0=y):=⟨ex,ey⟩
    rw [ex] at ca
    rw [ey] at cb
    clear ex ey
    by_cases hxy:x=y
    ·subst hxy
     have Hn:Hid (∀ i,i < k+1→a.getD i 0=b.getD i 0):=fun i hi=>by
      rcases Nat.lt_succ_iff_lt_or_eq.1 hi with h|rfl
      ·exact Hx.out i h
      ·rw [HE.out.1,HE.out.2]
     clear Hx
     go_wp2
     go_region
     all_goals
      go_wp2
      go_roundg (n - (k+1))
     case measure=>omega
     case rel=>exact ⟨k+1,d+1,by omega,rfl,by first|rfl|simp,Hn,rfl⟩
    ·have hxy':(x != y)=true:=by simp [hxy]
     go_wp2
     go_region
     all_goals go_wp2
     go_ret
     rw [← HR.out,decide_eq_false (ne_at HA.out.1 HB.out.1 hkn (by rw [HE.out.1,HE.out.2];exact hxy))]
     exact ⟨rfl,d+1,rfl⟩
   ·obtain rfl:k=n:=by omega
    go_wp2
    go_ret
    rw [← HR.out,decide_eq_true (eq_all HA.out.1 HB.out.1 Hx.out)]
    exact ⟨rfl,d,rfl⟩
 ·have hne:((n:Int) != (n2:Int))=true:=by simp;omega
  have hne':¬ ((n:Int)=(n2:Int)):=by omega
  go_wp2
  go_ret
  rw [← HR.out,decide_eq_false (fun e=>hn (by rw [← HA.out.1,← HB.out.1,e]))]
  exact ⟨rfl,0,rfl⟩
theorem numT:NumT Tryz.prog 23 3 .i64 8:=⟨Tryz.underlying23,by kernel_rfl⟩
theorem drewN_add (w:World) (a b:Nat):(w.drewN a).drewN b=w.drewN (a+b):=by unfold World.drewN;simp [Nat.add_assoc]
theorem Lst.up {w w':World} {p:Option Addr} {n:Nat} {l:List Int} (h:Lst w p n l) (hB:Below w.heap.size w w'):Lst w' p n l:=
 ⟨h.1,fun j hj=>by
  obtain ⟨q,o,e,hc⟩:=h.2 j hj
  exact ⟨q,o,e,still_cell hB hc⟩⟩
theorem Lst.block {w:World} {q o n:Nat} {l:List Int} (h:Lst w (some ⟨q,o,none⟩) n l) (hn:0 < n):q < w.heap.size:=by
 obtain ⟨q',o',e,hc⟩:=h.2 0 hn
 cases e
 exact cell_block hc
theorem good_itl {l:List Int} (h:goodN (ntl l)):∃ d,goodN d∧l=itl d:=⟨ntl l,h,(itl_ntl h.2.1).symm⟩
theorem strides_any (v:Value) (l:List Int) (hl:RI l) (w:World) (hv:Nums .i64 w v l):
  Calls Tryz.prog 139 #[v] w fun e w'=>∃ v',e = .returned v'∧OwnK .i64 3 w' w.heap.size v' (stridesI l)∧Below w.heap.size w w':=by
 have cg:=good_any v l hl w hv
 obtain ⟨p,n,c,rfl,HC⟩:=hv.lst
 clear hv hl
 by_cases hgood:goodN (ntl l)
 ·rw [decide_eq_true hgood] at cg
  have eL:stridesI l=itl (stridesN (ntl l)):=if_pos hgood
  rw [eL]
  clear eL
  obtain ⟨d,hd,rfl⟩:=good_itl hgood
  rw [ntl_itl]
  have HD:Hid (goodN d):=hd
  obtain ⟨L,eL⟩:∃ L,itl (stridesN d)=L:=⟨_,rfl⟩
  have HL:Hid (itl (stridesN d)=L):=eL
  have hLn:L.length=n:=by rw [← eL,itl_len,stridesN_len,← itl_len d];exact HC.out.1
  have HLn:Hid (L.length=n):=hLn
  have hdn:Hid (d.length=n):=by show _=_;rw [← itl_len d];exact HC.out.1
  rw [eL]
  have hn:n≤4:=by rw [← hdn.out];exact hd.1
  have hn':(n:Int)≤4:=by omega
  clear hgood hd eL hLn
  go_enter Tryz.func139,Tryz.ntmps139
  go_wp2_with fail
  refine cg.mono ?_
  rintro e w0 ⟨rfl,rfl⟩
  clear cg
  go_wp2_with (at_make;refine wpList_makeK numT (by decide) _ rfl (.tmp 10) (.tmp 10) rfl .i64 .i64 n n n rfl rfl rfl rfl (by omega) w0.heap.size w0 (Nat.le_refl _) (Below.refl _ _) ?_;intro w1 HO B0 B1;clear B0)
  rw [← HLn.out,← rowB_zero L,HLn.out] at HO
  go_loopg [4,5] n (fun gg u v wr=>∃ (k:Nat) (x i:Int),k≤n∧gg=n - k∧u = .int .i64 x∧v = .int .i64 i∧Hid (i=(n:Int) - 1 - (k:Int))∧Hid (x=sK d k)∧Hid (OwnK .i64 3 wr w0.heap.size (.slice (some ⟨w0.heap.size,0,none⟩) n n) (rowB L k))∧Hid (Below w0.heap.size w0 wr))
  case atStart=>exact ⟨0,1,(n:Int) - 1,by omega,by omega,rfl,by first|rfl|simp,by show _=_;omega,(sK_zero d).symm,HO,B1⟩
  case round=>
   obtain ⟨k,x,i,hk,hg,rfl,rfl,Hi,Hx,HR,hB⟩:=hrel
   by_cases hkn:k < n
   ·obtain ⟨j,hj⟩:∃ j,j=n - 1 - k:=⟨_,rfl⟩
    have hij:i=(j:Int):=by have:=Hi.out;omega
    subst hij
    have hjn:j < n:=by omega
    have hjn':(j:Int) < (n:Int):=by omega
    have Hj:Hid (j+k+1=n):=by show _=_;omega
    clear hj
    obtain ⟨q,o,rfl,hcell⟩:=(HC.out.up hB.out).2 j hjn
    have hqB:=HC.out.block (by omega)
    obtain ⟨hown,hfz⟩:=HR.out.cell (by rw [rowB_len];exact HLn.out) j hjn
    have hx:=sK_rng HD.out k
    have hx2:=sK_rng HD.out (k+1)
    rw [sK_succ d j k (by rw [hdn.out];exact Hj.out)] at hx2
    rw [itl_getD] at hcell
    have hy:=HD.out.at j (by rw [hdn.out];exact hjn)
    obtain ⟨y,ey⟩:∃ y:Int,((d.getD j 0:Nat):Int)=y:=⟨_,rfl⟩
    rw [← Hx.out] at hx hx2
    obtain ⟨m,em⟩:∃ m,x*y=m:=⟨_,rfl⟩
    have Hm:Hid (m=sK d (k+1)):=by show _=_;rw [sK_succ d j k (by rw [hdn.out];exact Hj.out),← Hx.out,ey,em]
    have hy':1≤y∧y≤4096:=by omega
    rw [ey] at hcell hx2
    rw [em] at hx2
    have H2:Hid (OwnK .i64 3 (wr.setCell ⟨w0.heap.size,j,none⟩ (.int .i64 x)) w0.heap.size (.slice (some ⟨w0.heap.size,0,none⟩) n n) (rowB L (k+1))):=by
     have:=HR.out.store (by rw [rowB_len];exact HLn.out) j x
     rw [show x=L.getD j 0 by rw [Hx.out,← HL.out,strides_at d j k (by rw [hdn.out];exact Hj.out)],rowB_set L j k (by rw [HLn.out];exact Hj.out)] at this
     rw [show x=L.getD j 0 by rw [Hx.out,← HL.out,strides_at d j k (by rw [hdn.out];exact Hj.out)]]
     exact this
    have HB2:Hid (Below w0.heap.size w0 (wr.setCell ⟨w0.heap.size,j,none⟩ (.int .i64 x))):=hB.out.setCell (p:=⟨w0.heap.size,j,none⟩) (Nat.le_refl _) _
    have hcell2:=still_cell HB2.out (show w0.cell? ⟨q,o+j,none⟩=some (.int .i64 y) by
     obtain ⟨q',o',e',h'⟩:=HC.out.2 j hjn
     cases e'
     rw [h',itl_getD,ey])
    have hne:¬ q=w0.heap.size:=by omega
    clear ey hy
    go_wp2
    go_roundg (n - (k+1))
    case measure=>omega
    case rel=>exact ⟨k+1,m,(j:Int) - 1,by omega,rfl,by first|rfl|simp [em],by first|rfl|simp,by have:=Hj.out;show _=_;omega,Hm,H2,HB2⟩
   ·obtain rfl:k=n:=by omega
    have hi0:i < 0:=by have:=Hi.out;omega
    have hfin:=HR.out
    rw [← HLn.out,rowB_full,HLn.out] at hfin
    have HF:Hid (OwnK .i64 3 wr w0.heap.size (.slice (some ⟨w0.heap.size,0,none⟩) k k) L∧Below w0.heap.size w0 wr):=⟨hfin,hB.out⟩
    clear hfin
    go_wp2
    exact bodyPost_ret (v:=.slice (some ⟨w0.heap.size,0,none⟩) k k) (by simp [results,Tryz.results139,go_sem]) rfl ⟨_,rfl,HF.out⟩
 ·rw [decide_eq_false hgood] at cg
  have eL:stridesI l = []:=if_neg hgood
  rw [eL]
  clear eL hgood
  go_enter Tryz.func139,Tryz.ntmps139
  go_wp2_with fail
  refine cg.mono ?_
  rintro e w0 ⟨rfl,rfl⟩
  go_wp2
  exact bodyPost_ret (v:=.slice none 0 0) (by simp [results,Tryz.results139,go_sem]) rfl ⟨_,rfl,OwnK.nil _ _ _ _,Below.refl _ _⟩
theorem last_any (v:Value) (d:List Nat) (hd:goodN d) (k:Nat) (hk:1≤k∧k≤4) (w:World) (hv:Nums .i64 w v (itl d)):
  Calls Tryz.prog 161 #[v,.int .i64 (k:Int)] w fun e w'=>e = .returned (.int .i64 ((sideN d k:Nat):Int))∧w'=w:=by
 obtain ⟨p,n,c,rfl,HC⟩:=hv.lst
 have hdn:d.length=n:=by rw [← itl_len d];exact HC.out.1
 have hn:n≤4:=by rw [← hdn];exact hd.1
 have hn':(n:Int)≤4:=by omega
 obtain ⟨r,er⟩:∃ r:Int,((sideN d k:Nat):Int)=r:=⟨_,rfl⟩
 by_cases hkn:n < k
 ·have hkn':(n:Int) < (k:Int):=by omega
  rw [sideN_far d k (by omega)]
  clear hv er hdn hd
  go_enter Tryz.func161,Tryz.ntmps161
  go_wp2
  go_ret
  exact ⟨rfl,rfl⟩
 ·have hkn':(k:Int)≤(n:Int):=by omega
  obtain ⟨j,hj⟩:∃ j,j=n - k:=⟨_,rfl⟩
  have hjk:(n:Int) - (k:Int)=(j:Int):=by omega
  have hjn:(j:Int) < (n:Int):=by omega
  have hs:=side_at d k hk.1 (by omega)
  rw [hdn,← hj,er] at hs
  obtain ⟨q,o,rfl,hcell⟩:=HC.out.2 j (by omega)
  rw [hs] at hcell
  rw [er]
  clear hv er hdn hd hs hj
  go_enter Tryz.func161,Tryz.ntmps161
  go_wp2
  go_ret
  exact ⟨rfl,rfl⟩
theorem joined_any (x y:Int) (w:World):
  Calls Tryz.prog 160 #[.int .i64 x,.int .i64 y] w fun e w'=>e = .returned (.tuple #[.int .i64 (jnd x y),.bool (jok x y)])∧w'=w:=by
 by_cases hx:x=1
 ·subst hx
  rw [show jnd 1 y=y from rfl,show jok 1 y=true by unfold jok;exact decide_eq_true (.inl rfl)]
  go_enter Tryz.func160,Tryz.ntmps160
  go_wp2
  go_ret2
  exact ⟨rfl,rfl⟩
 ·rw [show jnd x y=x from if_neg hx]
  have hx':(x==1)=false:=by simp [hx]
  by_cases hy:y=1
  ·subst hy
   rw [show jok x 1=true by unfold jok;exact decide_eq_true (.inr (.inl rfl))]
   go_enter Tryz.func160,Tryz.ntmps160
   go_wp2
   go_ret2
   exact ⟨rfl,rfl⟩
  ·have hy':(y==1)=false:=by simp [hy]
   have ej:jok x y=(x==y):=by
    unfold jok
    by_cases h:x=y
    ·rw [decide_eq_true (.inr (.inr h))];simp [h]
    ·rw [decide_eq_false (by rintro (h'|h'|h') <;> contradiction)];simp [h]
   rw [ej]
   clear ej
   go_enter Tryz.func160,Tryz.ntmps160
   go_wp2
   go_ret2
   exact ⟨rfl,rfl⟩
theorem RI_itl {d:List Nat} (h:∀ x,x∈d→x≤4096):RI (itl d):=by
 intro y hy
 obtain ⟨x,hx,rfl⟩:=List.mem_map.1 hy
 have:=h x hx
 omega
theorem RI_join {a b:List Nat} (ha:goodN a) (hb:goodN b):RI (itl (joinN a b)):=by
 refine RI_itl fun x hx=>?_
 obtain ⟨j,_,rfl⟩:=List.mem_map.1 hx
 have h1:=side_rng ha (max a.length b.length - j)
 have h2:=side_rng hb (max a.length b.length - j)
 show max _ _≤4096
 omega
theorem run_max_nat {P:Program} {w:World} (ts:Array TypeId) (t:TypeId) (k k':IntKind) (x y:Nat):(Builtin.max_ ts t #[.int k (x:Int),.int k' (y:Int)]).run P w = .ok (.int k ((max x y:Nat):Int)) w:=by
 rw [run_max_int2]
 congr 2
 split <;> omega
theorem join_any (u v:Value) (a b:List Int) (ha:RI a) (hb:RI b) (w:World) (hu:Nums .i64 w u a) (hv:Nums .i64 w v b):
  Calls Tryz.prog 129 #[u,v] w fun e w'=>∃ v',e = .returned (.tuple #[v',.int .i64 (joinE a b)])∧OwnK .i64 3 w' w.heap.size v' (joinL a b)∧Below w.heap.size w w':=by
 have ca:=good_any u a ha w hu
 have cb:=good_any v b hb w hv
 have HU:Hid (Nums .i64 w u a):=hu
 have HV:Hid (Nums .i64 w v b):=hv
 obtain ⟨p,n,c,rfl,HA⟩:=hu.lst
 obtain ⟨p2,n2,c2,rfl,HB⟩:=hv.lst
 clear hu hv ha hb
 by_cases hga:goodN (ntl a)
 ·rw [decide_eq_true hga] at ca
  by_cases hgb:goodN (ntl b)
  ·rw [decide_eq_true hgb] at cb
   obtain ⟨a,ha,rfl⟩:=good_itl hga
   obtain ⟨b,hb,rfl⟩:=good_itl hgb
   have hna:a.length=n:=by rw [← itl_len a];exact HA.out.1
   have hnb:b.length=n2:=by rw [← itl_len b];exact HB.out.1
   have hn1:n≤4:=by rw [← hna];exact ha.1
   have hn2:n2≤4:=by rw [← hnb];exact hb.1
   obtain ⟨m,em⟩:∃ m,max n n2=m:=⟨_,rfl⟩
   have hm:m≤4:=by omega
   have hm':(m:Int)≤4:=by omega
   have HG:Hid (goodN a∧goodN b∧max a.length b.length=m):=⟨ha,hb,by rw [hna,hnb];exact em⟩
   obtain ⟨L,eL⟩:∃ L,itl (joinN a b)=L:=⟨_,rfl⟩
   have HL:Hid (itl (joinN a b)=L∧L.length=m):=⟨eL,by rw [← eL,itl_len,joinN_len];exact HG.out.2.2⟩
   obtain ⟨X,eX⟩:∃ X,joinL (itl a) (itl b)=X:=⟨_,rfl⟩
   obtain ⟨E,eE⟩:∃ E,joinE (itl a) (itl b)=E:=⟨_,rfl⟩
   have HX:Hid (joinL (itl a) (itl b)=X∧joinE (itl a) (itl b)=E):=⟨eX,eE⟩
   have Hm:Hid (max n n2=m):=em
   rw [eX,eE]
   clear hga hgb ha hb hna hnb eL eX eE HA HB
   have kmax:∀ (ts:Array TypeId) (t:TypeId) (w:World),(Builtin.max_ ts t #[.int .i64 (n:Int),.int .i64 (n2:Int)]).run Tryz.prog w = .ok (.int .i64 (m:Int)) w:=fun ts t w=>by rw [run_max_nat,em]
   clear em
   go_enter Tryz.func129,Tryz.ntmps129
   go_wp2_with fail
   refine ca.mono ?_
   rintro e w0 ⟨rfl,rfl⟩
   clear ca
   go_wp2_with fail
   refine cb.mono ?_
   rintro e w0 ⟨rfl,rfl⟩
   clear cb
   go_wp2_with (at_make;refine wpList_makeK numT (by decide) _ rfl (.tmp 22) (.tmp 22) rfl .i64 .i64 m m m rfl rfl rfl rfl (by omega) w0.heap.size w0 (Nat.le_refl _) (Below.refl _ _) ?_;intro w1 HO B0 B1;clear B0)
   clear kmax
   rw [← HL.out.2,← rowB_zero L,HL.out.2] at HO
   go_loopg [7] m (fun gg v wr=>∃ (k:Nat),k≤m∧gg=m - k∧v = .int .i64 ((k:Int)+1)∧Hid (∀ i,1≤i→i≤k→fitN (sideN a i) (sideN b i))∧Hid (OwnK .i64 3 wr w0.heap.size (.slice (some ⟨w0.heap.size,0,none⟩) m m) (rowB L k))∧Hid (Below w0.heap.size w0 wr))
   case atStart=>exact ⟨0,by omega,by omega,by first|rfl|simp,fun i h1 h2=>by omega,HO,B1⟩
   case round=>
    obtain ⟨k,hk,hg,rfl,Hx,HR,hB⟩:=hrel
    by_cases hkn:k < m
    ·have hkn':(k:Int)+1≤(m:Int):=by omega
     have c1:=last_any _ a HG.out.1 (k+1) ⟨by omega,by omega⟩ wr (HU.out.up hB.out)
     have c2:=last_any _ b HG.out.2.1 (k+1) ⟨by omega,by omega⟩ wr (HV.out.up hB.out)
     rw [show ((k+1:Nat):Int)=(k:Int)+1 by omega] at c1 c2
     have s1:=side_rng HG.out.1 (k+1)
     have s2:=side_rng HG.out.2.1 (k+1)
     have hok:=jok_fit (sideN a (k+1)) (sideN b (k+1))
     have hmx:=jnd_max (sideN a (k+1)) (sideN b (k+1)) s1.1 s2.1
     obtain ⟨x,ex⟩:∃ x:Int,((sideN a (k+1):Nat):Int)=x:=⟨_,rfl⟩
     obtain ⟨y,ey⟩:∃ y:Int,((sideN b (k+1):Nat):Int)=y:=⟨_,rfl⟩
     rw [ex] at c1 hok hmx
     rw [ey] at c2 hok hmx
     have c3:=fun W=>joined_any x y W
     obtain ⟨j,hj⟩:∃ j,j=m - 1 - k:=⟨_,rfl⟩
     have hjm:j < m:=by omega
     have hjk:(m:Int) - ((k:Int)+1)=(j:Int):=by omega
     have hjn:(j:Int) < (m:Int):=by omega
     have Hj:Hid (j+k+1=m):=by show _=_;omega
     clear hj ex ey s1 s2
     by_cases hf:fitN (sideN a (k+1)) (sideN b (k+1))
     ·rw [decide_eq_true hf] at hok
      have hmx:=hmx hf
      rw [hok] at c3
      obtain ⟨z,ez⟩:∃ z,jnd x y=z:=⟨_,rfl⟩
      rw [ez] at c3 hmx
      have HZ:Hid (z=L.getD j 0):=by
       show _=_
       rw [hmx,← HL.out.1,join_at a b j k (by rw [HG.out.2.2];exact Hj.out)]
      have Hn:Hid (∀ i,1≤i→i≤k+1→fitN (sideN a i) (sideN b i)):=fun i h1 h2=>by
       rcases Nat.lt_or_ge k i with h|h
       ·rw [show i=k+1 by omega];exact hf
       ·exact Hx.out i h1 h
      obtain ⟨hown,hfz⟩:=HR.out.cell (by rw [rowB_len];exact HL.out.2) j hjm
      have H2:Hid (OwnK .i64 3 (wr.setCell ⟨w0.heap.size,j,none⟩ (.int .i64 z)) w0.heap.size (.slice (some ⟨w0.heap.size,0,none⟩) m m) (rowB L (k+1))):=by
       have:=HR.out.store (by rw [rowB_len];exact HL.out.2) j z
       rw [HZ.out,rowB_set L j k (by rw [HL.out.2];exact Hj.out)] at this
       rw [HZ.out]
       exact this
      have HB2:Hid (Below w0.heap.size w0 (wr.setCell ⟨w0.heap.size,j,none⟩ (.int .i64 z))):=hB.out.setCell (p:=⟨w0.heap.size,j,none⟩) (Nat.le_refl _) _
      clear hf hok hmx ez Hx
      go_wp2_with fail
      refine c1.mono ?_
      rintro e w5 ⟨rfl,rfl⟩
      go_wp2_with fail
      refine c2.mono ?_
      rintro e w5 ⟨rfl,rfl⟩
      go_wp2_with fail
      refine (c3 _).mono ?_
      rintro e w5 ⟨rfl,rfl⟩
      go_wp2
      go_roundg (m - (k+1))
      case measure=>omega
      case rel=>exact ⟨k+1,by omega,rfl,by first|rfl|simp,Hn,H2,HB2⟩
     ·rw [decide_eq_false hf] at hok
      rw [hok] at c3
      have hX:=join_unlike HG.out.1 HG.out.2.1 (fun h=>hf (h (k+1) (by omega) (by rw [HG.out.2.2];omega)))
      rw [HX.out.1,HX.out.2] at hX
      obtain ⟨rfl,rfl⟩:=hX
      clear hf hok hmx Hx
      go_wp2_with fail
      refine c1.mono ?_
      rintro e w5 ⟨rfl,rfl⟩
      go_wp2_with fail
      refine c2.mono ?_
      rintro e w5 ⟨rfl,rfl⟩
      go_wp2_with fail
      refine (c3 _).mono ?_
      rintro e w5 ⟨rfl,rfl⟩
      go_wp2
      go_ret2
      exact ⟨_,rfl,OwnK.nil _ _ _ _,hB.out⟩
    ·obtain rfl:k=m:=by omega
     have hfin:=HR.out
     rw [← HL.out.2,rowB_full,HL.out.2] at hfin
     have HF:Hid (OwnK .i64 3 wr w0.heap.size (.slice (some ⟨w0.heap.size,0,none⟩) k k) L∧Below w0.heap.size w0 wr):=⟨hfin,hB.out⟩
     have hfits:fitsN a b:=fun i h1 h2=>Hx.out i h1 (by rw [HG.out.2.2] at h2;exact h2)
     have cg:=good_any _ L (by rw [← HL.out.1];exact RI_join HG.out.1 HG.out.2.1) wr hfin.nums
     rw [← HL.out.1,ntl_itl] at cg
     by_cases hgj:goodN (joinN a b)
     ·rw [decide_eq_true hgj] at cg
      have hX:=join_fine HG.out.1 HG.out.2.1 hfits hgj
      rw [HX.out.1,HX.out.2,HL.out.1] at hX
      obtain ⟨rfl,rfl⟩:=hX
      clear hfin hfits hgj Hx
      go_wp2_with fail
      refine cg.mono ?_
      rintro e w5 ⟨rfl,rfl⟩
      go_wp2
      go_ret2
      exact ⟨_,rfl,HF.out⟩
     ·rw [decide_eq_false hgj] at cg
      have hX:=join_great HG.out.1 HG.out.2.1 hfits hgj
      rw [HX.out.1,HX.out.2] at hX
      obtain ⟨rfl,rfl⟩:=hX
      clear hfin hfits hgj Hx
      go_wp2_with fail
      refine cg.mono ?_
      rintro e w5 ⟨rfl,rfl⟩
      go_wp2
      go_ret2
      exact ⟨_,rfl,OwnK.nil _ _ _ _,HF.out.2⟩
  ·rw [decide_eq_false hgb] at cb
   obtain ⟨e1,e2⟩:=join_none (a:=a) (b:=b) fun h=>hgb h.2
   rw [e1,e2]
   clear e1 e2 hga hgb
   go_enter Tryz.func129,Tryz.ntmps129
   go_wp2_with fail
   refine ca.mono ?_
   rintro e w0 ⟨rfl,rfl⟩
   go_wp2_with fail
   refine cb.mono ?_
   rintro e w0 ⟨rfl,rfl⟩
   go_wp2
   go_ret2
   exact ⟨_,rfl,OwnK.nil _ _ _ _,Below.refl _ _⟩
 ·rw [decide_eq_false hga] at ca
  obtain ⟨e1,e2⟩:=join_none (a:=a) (b:=b) fun h=>hga h.1
  rw [e1,e2]
  clear e1 e2 hga
  go_enter Tryz.func129,Tryz.ntmps129
  go_wp2_with fail
  refine ca.mono ?_
  rintro e w0 ⟨rfl,rfl⟩
  go_wp2
  go_ret2
  exact ⟨_,rfl,OwnK.nil _ _ _ _,Below.refl _ _⟩
theorem below_drew {w w1:World} {B:Nat} (h:Below B w w1) (n:Nat):Below B w (w1.drewN n):=h.trans ⟨rfl,rfl,rfl,Nat.le_refl _,fun _ _=>rfl⟩
theorem up_alloc (W:World) (o:Obj):Below W.heap.size W (W.alloc o):=(Below.refl _ _).alloc (Nat.le_refl _) _
theorem bstep {w w1 w2:World} (h:Below w.heap.size w w1) (h2:Below w1.heap.size w1 w2):Below w.heap.size w w2:=h.trans (h2.mono h.size)
theorem blit {w w1:World} (h:Below w.heap.size w w1) (o:Obj):Below w.heap.size w (w1.alloc o):=h.trans ((up_alloc w1 o).mono h.size)
theorem z0:((sizeN (ntl []):Nat):Int)=1:=by decide +kernel
theorem g0:decide (goodN (ntl []))=true:=by decide +kernel
end Go.Proofs.YtihjnbbhpojnpaaGreatDoor.Wd
