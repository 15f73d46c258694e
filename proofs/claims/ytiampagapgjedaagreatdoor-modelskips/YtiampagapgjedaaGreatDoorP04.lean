/- The code's canSkip; whether a shape of a row is too great; countParams, tooMuch. · The code's countParams and tooMuch. · The code's shapesOf, Shapes and Params. · Texts of nets: words, numbers, what chapter 12 reads of them, over bytes. Nothing of the program is named here. · Texts of nets: numbers, what is read of words, what is written. Nothing of the program is named here. · The code's reading of texts: numberOf. -/
import Derived.Test.YtiampagapgjedaaGreatDoorP03
import Derived.Test.YtiampagapgjedaaGreatDoorP00
import Derived.Lib.FieldsP
import Derived.Lib.Join
import Derived.Lib.ItoaNum
set_option linter.unusedVariables false
set_option linter.unusedSimpArgs false
set_option maxHeartbeats 16000000
set_option maxRecDepth 16000
namespace Go.Proofs.YtiampagapgjedaaGreatDoor.Wd
open Go.RowKit
theorem canSkip_any (p2 ps:Option Addr) (n2 c2 ns cs:Nat) (ls:List Ly) (S:List (List Int)) (i:Nat) (hi:i < ns) (hi2:i < n2) (hbig:n2≤1073741824) (hin:∀ k,k < ns→(shA S k).length≤4) (w:World) (hL:LyR 0 w p2 n2 ls) (hS:RdS w ps ns S):
  Calls Tryz.prog 67 #[.slice p2 n2 c2,.slice ps ns cs,.int .i64 (i:Int)] w fun e w'=>e = .returned (.bool (decide (SkipOk ls S i)))∧∃ m,w'=w.drewN m:=by
 obtain ⟨r,er⟩:∃ r,decide (SkipOk ls S i)=r:=⟨_,rfl⟩
 have HR:Hid (decide (SkipOk ls S i)=r):=er
 rw [er]
 clear er
 cases i with
 | zero=>
  have e:r=false:=by rw [← HR.out];exact decide_eq_false fun h=>absurd h.1 (by omega)
  subst e
  clear hL hS hin HR
  rw [show ((0:Nat):Int)=0 from rfl]
  go_enter Tryz.func67,Tryz.ntmps67
  go_wp2
  go_quiet (fail)
  go_wp2
  go_ret
  exact ⟨rfl,_,rfl⟩
 | succ j=>
  rw [show ((j+1:Nat):Int)=(j:Int)+1 by omega]
  obtain ⟨q,o,rfl,c0,-,-⟩:=hL.2 j (by omega)
  obtain ⟨x,ex⟩:∃ x,(lyA ls j).1=x:=⟨_,rfl⟩
  rw [ex] at c0
  obtain ⟨-,-,-,-,t4⟩:=kts x
  have hj0:(0:Int) < (j:Int)+1:=by omega
  have hj2:(j:Int) < (n2:Int):=by omega
  have hjs:(j:Int)+1 < (ns:Int):=by omega
  have hjs':(j:Int) < (ns:Int):=by omega
  have hjr:(j:Int)+1≤9223372036854775807:=by omega
  have hjw:IntKind.i64.wrap (j:Int)=(j:Int):=by rw [IntKind.wrap_i64];omega
  by_cases hk:kindI x=4
  ·have e:r=false:=by rw [← HR.out];exact decide_eq_false fun h=>h.2.1 (by simp only [Nat.add_sub_cancel];rw [ex];exact (kskip x).2 hk)
   subst e
   replace t4:=t4.trans (decide_eq_true hk)
   have t5:(x.toList != [115,107,105,112])=false:=by rw [bne,t4];rfl
   clear hL hS hin HR ex hk
   go_enter Tryz.func67,Tryz.ntmps67
   go_wp2
   go_quiet (fail)
   go_wp2
   go_ret
   exact ⟨rfl,_,rfl⟩
  ·replace t4:=t4.trans (decide_eq_false hk)
   have t5:(x.toList != [115,107,105,112])=true:=by rw [bne,t4];rfl
   obtain ⟨q1,o1,a1,b1,d1,rfl,s1,m1⟩:=hS.2 j (by omega)
   obtain ⟨q2,o2,a2,b2,d2,e2,s2,m2⟩:=hS.2 (j+1) hi
   cases e2
   have ce:Hid (∀ m,Calls Tryz.prog 96 #[.slice a1 b1 d1,.slice a2 b2 d2] (w.drewN m) fun e w'=>e = .returned (.bool r)∧∃ m',w'=w.drewN m'):=fun m=>by
    have hB:Below w.heap.size w (w.drewN m):=below_drew (Below.refl _ _) m
    have hr:decide (shA S j=shA S (j+1))=r:=by
     rw [← HR.out]
     exact decide_eq_decide.2 ⟨fun h=>⟨by omega,by simp only [Nat.add_sub_cancel];rw [ex];exact fun h=>hk ((kskip x).1 h),h⟩,fun h=>h.2.2⟩
    have:=equal_any _ _ (shA S j) (shA S (j+1)) (by have:=hin j (by omega);omega) _ (m1.up hB) (m2.up hB)
    rw [hr] at this
    exact this.mono fun e w' ⟨h1,m',h2⟩=>⟨h1,m+m',by rw [h2,drewN_add]⟩
   clear hL hS hin HR ex hk m1 m2
   go_enter Tryz.func67,Tryz.ntmps67
   go_wp2
   go_quiet (with_reducible exact ce.out _)
   go_wp2
   go_ret
   exact ⟨rfl,_,rfl⟩
/-- Is a shape of a row of them too great? -/
theorem bigS_all {S:List (List Int)} {n:Nat} (hn:S.length=n) (h:∀ i,i < n→decide (4096 < prodI (shA S i))=false):bigS S=false:=by
 unfold bigS
 rw [List.any_eq_false]
 intro s hs
 obtain ⟨i,hi,rfl⟩:=List.getElem_of_mem hs
 have:=h i (by omega)
 unfold shA at this
 rw [List.getD_eq_getElem?_getD,List.getElem?_eq_getElem hi] at this
 simpa using this
theorem shA_mem {S:List (List Int)} {i:Nat} (h:i < S.length):shA S i∈S:=by
 unfold shA
 rw [List.getD_eq_getElem?_getD,List.getElem?_eq_getElem h]
 exact List.getElem_mem _
theorem bigS_at {S:List (List Int)} {i:Nat} (hi:i < S.length) (h:decide (4096 < prodI (shA S i))=true):bigS S=true:=by
 unfold bigS
 rw [List.any_eq_true]
 exact ⟨_,shA_mem hi,h⟩
theorem indexF_any (p:Option Addr) (n c:Nat) (S:List (List Int)) (hsm:∀ i,i < n→Smal (shA S i)) (hn:n≤2147483648) (w:World) (hS:RdS w p n S):
  Calls Tryz.prog 97 #[.slice p n c,.func (.func 70) #[] #[]] w fun e w'=>∃ x:Int,e = .returned (.int .i64 x)∧decide (0≤x)=bigS S∧w'=w:=by
 have hEnt:∀ args W,(callFunc 70 args).run Tryz.prog W = .ok (.enter 70 args) W:=by intro args W;kernel_rfl
 have HS:Hid (RdS w p n S):=hS
 have HM:Hid (∀ i,i < n→Smal (shA S i)):=hsm
 clear hS hsm
 go_enter Tryz.func97,Tryz.ntmps97
 go_wp2_with fail
 go_loopg [8] n (fun gg v wr=>∃ (k:Nat),k≤n∧gg=n - k∧v = .int .i64 (k:Int)∧Hid (∀ i,i < k→decide (4096 < prodI (shA S i))=false)∧wr=w)
 case atStart=>exact ⟨0,by omega,by omega,rfl,fun i hi=>by omega,rfl⟩
 case round=>
  obtain ⟨k,hk,hg,rfl,Hx,rfl⟩:=hrel
  by_cases hkn:k < n
  ·have hk':(k:Int) < (n:Int):=by omega
   obtain ⟨q,o,a,b,d,rfl,s1,m1⟩:=HS.out.2 k hkn
   obtain ⟨qb,eqb⟩:∃ qb,decide (4096 < prodI (shA S k))=qb:=⟨_,rfl⟩
   have ct:=ctoo_any _ _ (HM.out k hkn) wr m1
   rw [eqb] at ct
   clear m1
   go_wp2_with fail
   refine ct.mono ?_
   rintro e w1 ⟨rfl,rfl⟩
   clear ct
   cases qb with
   | true=>
    have Hb:Hid (bigS S=true):=bigS_at (by rw [HS.out.1];exact hkn) eqb
    clear eqb
    go_wp2
    go_ret
    exact ⟨_,rfl,by rw [Hb.out];simp,rfl⟩
   | false=>
    have HN:Hid (∀ i,i < k+1→decide (4096 < prodI (shA S i))=false):=fun i hi=>by
     rcases Nat.lt_succ_iff_lt_or_eq.1 hi with h2|rfl
     ·exact Hx.out i h2
     ·exact eqb
    clear eqb
    go_wp2
    go_roundg (n - (k+1))
    case measure=>omega
    case rel=>exact ⟨k+1,by omega,rfl,by first|rfl|simp,HN,rfl⟩
  ·obtain rfl:k=n:=by omega
   have Hb:Hid (bigS S=false):=bigS_all HS.out.1 Hx.out
   go_wp2
   go_ret
   exact ⟨_,rfl,by rw [Hb.out];rfl,rfl⟩
theorem containsF_any (p:Option Addr) (n c:Nat) (S:List (List Int)) (hsm:∀ i,i < n→Smal (shA S i)) (hn:n≤2147483648) (w:World) (hS:RdS w p n S):
  Calls Tryz.prog 69 #[.slice p n c,.func (.func 70) #[] #[]] w fun e w'=>e = .returned (.bool (bigS S))∧w'=w:=by
 have ci:=indexF_any p n c S hsm hn w hS
 obtain ⟨r,er⟩:∃ r,bigS S=r:=⟨_,rfl⟩
 rw [er] at ci ⊢
 clear hS hsm er
 go_enter Tryz.func69,Tryz.ntmps69
 go_wp2_with fail
 refine ci.mono ?_
 rintro e w1 ⟨x,rfl,hx,rfl⟩
 have HX:Hid (decide (0≤x)=r):=hx
 clear ci hx
 go_wp2
 go_ret
 rw [← HX.out]
 exact ⟨rfl,rfl⟩
/-- What a good net's shapes are, as the walks below want them. -/
structure NetOk (d:List Int) (ls:List Ly) (S:List (List Int)):Prop where
 lay:∀ k,k < ls.length→LayOk (lyA ls k)
 inn:∀ k,k < ls.length→InOk (shA S k)
 fit:∀ k,k < ls.length→kindI (lyA ls k).1=1→(shA S k).length=2
 len:S.length=ls.length+1
theorem out_fit {l:Ly} {d o:List Int} (h:outD l d=some o) (hk:kindI l.1=1):d.length=2:=by
 unfold outD at h
 rw [hk] at h
 simp at h
 exact h.1.1
theorem shN_pre {d:List Int} {ls:List Ly}:∀ {n i:Nat} {S:List (List Int)},shN d ls n=some S→i≤n→∃ S',shN d ls i=some S'∧∀ k,k < i+1→shA S k=shA S' k
 | 0,i,S,h,hi=>by
  obtain rfl:i=0:=by omega
  exact ⟨S,h,fun _ _=>rfl⟩
 | n+1,i,S,h,hi=>by
  rcases Nat.lt_or_ge i (n+1) with h1|h1
  ·cases hs:shN d ls n with
   | none=>rw [shN_stop hs (Nat.le_succ n)] at h;cases h
   | some S0=>
    rw [shN_succ hs] at h
    obtain ⟨o,rfl,_⟩:=stepS_pre h
    obtain ⟨S',h2,h3⟩:=shN_pre hs (show i≤n by omega)
    exact ⟨S',h2,fun k hk=>by rw [shA_app _ (by rw [shN_len hs];omega)];exact h3 k hk⟩
  ·obtain rfl:i=n+1:=by omega
   exact ⟨S,h,fun _ _=>rfl⟩
theorem NetOk.of {d:List Int} {ls:List Ly} {S:List (List Int)} (hf:formB d ls=true) (h:shN d ls ls.length=some S):NetOk d ls S:=by
 obtain ⟨h1,h2⟩:=(formB_iff d ls).1 hf
 refine ⟨fun k hk=>h2 _ (lyA_mem hk),fun k hk=>shN_in h1 h2 (Nat.le_refl _) h k (by omega),fun k hk hc=>?_,shN_len h⟩
 obtain ⟨S1,e1,g1⟩:=shN_pre h (show k+1≤ls.length by omega)
 obtain ⟨S0,e0,g0⟩:=shN_pre e1 (show k≤k+1 by omega)
 rw [shN_succ e0] at e1
 obtain ⟨o,_,ho⟩:=stepS_pre e1
 rw [g1 k (by omega),g0 k (by omega)]
 exact out_fit ho hc
theorem parD_smal {l:Ly} {d:List Int} (hl:LayOk l) (hd:InOk d):∀ i,i < (parD l d).length→Smal (shA (parD l d) i):=by
 have hp:=hd.prod
 unfold parD
 rcases layOk_cases hl with ⟨-,k,h1,h2⟩|⟨-,k,h1,h2⟩|⟨-,k,h1,h2⟩|⟨-,k,h1,h2⟩|⟨-,k,h1,h2⟩ <;> rw [k] <;> intro i hi <;> simp at hi
 ·have:=mprod_rng h1 hp
  rcases (show i=0∨i=1 by omega) with rfl|rfl
  ·refine ⟨by simp [shA],fun k hk=>?_⟩
   rcases (show k=0∨k=1∨k=2 by simp [shA] at hk;omega) with rfl|rfl|rfl <;> simp [shA,prodI] <;> (try change _≤l.2.1*prodI d∧l.2.1*prodI d≤_) <;> omega
  ·refine ⟨by simp [shA],fun k hk=>?_⟩
   rcases (show k=0∨k=1 by simp [shA] at hk;omega) with rfl|rfl <;> simp [shA,prodI] <;> omega
 ·subst hi
  have h0:0≤d.getD 0 0∧d.getD 0 0≤1024:=by rcases hd with ⟨x,rfl,h⟩|⟨x,y,rfl,hx,hy⟩ <;> simp <;> omega
  have h01:0≤l.2.1*d.getD 0 0∧l.2.1*d.getD 0 0≤16*1024:=⟨Int.mul_nonneg (by omega) (by omega),Int.mul_le_mul h1.2 h0.2 h0.1 (by omega)⟩
  have h02:0≤l.2.1*d.getD 0 0*l.2.2∧l.2.1*d.getD 0 0*l.2.2≤16*1024*16:=⟨Int.mul_nonneg h01.1 (by omega),Int.mul_le_mul h01.2 h2.2 (by omega) (by omega)⟩
  simp only [if_neg (show ¬ (1:Nat)=0 by omega),if_true]
  refine ⟨by simp [shA],fun k hk=>?_⟩
  generalize d.getD 0 0=e at h0 h01 h02 hk ⊢
  rcases (show k=0∨k=1∨k=2∨k=3 by simp [shA] at hk;omega) with rfl|rfl|rfl|rfl <;> simp [shA,prodI] <;> omega
def sumP (P:List (List Int)):Nat→Int
 | 0=>0
 | j+1=>sumP P j+prodI (shA P j)
theorem sumP_psz {l:Ly} {d:List Int}:sumP (parD l d) (parD l d).length=psz l d:=by
 unfold parD psz
 by_cases h0:kindI l.1=0
 ·rw [if_pos h0,if_pos h0]
  simp [sumP,shA,prodI_two,prodI_one]
 rw [if_neg h0,if_neg h0]
 by_cases h1:kindI l.1=1
 ·rw [if_pos h1,if_pos h1]
  simp [sumP,shA,prodI_three]
 ·rw [if_neg h1,if_neg h1]
  rfl
theorem sumP_rng {l:Ly} {d:List Int} (hl:LayOk l) (hd:InOk d):∀ j,j≤(parD l d).length→0≤sumP (parD l d) j∧sumP (parD l d) j≤1049600:=by
 intro j hj
 have hz:=psz_rng hd hl
 rw [← sumP_psz] at hz
 have hp:=hd.prod
 unfold parD at hj hz ⊢
 by_cases h0:kindI l.1=0
 ·rw [if_pos h0] at hj hz ⊢
  rcases layOk_cases hl with ⟨-,k,h1,h2⟩|⟨-,k,h1,h2⟩|⟨-,k,h1,h2⟩|⟨-,k,h1,h2⟩|⟨-,k,h1,h2⟩ <;> rw [h0] at k <;> try cases k
  have:=mprod_rng h1 hp
  rcases (show j=0∨j=1∨j=2 by simp at hj;omega) with rfl|rfl|rfl <;> simp [sumP,shA,prodI_two,prodI_one] <;> omega
 rw [if_neg h0] at hj hz ⊢
 by_cases h1:kindI l.1=1
 ·rw [if_pos h1] at hj hz ⊢
  rcases (show j=0∨j=1 by simp at hj;omega) with rfl|rfl
  ·simp [sumP]
  ·exact hz
 ·rw [if_neg h1] at hj hz ⊢
  obtain rfl:j=0:=by simp at hj;omega
  simp [sumP]
theorem parD_len (l:Ly) (d:List Int):(parD l d).length≤2:=by
 unfold parD
 split
 ·simp
 split <;> simp
theorem countParams_any (p p2 ps:Option Addr) (n c n2 c2 ns cs:Nat) (d:List Int) (ls:List Ly) (S:List (List Int)) (ok:NetOk d ls S) (hbig:n2≤1073741824) (w:World) (hL:LyR 0 w p2 n2 ls) (hS:RdS w ps ns S):
  Calls Tryz.prog 37 #[.agg #[.slice p n c,.slice p2 n2 c2],.slice ps ns cs] w fun e w'=>e = .returned (.int .i64 (cntP ls S ls.length))∧Below w.heap.size w w':=by
 haveI:Nonempty World:=⟨w⟩
 obtain ⟨r,er⟩:∃ r,cntP ls S ls.length=r:=⟨_,rfl⟩
 have HR:Hid (cntP ls S ls.length=r):=er
 have HK:Hid (NetOk d ls S∧LyR 0 w p2 n2 ls∧RdS w ps ns S):=⟨ok,hL,hS⟩
 have hns:ns=n2+1:=by rw [← hS.1,ok.len,hL.1]
 subst hns
 rw [er]
 clear er ok hL hS
 go_enter Tryz.func37,Tryz.ntmps37
 go_wp2_with fail
 generalize hW0:World.alloc _ _=W0
 have HB0:Hid (Below w.heap.size w W0):=by rw [← hW0];exact up_alloc w _
 clear hW0
 go_loopg [5,13] n2 (fun gg u v wr=>∃ (k:Nat) (x:Int),k≤n2∧gg=n2 - k∧u = .int .i64 x∧v = .int .i64 (k:Int)∧Hid (x=cntP ls S k)∧Hid (Below w.heap.size w wr))
 case atStart=>exact ⟨0,0,by omega,by omega,rfl,rfl,rfl,HB0⟩
 case round=>
  obtain ⟨k,x,hk,hg,rfl,rfl,Hx,HB⟩:=hrel
  by_cases hkn:k < n2
  ·have hk':(k:Int) < (n2:Int):=by omega
   have hk1:(k:Int) < ((n2+1:Nat):Int):=by omega
   have hkl:k < ls.length:=by rw [HK.out.2.1.1];exact hkn
   obtain ⟨q,o,rfl,c0,c1,c2⟩:=(HK.out.2.1.up HB.out).2 k hkn
   obtain ⟨q3,o3,a3,b3,d3,rfl,s3,m3⟩:=(HK.out.2.2.up HB.out).2 k (by omega)
   have hl:=HK.out.1.lay k hkl
   have hi:=HK.out.1.inn k hkl
   have hft:=HK.out.1.fit k hkl
   have hcr:=cntP_rng (ls:=ls) (S:=S) (i:=k) (fun j hj=>HK.out.1.inn j (by omega)) (fun j hj=>HK.out.1.lay j (by omega))
   rw [← Hx.out] at hcr
   have hxr:0≤x∧x≤1127000000000000:=by omega
   obtain ⟨l,el⟩:∃ l,lyA ls k=l:=⟨_,rfl⟩
   obtain ⟨dd,ed⟩:∃ dd,shA S k=dd:=⟨_,rfl⟩
   have HN:Hid (x+psz l dd=cntP ls S (k+1)):=by show _=_;rw [Hx.out,← el,← ed];rfl
   rw [el] at c0 c1 c2 hl hft
   rw [ed] at hi m3 hft
   obtain ⟨s,a,b⟩:=l
   simp only [] at c0 c1 c2 hft
   have hlt:=cell_size c0
   obtain ⟨PP,eP⟩:∃ PP,parD (s,a,b) dd=PP:=⟨_,rfl⟩
   have HP:Hid (sumP PP PP.length=psz (s,a,b) dd∧(∀ j,j≤PP.length→0≤sumP PP j∧sumP PP j≤1049600)∧(∀ j,j < PP.length→Smal (shA PP j))∧PP.length≤2):=by
    rw [← eP]
    exact ⟨sumP_psz,sumP_rng hl hi,parD_smal hl hi,parD_len _ _⟩
   have cp:Hid (∀ W,Below wr.heap.size wr W→Calls Tryz.prog 71 #[.agg #[.string s,.int .i64 a,.int .i64 b],.slice a3 b3 d3] W fun e w'=>∃ v',e = .returned v'∧ParR PP v' w'∧Below W.heap.size W w'):=fun W hW=>by
    rw [← eP]
    exact paramsOf_any s a b dd hl hi hft a3 b3 d3 W (m3.up hW)
   clear hl hi hft hcr m3 el ed eP
   go_wp2
   generalize hW1:World.alloc _ _=W1
   have HB1:Hid (Below wr.heap.size wr W1):=by rw [← hW1];exact up_alloc wr _
   obtain ⟨e0,e1,e2⟩:W1.cell? ⟨wr.heap.size,0,none⟩=some (.string s)∧W1.cell? ⟨wr.heap.size,1,none⟩=some (.int .i64 a)∧W1.cell? ⟨wr.heap.size,2,none⟩=some (.int .i64 b):=by rw [← hW1];simp [go_sem]
   replace s3:=still_cell HB1.out s3
   have hz1:=cell_size e0
   have hz3:=cell_size s3
   clear hW1 c0 c1 c2
   refine rel [⟨5,23,ParR PP⟩] 8 36 (by kernel_rfl) rfl rfl (by kernel_rfl) (by rfl) ?_ ?_
   ·intro e he v W W' h hb
    simp only [List.mem_cons,List.not_mem_nil,or_false] at he
    subst he
    exact ParR.up h hb
   apply Exists.intro
   refine ⟨fun x=>?_,?_,?_⟩
   ·simp only [List.take_succ_cons,List.take_zero]
    iterate 5
     refine relQuiet rfl rfl ?_
     apply Exists.intro
     refine ⟨fun F hF hf K hK=>?_,?_⟩
     ·have hFc:=hF.cell
      have hFf:=hF.frozen
      go_big_quiet_op
      first|exact hK|(apply Exists.intro;refine ⟨fun _=>?_,?_⟩;(· fail);exact hK)
     (try simp only [Act.put,List.setIfInBounds_toArray,List.set_cons_zero,List.set_cons_succ])
    refine relTold rfl rfl ?_ ?_
    ·intro F hF hf d
     have hFc:=hF.cell
     have hFf:=hF.frozen
     simp [yieldsR,yieldsUpon,go_sem,hFc,hz1,hz3,e0,e1,e2,s3]
     refine (cp.out (F d) (bstep HB1.out (hF.below _))).mono ?_
     rintro e' w8 ⟨v8,rfl,h8,hB8⟩
     exact ⟨_,rfl,h8,hB8⟩
    (try simp only [Act.put,List.setIfInBounds_toArray,List.set_cons_zero,List.set_cons_succ])
    refine relQuiet rfl rfl ?_
    apply Exists.intro
    refine ⟨fun F hF hf K hK=>?_,?_⟩
    ·have hFc:=hF.cell
     have hFf:=hF.frozen
     obtain ⟨p9,c9,e9,-⟩:=hf _ List.mem_cons_self (by rfl) w
     simp only [] at e9
     rw [e9] at hK ⊢
     go_big_quiet_op
     first|exact hK|(apply Exists.intro;refine ⟨fun _=>?_,?_⟩;(· fail);exact hK)
    (try simp only [Act.put,List.setIfInBounds_toArray,List.set_cons_zero,List.set_cons_succ])
    refine relQuiet rfl rfl ?_
    apply Exists.intro
    refine ⟨fun F hF hf K hK=>?_,?_⟩
    ·have hFc:=hF.cell
     have hFf:=hF.frozen
     go_big_quiet_op
     first|exact hK|(apply Exists.intro;refine ⟨fun _=>?_,?_⟩;(· fail);exact hK)
    (try simp only [Act.put,List.setIfInBounds_toArray,List.set_cons_zero,List.set_cons_succ])
    refine relEnd ?_
    exact rfl
   ·exact fun x=>rfl
   ·intro w9 xs hB9 hf
    simp only [List.drop_succ_cons,List.drop_zero]
    obtain ⟨p7,c7,e7,h7⟩:=hf _ List.mem_cons_self
    simp only [] at e7 h7
    have H7:Hid (RdS w9 p7 PP.length PP∧Below w.heap.size w w9):=⟨h7.1,bstep HB.out (bstep HB1.out hB9)⟩
    obtain ⟨v8,e8⟩:∃ v8,xs 5=v8:=⟨_,rfl⟩
    rw [e8] at e7 ⊢
    subst e7
    have HPL:Hid (PP.length≤2):=HP.out.2.2.2
    obtain ⟨np,enp⟩:∃ np,PP.length=np:=⟨_,rfl⟩
    rw [enp] at H7 HP HPL ⊢
    clear hf hB9 h7 e0 e1 e2 s3 cp e8 enp
    have hnp2:(np:Int)≤2:=by have:=HPL.out;omega
    go_wp2_with fail
    go_loopg [5,25] np (fun gg u v wq=>∃ (j:Nat) (y:Int),j≤np∧gg=np - j∧u = .int .i64 y∧v = .int .i64 (j:Int)∧Hid (y=x+sumP PP j)∧wq=w9)
    case atStart=>exact ⟨0,x,by omega,by omega,rfl,rfl,by show x=x+0;omega,rfl⟩
    case round=>
     obtain ⟨j,y,hj,hgj,rfl,rfl,Hy,rfl⟩:=hrel
     by_cases hjn:j < np
     ·have hj':(j:Int) < (np:Int):=by omega
      obtain ⟨q5,o5,a5,b5,d5,rfl,s5,m5⟩:=H7.out.1.2 j hjn
      obtain ⟨z,ez⟩:∃ z,prodI (shA PP j)=z:=⟨_,rfl⟩
      have cz:=csize_any _ _ (HP.out.2.2.1 j hjn) _ m5
      rw [ez] at cz
      have hy0:=HP.out.2.1 j (by omega)
      have hy1:=HP.out.2.1 (j+1) hjn
      rw [show sumP PP (j+1)=sumP PP j+z by rw [← ez];rfl] at hy1
      have hyr:y+z=x+(sumP PP j+z):=by rw [Hy.out];omega
      have hyz:0≤y+z∧y+z≤1128000000000000:=by omega
      have HY:Hid (y+z=x+sumP PP (j+1)):=by show _=_;rw [hyr,← ez];rfl
      obtain ⟨yz,eyz⟩:∃ yz,y+z=yz:=⟨_,rfl⟩
      rw [eyz] at hyz HY
      clear m5 ez hy0 hy1 hyr
      go_wp2_with fail
      refine cz.mono ?_
      rintro e w1 ⟨rfl,rfl⟩
      clear cz
      go_wp2
      go_roundg (np - (j+1))
      case measure=>omega
      case rel=>exact ⟨j+1,yz,by omega,rfl,by first|rfl|simp [eyz],by first|rfl|simp,HY,rfl⟩
     ·obtain rfl:j=np:=by omega
      have HY:Hid (y=cntP ls S (k+1)):=by show _=_;rw [← HN.out,← HP.out.1,Hy.out]
      have HB9:Hid (Below w.heap.size w _):=H7.out.2
      clear Hy HN HP H7
      go_wp2
      go_roundg (n2 - (k+1))
      case measure=>omega
      case rel=>exact ⟨k+1,y,by omega,rfl,rfl,by first|rfl|simp,HY,HB9⟩
  ·obtain rfl:k=n2:=by omega
   have ex:x=r:=by rw [Hx.out,← HR.out,HK.out.2.1.1]
   subst ex
   go_wp2
   go_ret
   exact ⟨rfl,HB.out⟩
theorem bigN_stop {ls:List Ly} {S:List (List Int)}:∀ {i n:Nat},bigN ls S i=true→i≤n→bigN ls S n=true
 | i,0,h,hi=>by
  obtain rfl:i=0:=by omega
  exact h
 | i,n+1,h,hi=>by
  rcases Nat.lt_or_ge i (n+1) with h1|h1
  ·simp only [bigN,Bool.or_eq_true]
   exact .inl (bigN_stop h (show i≤n by omega))
  ·obtain rfl:i=n+1:=by omega
   exact h
theorem tooMuch_any (p p2 ps:Option Addr) (n c n2 c2 ns cs:Nat) (d:List Int) (ls:List Ly) (S:List (List Int)) (ok:NetOk d ls S) (hsm:∀ k,k < ns→InOk (shA S k)) (hbig:n2≤1073741824) (w:World) (hL:LyR 0 w p2 n2 ls) (hS:RdS w ps ns S):
  Calls Tryz.prog 36 #[.agg #[.slice p n c,.slice p2 n2 c2],.slice ps ns cs] w fun e w'=>e = .returned (.bool (tooM ls S))∧Below w.heap.size w w':=by
 haveI:Nonempty World:=⟨w⟩
 obtain ⟨r,er⟩:∃ r,tooM ls S=r:=⟨_,rfl⟩
 have HR:Hid (tooM ls S=r):=er
 have HK:Hid (NetOk d ls S∧LyR 0 w p2 n2 ls∧RdS w ps ns S):=⟨ok,hL,hS⟩
 have hns:ns=n2+1:=by rw [← hS.1,ok.len,hL.1]
 subst hns
 rw [er]
 have cF:Hid (∀ W,Below w.heap.size w W→Calls Tryz.prog 69 #[.slice ps (n2+1) cs,.func (.func 70) #[] #[]] W fun e w'=>e = .returned (.bool (bigS S))∧w'=W):=fun W hW=>containsF_any ps (n2+1) cs S (fun i hi=>(hsm i hi).smal) (Nat.le_trans (Nat.add_le_add_right hbig 1) (by decide)) W (hS.up hW)
 have cc:Hid (∀ W,Below w.heap.size w W→Calls Tryz.prog 37 #[.agg #[.slice p n c,.slice p2 n2 c2],.slice ps (n2+1) cs] W fun e w'=>e = .returned (.int .i64 (cntP ls S ls.length))∧Below W.heap.size W w'):=fun W hW=>countParams_any p p2 ps n c n2 c2 (n2+1) cs d ls S ok hbig W (hL.up hW) (hS.up hW)
 clear er ok hL hS hsm
 go_enter Tryz.func36,Tryz.ntmps36
 by_cases h16:16 < n2
 ·have h16':(16:Int) < (n2:Int):=by omega
  have e:r=true:=by rw [← HR.out];unfold tooM;rw [HK.out.2.1.1,decide_eq_true h16];simp
  subst e
  clear cF cc
  go_wp2
  go_ret
  exact ⟨rfl,up_alloc w _⟩
 have h16':(n2:Int)≤16:=by omega
 go_wp2_with fail
 generalize hW0:World.alloc _ _=W0
 have HB0:Hid (Below w.heap.size w W0):=by rw [← hW0];exact up_alloc w _
 obtain ⟨g0,g1⟩:W0.cell? ⟨w.heap.size,0,none⟩=some (.slice p n c)∧W0.cell? ⟨w.heap.size,1,none⟩=some (.slice p2 n2 c2):=by rw [← hW0];simp [go_sem]
 clear hW0
 refine (cF.out W0 HB0.out).mono ?_
 rintro e w1 ⟨rfl,rfl⟩
 obtain ⟨qb,eqb⟩:∃ q,bigS S=q:=⟨_,rfl⟩
 have HQ:Hid (bigS S=qb):=eqb
 rw [eqb]
 clear eqb
 cases qb with
 | true=>
  have e:r=true:=by rw [← HR.out];unfold tooM;rw [HQ.out];simp
  subst e
  clear cF cc
  go_wp2
  go_ret
  exact ⟨rfl,HB0.out⟩
 | false=>
 have HG:Hid (w1.cell? ⟨w.heap.size,0,none⟩=some (.slice p n c)∧w1.cell? ⟨w.heap.size,1,none⟩=some (.slice p2 n2 c2)):=⟨g0,g1⟩
 go_wp2_with fail
 go_loopg [18] n2 (fun gg v wr=>∃ (k:Nat),k≤n2∧gg=n2 - k∧v = .int .i64 (k:Int)∧Hid (bigN ls S k=false)∧Hid (Below w1.heap.size w1 wr))
 case atStart=>exact ⟨0,by omega,by omega,rfl,rfl,Below.refl _ _⟩
 case round=>
  obtain ⟨k,hk,hg,rfl,Hx,HB⟩:=hrel
  by_cases hkn:k < n2
  ·have hk':(k:Int) < (n2:Int):=by omega
   have hk1:(k:Int) < ((n2+1:Nat):Int):=by omega
   have hkl:k < ls.length:=by rw [HK.out.2.1.1];exact hkn
   have hBw:=bstep HB0.out HB.out
   obtain ⟨q,o,rfl,c0,c1,c2⟩:=(HK.out.2.1.up hBw).2 k hkn
   obtain ⟨q3,o3,a3,b3,d3,rfl,s3,m3⟩:=(HK.out.2.2.up hBw).2 k (by omega)
   have hl:=HK.out.1.lay k hkl
   have hi:=HK.out.1.inn k hkl
   have hft:=HK.out.1.fit k hkl
   obtain ⟨l,el⟩:∃ l,lyA ls k=l:=⟨_,rfl⟩
   obtain ⟨dd,ed⟩:∃ dd,shA S k=dd:=⟨_,rfl⟩
   have HN:Hid (bigN ls S (k+1)=bigP l dd):=by show _=_;rw [← el,← ed];show (bigN ls S k || _)=_;rw [Hx.out];rfl
   rw [el] at c0 c1 c2 hl hft
   rw [ed] at hi m3 hft
   obtain ⟨s,a,b⟩:=l
   simp only [] at c0 c1 c2 hft
   have hlt:=cell_size c0
   obtain ⟨PP,eP⟩:∃ PP,parD (s,a,b) dd=PP:=⟨_,rfl⟩
   obtain ⟨qq,eqq⟩:∃ qq,bigS PP=qq:=⟨_,rfl⟩
   have HP:Hid (bigP (s,a,b) dd=qq):=by show _=_;rw [← eqq,← eP];rfl
   have cp:Hid (∀ W,Below wr.heap.size wr W→Calls Tryz.prog 71 #[.agg #[.string s,.int .i64 a,.int .i64 b],.slice a3 b3 d3] W fun e w'=>∃ v',e = .returned v'∧ParR PP v' w'∧Below W.heap.size W w'):=fun W hW=>by
    rw [← eP]
    exact paramsOf_any s a b dd hl hi hft a3 b3 d3 W (m3.up hW)
   have cG:Hid (∀ W v,ParR PP v W→Calls Tryz.prog 69 #[v,.func (.func 70) #[] #[]] W fun e w'=>e = .returned (.bool qq)∧w'=W):=fun W v hv=>by
    obtain ⟨pv,cv,rfl,hv⟩:=hv
    rw [← eqq,← eP] at *
    exact containsF_any pv _ cv _ (parD_smal hl hi) (by have:=parD_len (s,a,b) dd;omega) W hv.1
   clear hl hi hft m3 el ed eP eqq hBw
   go_wp2
   generalize hW1:World.alloc _ _=W1
   have HB1:Hid (Below wr.heap.size wr W1):=by rw [← hW1];exact up_alloc wr _
   obtain ⟨e0,e1,e2⟩:W1.cell? ⟨wr.heap.size,0,none⟩=some (.string s)∧W1.cell? ⟨wr.heap.size,1,none⟩=some (.int .i64 a)∧W1.cell? ⟨wr.heap.size,2,none⟩=some (.int .i64 b):=by rw [← hW1];simp [go_sem]
   replace s3:=still_cell HB1.out s3
   have hz1:=cell_size e0
   have hz3:=cell_size s3
   clear hW1 c0 c1 c2
   refine rel [⟨5,28,ParR PP⟩] 7 35 (by kernel_rfl) rfl rfl (by kernel_rfl) (by rfl) ?_ ?_
   ·intro e he v W W' h hb
    simp only [List.mem_cons,List.not_mem_nil,or_false] at he
    subst he
    exact ParR.up h hb
   apply Exists.intro
   refine ⟨fun x=>?_,?_,?_⟩
   ·simp only [List.take_succ_cons,List.take_zero]
    iterate 5
     refine relQuiet rfl rfl ?_
     apply Exists.intro
     refine ⟨fun F hF hf K hK=>?_,?_⟩
     ·have hFc:=hF.cell
      have hFf:=hF.frozen
      go_big_quiet_op
      first|exact hK|(apply Exists.intro;refine ⟨fun _=>?_,?_⟩;(· fail);exact hK)
     (try simp only [Act.put,List.setIfInBounds_toArray,List.set_cons_zero,List.set_cons_succ])
    refine relTold rfl rfl ?_ ?_
    ·intro F hF hf d
     have hFc:=hF.cell
     have hFf:=hF.frozen
     simp [yieldsR,yieldsUpon,go_sem,hFc,hz1,hz3,e0,e1,e2,s3]
     refine (cp.out (F d) (bstep HB1.out (hF.below _))).mono ?_
     rintro e' w8 ⟨v8,rfl,h8,hB8⟩
     exact ⟨_,rfl,h8,hB8⟩
    (try simp only [Act.put,List.setIfInBounds_toArray,List.set_cons_zero,List.set_cons_succ])
    refine relQuiet rfl rfl ?_
    apply Exists.intro
    refine ⟨fun F hF hf K hK=>?_,?_⟩
    ·have hFc:=hF.cell
     have hFf:=hF.frozen
     go_big_quiet_op
     first|exact hK|(apply Exists.intro;refine ⟨fun _=>?_,?_⟩;(· exact hF.same (cG.out _ _ (hf _ List.mem_cons_self (by rfl) _)));exact hK)
    (try simp only [Act.put,List.setIfInBounds_toArray,List.set_cons_zero,List.set_cons_succ])
    refine relEnd ?_
    exact rfl
   ·exact fun x=>rfl
   ·intro w9 xs hB9 hf
    simp only [List.drop_succ_cons,List.drop_zero]
    have HB9:Hid (Below w1.heap.size w1 w9):=bstep HB.out (bstep HB1.out hB9)
    clear hf hB9 e0 e1 e2 s3 cp cG
    cases qq with
    | true=>
     have e:r=true:=by rw [← HR.out];unfold tooM;rw [bigN_stop (HN.out.trans HP.out) (show k+1≤ls.length by rw [HK.out.2.1.1];exact hkn)];simp
     subst e
     clear cF cc
     go_wp2
     go_ret
     exact ⟨rfl,bstep HB0.out HB9.out⟩
    | false=>
     have HN2:Hid (bigN ls S (k+1)=false):=HN.out.trans HP.out
     clear HN HP
     go_wp2
     go_roundg (n2 - (k+1))
     case measure=>omega
     case rel=>exact ⟨k+1,by omega,rfl,by first|rfl|simp,HN2,HB9⟩
  ·obtain rfl:k=n2:=by omega
   have g0:=still_cell HB.out HG.out.1
   have g1:=still_cell HB.out HG.out.2
   go_wp2_with fail
   refine (cc.out wr (bstep HB0.out HB.out)).mono ?_
   rintro e w2 ⟨rfl,hB2⟩
   obtain ⟨cn,ecn⟩:∃ cn,cntP ls S ls.length=cn:=⟨_,rfl⟩
   have HC:Hid (decide (4096 < cn)=r):=by
    show _=_
    rw [← HR.out,← ecn]
    unfold tooM
    rw [HQ.out,HK.out.2.1.1,Hx.out,decide_eq_false h16]
    rfl
   have HB3:Hid (Below w.heap.size w w2):=bstep (bstep HB0.out HB.out) hB2
   rw [ecn]
   clear ecn cF cc hB2
   go_wp2
   go_ret
   rw [← HC.out]
   exact ⟨rfl,HB3.out⟩
/-- A slice's type by its elements' cells and bytes. -/
structure GT (P:Program) (t e:TypeId) (s b:Nat):Prop where
 ht:P.underlying t=some (.slice e)
 hi:(P.info? e).map (fun i=>(i.zero.map fun z=>z.cells.size,i.size,i.bytes))=some (some s,s,b)
/-- append of one element that a literal holds, behind a row of the call's own. -/
theorem wpList_appG {P:Program} {t e:TypeId} {s b:Nat} (T:GT P t e s b) (hb:b≤256) (hs0:0 < s) {ops:Array Oper} {rest:List Oper} {o:Oper} {a:Act} {Q:Exit→Act→World→Prop} {w:World} (hgd:o.guard=none) (sx x:Operand)
  (ho:o.op = .call { callee:=.builtin .append,args:=#[sx,x],argTypes:=#[t,t] }) (B:Nat) (v:Value) (n:Nat) (xs:List Value) (hs:a.eval sx=v) (hown:w.ownsRow B e s v n xs) (g:Nat) (u:List Value) (hx:a.eval x = .slice (some ⟨g,0,none⟩) 1 1)
  (hg:w.heap[g]?=some (.cells u.toArray e (0,0))) (hu:u.length=s) (h1:∀ y∈u,y.oneCell'=true) (hn:n+1≤1073741825) (hB:B≤w.heap.size)
  (h:∀ v' w',Hid (w'.ownsRow B e s v' (n+1) (xs++u))→Hid (Only [e] w w')→Hid (∀ w0,Below B w0 w→Below B w0 w')→wpList P ops Q rest (a.put o.dst v') w'):wpList P ops Q (o :: rest) a w:=by
 have hi:=T.hi
 cases hq:P.info? e with
 | none=>rw [hq] at hi;cases hi
 | some i=>
  rw [hq] at hi
  simp only [Option.map_some,Option.some.injEq,Prod.mk.injEq] at hi
  obtain ⟨hz,hsz,hby⟩:=hi
  cases hz0:i.zero with
  | none=>rw [hz0] at hz;cases hz
  | some z=>
   rw [hz0] at hz
   simp only [Option.map_some,Option.some.injEq] at hz
   have hm:(n+1)*b≤1073741825*256:=Nat.mul_le_mul hn hb
   refine wpList_append_own w hgd sx x t ho B e i z s b T.ht hq hz0 hsz hby hz hs0 v n xs hs hown ⟨g,0,none⟩ 1 1 u hx (by omega) (fun j y hj=>by
    rw [addr_plus,Nat.zero_add]
    unfold World.cell?
    simpa [hg] using hj) h1 (by unfold maxLen;omega) (by omega) hB ?_
   intro v' w' h2 h3 _
   have hlt:∀ k,v.ownBlock=some k→B≤k:=fun k hk=>(World.ownsRow.lt hown k hk).1
   refine h v' w' h2 (Only.grown h3 fun k hk=>?_) fun w0 hB0=>Below.grown hB0 h3 hB hlt
   rcases hown.2 with ⟨rfl,_⟩|⟨g',cap,cur,rfl,_,hc,_⟩
   ·cases hk
   ·cases hk
    exact ⟨_,_,_,hc,by simp⟩
theorem OwnS.push {W W':World} {B:Nat} {v':Value} {S:List (List Int)} {a:Option Addr} {b c:Nat} {o:List Int} {vs:List Value} (h:W'.ownsRow B 23 1 v' (S.length+1) (vs++[.slice a b c])) (hl:vs.length=S.length) (h4:∀ i,i < S.length→∃ a b c,vs[i]?=some (.slice a b c)∧OwnK .i64 3 W B (.slice a b c) (shA S i)) (ho:OwnK .i64 3 W B (.slice a b c) o) (hy:Only [23] W W'):OwnS W' B v' (S++[o]):=by
 refine ⟨vs++[.slice a b c],by rw [List.length_append];exact h,fun i hi=>?_⟩
 simp only [List.length_append,List.length_cons,List.length_nil] at hi
 rcases Nat.lt_or_ge i S.length with h1|h1
 ·obtain ⟨a,b,c,e,h5⟩:=h4 i h1
  rw [shA_app _ h1]
  exact ⟨a,b,c,by rw [List.getElem?_append_left (by omega)];exact e,h5.only hy (by decide)⟩
 ·obtain rfl:i=S.length:=by omega
  rw [shA_last S o _ rfl]
  exact ⟨a,b,c,by rw [List.getElem?_append_right (by omega),hl];simp,ho.only hy (by decide)⟩
theorem shT:GT Tryz.prog 30 23 1 24:=⟨Tryz.underlying30,by kernel_rfl⟩
def OutV (x:Option (List Int)) (B:Nat) (v:Value) (W:World):Prop:=match x with
 | none=>v = .slice none 0 0
 | some o=>∃ p n c,v = .slice p n c∧OwnK .i64 3 W B (.slice p n c) o
theorem OutV.up {x:Option (List Int)} {B:Nat} {v:Value} {W W':World} (h:OutV x B v W) (hB:Below W.heap.size W W'):OutV x B v W':=by
 cases x with
 | none=>exact h
 | some o=>
  obtain ⟨p,n,c,e,h⟩:=h
  exact ⟨p,n,c,e,h.up hB⟩
theorem OutR.tup {x:Option (List Int)} {B:Nat} {v:Value} {W:World} (h:OutR x B v W):∃ u,v = .tuple #[u,.bool x.isSome]∧OutV x B u W:=by
 cases x with
 | none=>exact ⟨_,h,rfl⟩
 | some o=>
  obtain ⟨p,n,c,e,h⟩:=h
  exact ⟨_,e,p,n,c,rfl,h⟩
theorem OutR.low {x:Option (List Int)} {B B':Nat} {v:Value} {W:World} (h:OutR x B v W) (hB:B'≤B):OutR x B' v W:=by
 cases x with
 | none=>exact h
 | some o=>
  obtain ⟨p,n,c,e,h⟩:=h
  exact ⟨p,n,c,e,h.low hB⟩
def ShpR (x:Option (List (List Int))) (B:Nat) (v:Value) (W:World):Prop:=match x with
 | none=>v = .tuple #[.slice none 0 0,.bool false]
 | some S=>∃ u,v = .tuple #[u,.bool true]∧OwnS W B u S
theorem shapesOf_any (p p2:Option Addr) (n c n2 c2:Nat) (d:List Int) (ls:List Ly) (hf:formB d ls=true) (hbig:n2≤1073741823) (w:World) (h1:Nums .i64 w (.slice p n c) d) (hL:LyR 0 w p2 n2 ls):
  Calls Tryz.prog 35 #[.agg #[.slice p n c,.slice p2 n2 c2]] w fun e w'=>∃ v',e = .returned v'∧ShpR (shN d ls ls.length) w.heap.size v' w'∧Below w.heap.size w w':=by
 haveI:Nonempty World:=⟨w⟩
 obtain ⟨r,er⟩:∃ r,shN d ls ls.length=r:=⟨_,rfl⟩
 obtain ⟨hd,hly⟩:=(formB_iff d ls).1 hf
 have HK:Hid (shN d ls ls.length=r∧LyR 0 w p2 n2 ls∧InOk d∧∀ l∈ls,LayOk l):=⟨er,hL,hd,hly⟩
 have cI:Hid (∀ W,Below w.heap.size w W→Calls Tryz.prog 66 #[.slice p n c] W fun e w'=>∃ v',e = .returned v'∧OwnK .i64 3 w' W.heap.size v' d∧Below W.heap.size W w'):=fun W hW=>cloneI_any _ d (by have:=hd.smal.1;omega) W (h1.up hW)
 rw [er]
 clear er hd hly hf h1 hL
 go_enter Tryz.func35,Tryz.ntmps35
 go_wp2_with fail
 generalize hW0:World.alloc _ _=W0
 have HB0:Hid (Below w.heap.size w W0):=by rw [← hW0];exact up_alloc w _
 have HX0:Hid (W0.heap[w.heap.size]?=some (.cells #[.slice p n c,.slice p2 n2 c2] 26 (0,0))∧w.heap.size < W0.heap.size):=by
  show _∧_
  rw [← hW0]
  exact ⟨Array.getElem?_push_size,by simp⟩
 clear hW0
 refine (cI.out W0 HB0.out).mono ?_
 rintro e w1 ⟨v1,rfl,ho1,hB1⟩
 obtain ⟨pa,na,ca,rfl,_⟩:=ho1.nums.lst
 have HX1:Hid (w1.heap[w.heap.size]?=some (.cells #[.slice p n c,.slice p2 n2 c2] 26 (0,0))):=(hB1.block _ HX0.out.2).trans HX0.out.1
 have HO1:Hid (OwnK .i64 3 w1 w.heap.size (.slice pa na ca) d∧Below w.heap.size w w1):=⟨ho1.low HB0.out.size,bstep HB0.out hB1⟩
 clear ho1 hB1 cI HB0 HX0
 have g1:w1.cell? ⟨w.heap.size,1,none⟩=some (.slice p2 n2 c2):=by unfold World.cell?;rw [HX1.out];rfl
 have hz1:=cell_size g1
 go_wp2_with fail
 generalize hW2:World.alloc _ _=W2
 have HX2:Hid (W2.heap[w.heap.size]?=some (.cells #[.slice p n c,.slice p2 n2 c2] 26 (0,0))):=by
  show _=_
  rw [← hW2]
  exact ((up_alloc w1 _).block _ hz1).trans HX1.out
 have HO2:Hid (OwnS W2 w.heap.size (.slice (some ⟨w1.heap.size,0,none⟩) 1 1) [d]∧Below w.heap.size w W2):=by
  show _∧_
  have hb:Below w1.heap.size w1 W2:=by rw [← hW2];exact up_alloc w1 _
  refine ⟨⟨[.slice pa na ca],⟨rfl,.inr ⟨w1.heap.size,1,#[.slice pa na ca],rfl,HO1.out.2.size,?_,Nat.le_refl _,by unfold maxLen;omega,rfl,rfl⟩⟩,fun i hi=>?_⟩,bstep HO1.out.2 hb⟩
  ·rw [← hW2]
   exact Array.getElem?_push_size
  ·obtain rfl:i=0:=by simp at hi;omega
   exact ⟨_,_,_,rfl,HO1.out.1.up hb⟩
 clear hW2 g1 HO1 HX1 hz1
 go_loopg [4,16] n2 (fun gg u v wr=>∃ (k:Nat) (S:List (List Int)),k≤n2∧gg=n2 - k∧v = .int .i64 (k:Int)∧Hid (OwnS wr w.heap.size u S∧Below w.heap.size w wr)∧Hid (shN d ls k=some S)∧Hid (wr.heap[w.heap.size]?=some (.cells #[.slice p n c,.slice p2 n2 c2] 26 (0,0))))
 case atStart=>exact ⟨0,[d],by omega,by omega,rfl,HO2,rfl,HX2⟩
 case round=>
  obtain ⟨k,S,hk,hg,rfl,HO,HS,HX⟩:=hrel
  obtain ⟨ps,cs,rfl,hrd⟩:=HO.out.1.rd
  have hSl:=shN_len HS.out
  obtain ⟨sl,esl⟩:∃ sl,S.length=sl:=⟨_,rfl⟩
  rw [esl] at hrd hSl HO ⊢
  have HRD:Hid (RdS wr ps sl S):=hrd
  have HSL:Hid (S.length=sl):=esl
  subst hSl
  clear esl hrd
  by_cases hkn:k < n2
  ·have hk':(k:Int) < (n2:Int):=by omega
   have hk1:(k:Int) < ((k+1:Nat):Int):=by omega
   have hkl:k < ls.length:=by rw [HK.out.2.1.1];exact hkn
   obtain ⟨q,o,rfl,y0,y1,y2⟩:=(HK.out.2.1.up HO.out.2).2 k hkn
   have hl:=HK.out.2.2.2 _ (lyA_mem hkl)
   have hin:=shN_in HK.out.2.2.1 HK.out.2.2.2 (show k≤ls.length by omega) HS.out
   obtain ⟨l,el⟩:∃ l,lyA ls k=l:=⟨_,rfl⟩
   have HEL:Hid (lyA ls k=l):=el
   rw [el] at y0 y1 y2 hl
   obtain ⟨s,a,b⟩:=l
   simp only [] at y0 y1 y2
   have hlt:=cell_size y0
   have g1:wr.cell? ⟨w.heap.size,1,none⟩=some (.slice (some ⟨q,o,none⟩) n2 c2):=by unfold World.cell?;rw [HX.out];rfl
   have hz1:=cell_size g1
   have HN:Hid (∀ x,shN d ls (k+1)=x→stepS ls k S=x):=fun x hx=>(shN_succ HS.out).symm.trans hx
   have HSK:Hid (stepS ls k S=if s=kSkip∧¬ SkipOk ls S k then none else (outD (s,a,b) (shA S k)).map fun o=>S++[o]):=by show _=_;unfold stepS;rw [HEL.out]
   have cO:Hid (∀ W a3 b3 d3,Nums .i64 W (.slice a3 b3 d3) (shA S k)→Calls Tryz.prog 68 #[.agg #[.string s,.int .i64 a,.int .i64 b],.slice a3 b3 d3] W fun e w'=>∃ v',e = .returned v'∧OutR (outD (s,a,b) (shA S k)) W.heap.size v' w'∧Below W.heap.size W w'):=fun W a3 b3 d3 hv=>outOf_any s a b _ hl (hin k (by omega)) a3 b3 d3 W hv
   have cK:Hid (∀ W,Below wr.heap.size wr W→Calls Tryz.prog 67 #[.slice (some ⟨q,o,none⟩) n2 c2,.slice ps (k+1) cs,.int .i64 (k:Int)] W fun e w'=>e = .returned (.bool (decide (SkipOk ls S k)))∧∃ m,w'=W.drewN m):=fun W hW=>canSkip_any _ ps n2 c2 (k+1) cs ls S k (by omega) hkn (by omega) (fun j hj=>(hin j hj).smal.1) W ((HK.out.2.1.up HO.out.2).up hW) (HRD.out.up hW)
   obtain ⟨xo,exo⟩:∃ xo,outD (s,a,b) (shA S k)=xo:=⟨_,rfl⟩
   rw [exo] at cO HSK
   obtain ⟨-,-,-,-,t4⟩:=kts s
   clear hl hin el exo
   by_cases hk4:kindI s=4
   ·replace t4:=t4.trans (decide_eq_true hk4)
    go_wp2_with fail
    generalize hW3:World.alloc _ _=W3
    have HB3:Hid (Below wr.heap.size wr W3):=by rw [← hW3];exact up_alloc wr _
    obtain ⟨e0,e1,e2⟩:W3.cell? ⟨wr.heap.size,0,none⟩=some (.string s)∧W3.cell? ⟨wr.heap.size,1,none⟩=some (.int .i64 a)∧W3.cell? ⟨wr.heap.size,2,none⟩=some (.int .i64 b):=by rw [← hW3];simp [go_sem]
    clear hW3
    refine (cK.out W3 HB3.out).mono ?_
    rintro e w4 ⟨rfl,m,hw4⟩
    have HB5:Hid (Below wr.heap.size wr w4):=by rw [hw4];exact below_drew HB3.out _
    replace e0:w4.cell? ⟨wr.heap.size,0,none⟩=some (.string s):=by rw [hw4];exact e0
    replace e1:w4.cell? ⟨wr.heap.size,1,none⟩=some (.int .i64 a):=by rw [hw4];exact e1
    replace e2:w4.cell? ⟨wr.heap.size,2,none⟩=some (.int .i64 b):=by rw [hw4];exact e2
    clear hw4 HB3
    by_cases hsk:SkipOk ls S k
    ·rw [decide_eq_true hsk]
     have Hsk:Hid (SkipOk ls S k):=hsk
     clear hsk hk4
     obtain ⟨q3,o3,a3,b3,d3,rfl,s3,m3'⟩:=HRD.out.2 k (by omega)
     have m3:Hid (Nums .i64 wr (.slice a3 b3 d3) (shA S k)):=m3'
     replace s3:=still_cell HB5.out s3
     have hz5:=cell_size e0
     have hz6:=cell_size s3
     clear m3' y0 y1 y2 g1
     go_wp2
     refine relE [⟨5,38,OutR xo w.heap.size⟩,⟨6,32,OutR xo w.heap.size⟩,⟨7,39,OutV xo w.heap.size⟩] 9 49 (by kernel_rfl) rfl rfl 8 _ rfl (by decide) rfl (by kernel_rfl) (by kernel_rfl) (fun _ _ _ _ h=>h) (by rfl) ?_ ?_
     ·intro e he v W W' h hb
      simp only [List.mem_cons,List.not_mem_nil,or_false] at he
      rcases he with rfl|rfl|rfl
      ·exact OutR.up h hb
      ·exact OutR.up h hb
      ·exact OutV.up h hb
     apply Exists.intro
     refine ⟨?yl1,?wk1,?pk1,?rest1⟩
     case wk1=>
      intro x
      simp only [List.take_succ_cons,List.take_zero]
      iterate 5
       refine relQuiet rfl rfl ?_
       apply Exists.intro
       refine ⟨fun F hF hf K hK=>?_,?_⟩
       ·have hFc:=hF.cell
        have hFf:=hF.frozen
        go_big_quiet_op
        first|exact hK|(apply Exists.intro;refine ⟨fun _=>?_,?_⟩;(· fail);exact hK)
       (try simp only [Act.put,List.setIfInBounds_toArray,List.set_cons_zero,List.set_cons_succ])
      refine relTold rfl rfl ?_ ?_
      ·intro F hF hf d
       have hFc:=hF.cell
       have hFf:=hF.frozen
       simp [yieldsR,yieldsUpon,go_sem,hFc,hz5,hz6,e0,e1,e2,s3]
       have hB9:=bstep HB5.out (hF.below d)
       refine (cO.out (F d) a3 b3 d3 (m3.out.up hB9)).mono ?_
       rintro e' w8 ⟨v8,rfl,h8,hB8⟩
       exact ⟨_,rfl,h8.low (Nat.le_trans HO.out.2.size hB9.size),hB8⟩
      (try simp only [Act.put,List.setIfInBounds_toArray,List.set_cons_zero,List.set_cons_succ])
      refine relTold rfl rfl ?_ ?_
      ·intro F hF hf d
       have hFc:=hF.cell
       have hFf:=hF.frozen
       simp [yieldsR,yieldsUpon,go_sem]
       exact ⟨hf _ List.mem_cons_self (by rfl) d,Below.refl _ _⟩
      (try simp only [Act.put,List.setIfInBounds_toArray,List.set_cons_zero,List.set_cons_succ])
      refine relTold rfl rfl ?_ ?_
      ·intro F hF hf d
       have hFc:=hF.cell
       have hFf:=hF.frozen
       obtain ⟨u9,e9,h9⟩:=(hf _ (List.mem_cons_of_mem _ List.mem_cons_self) (by rfl) d).tup
       simp only [] at e9
       simp [yieldsR,yieldsUpon,go_sem,e9]
       exact ⟨h9,Below.refl _ _⟩
      (try simp only [Act.put,List.setIfInBounds_toArray,List.set_cons_zero,List.set_cons_succ])
      refine relQuiet rfl rfl ?_
      apply Exists.intro
      refine ⟨fun F hF hf K hK=>?_,?_⟩
      ·have hFc:=hF.cell
       have hFf:=hF.frozen
       obtain ⟨u9,e9,-⟩:=(hf _ (List.mem_cons_of_mem _ List.mem_cons_self) (by rfl) w).tup
       simp only [] at e9
       rw [e9] at hK ⊢
       go_big_quiet_op
       first|exact hK|(apply Exists.intro;refine ⟨fun _=>?_,?_⟩;(· fail);exact hK)
      (try simp only [Act.put,List.setIfInBounds_toArray,List.set_cons_zero,List.set_cons_succ])
      refine relEnd ?_
      exact rfl
     case pk1=>
      intro x
      simp only [putsK,List.foldl_cons,List.foldl_nil,Act.put,List.setIfInBounds_toArray,List.set_cons_zero,List.set_cons_succ]
     case yl1=>
      intro x hx
      obtain ⟨W9,h9⟩:=hx _ (List.mem_cons_of_mem _ List.mem_cons_self) (by rfl)
      obtain ⟨u9,e9,-⟩:=OutR.tup h9
      simp only [] at e9
      refine ⟨.bool xo.isSome,fun t ht=>?_,.inl ⟨by rfl,fun w=>?_⟩⟩
      ·cases ht
       rfl
      ·simp [execOp,Act.eval,e9,go_sem]
     intro w9 xs hB9 hf
     simp only [List.drop_succ_cons,List.drop_zero]
     have h7:=hf _ (List.mem_cons_of_mem _ (List.mem_cons_of_mem _ List.mem_cons_self))
     simp only [] at h7
     have hB9':=bstep HB5.out hB9
     have HO9:Hid (OwnS w9 w.heap.size (.slice (some ⟨q3,o3,none⟩) (k+1) cs) S∧Below w.heap.size w w9):=⟨HO.out.1.up hB9',bstep HO.out.2 hB9'⟩
     have HX9:Hid (w9.heap[w.heap.size]?=some (.cells #[.slice p n c,.slice (some ⟨q,o,none⟩) n2 c2] 26 (0,0))):=(hB9'.block _ hz1).trans HX.out
     clear hf hB9 hB9' e0 e1 e2 s3 m3 cO cK HB5
     cases xo with
     | none=>
      have er:r=none:=by
       rw [← HK.out.1]
       refine shN_stop (i:=k+1) ?_ hkl
       rw [shN_succ HS.out,HSK.out]
       (try (split <;> rfl))
      subst er
      obtain ⟨v7,e7⟩:∃ v7,xs 7=v7:=⟨_,rfl⟩
      rw [e7]
      clear h7 e7
      go_wp2
      go_ret2
      exact ⟨_,rfl,rfl,HO9.out.2⟩
     | some oo=>
      obtain ⟨p7,n7,c7,e7,h7⟩:=h7
      rw [e7]
      have HS2:Hid (shN d ls (k+1)=some (S++[oo])):=by
       show _=_
       rw [shN_succ HS.out,HSK.out,if_neg fun h=>h.2 Hsk.out]
       rfl
      obtain ⟨vs,hvs,hv4⟩:=HO9.out.1
      have hvl:vs.length=S.length:=by have:=hvs.1;omega
      have HV:Hid (OwnK .i64 3 w9 w.heap.size (.slice p7 n7 c7) oo∧w9.ownsRow w.heap.size 23 1 (.slice (some ⟨q3,o3,none⟩) (k+1) cs) (k+1) vs∧vs.length=S.length∧∀ i,i < S.length→∃ a b c,vs[i]?=some (.slice a b c)∧OwnK .i64 3 w9 w.heap.size (.slice a b c) (shA S i)):=⟨h7,by rw [HSL.out] at hvs;exact hvs,hvl,hv4⟩
      have hk9:k+1+1≤1073741825:=by omega
      clear h7 e7 hvs hv4 hvl HSK HN
      have H5:Hid ((w9.alloc (.cells #[.slice p7 n7 c7] 23)).ownsRow w.heap.size 23 1 (.slice (some ⟨q3,o3,none⟩) (k+1) cs) (k+1) vs):=owns_only (S:=[]) HV.out.2.1 (Only.of (up_alloc w9 _)) (by simp)
      have H6:Hid ((w9.alloc (.cells #[.slice p7 n7 c7] 23)).heap[w9.heap.size]?=some (.cells [.slice p7 n7 c7].toArray 23 (0,0))):=Array.getElem?_push_size
      have H7:Hid (∀ y∈[Value.slice p7 n7 c7],y.oneCell'=true):=fun y hy=>by simp at hy;subst hy;rfl
      have H8:Hid (w.heap.size≤(w9.alloc (.cells #[.slice p7 n7 c7] 23)).heap.size):=by show _≤_;have:=HO9.out.2.size;simp;omega
      have H9:Hid (∀ v0 w0,w0.ownsRow w.heap.size 23 1 v0 (k+1+1) (vs++[.slice p7 n7 c7])→Only [23] (w9.alloc (.cells #[.slice p7 n7 c7] 23)) w0→(∀ w',Below w.heap.size w' (w9.alloc (.cells #[.slice p7 n7 c7] 23))→Below w.heap.size w' w0)→(OwnS w0 w.heap.size v0 (S++[oo])∧Below w.heap.size w w0)∧w0.heap[w.heap.size]?=some (.cells #[.slice p n c,.slice (some ⟨q,o,none⟩) n2 c2] 26 (0,0))):=fun v0 w0 g1 g2 g3=>by
       have hb:=up_alloc w9 (.cells #[.slice p7 n7 c7] 23)
       refine ⟨⟨OwnS.push (W:=w9.alloc (.cells #[.slice p7 n7 c7] 23)) (vs:=vs) (by rw [HSL.out];exact g1) HV.out.2.2.1 (fun i hi=>?_) (HV.out.1.up hb) g2,g3 w (bstep HO9.out.2 hb)⟩,g2.keep ((hb.block _ (heap_lt HX9.out)).trans HX9.out) (by decide)⟩
       obtain ⟨a',b',c',e',h'⟩:=HV.out.2.2.2 i hi
       exact ⟨a',b',c',e',h'.up hb⟩
      clear HV HO9 HX9 HRD HO HX
      go_wp2_with (at_builtin;refine wpList_appG shT (by decide) (by decide) rfl (.tmp 43) (.tmp 45) rfl w.heap.size _ (k+1) vs rfl H5.out _ [.slice p7 n7 c7] rfl H6.out rfl H7.out hk9 H8.out ?_;intro v0 w0 H0 O0 B0)
      obtain ⟨hA,hX⟩:=H9.out v0 w0 H0.out O0.out B0.out
      have HA:Hid (OwnS w0 w.heap.size v0 (S++[oo])∧Below w.heap.size w w0):=hA
      have HXX:Hid (w0.heap[w.heap.size]?=some (.cells #[.slice p n c,.slice (some ⟨q,o,none⟩) n2 c2] 26 (0,0))):=hX
      clear hA hX H0 O0 B0 H5 H6 H7 H8 H9
      go_wp2
      go_roundg (n2 - (k+1))
      case measure=>omega
      case rel=>exact ⟨k+1,S++[oo],by omega,rfl,by first|rfl|simp,HA,HS2,HXX⟩
    ·rw [decide_eq_false hsk]
     have er:r=none:=by
      rw [← HK.out.1]
      refine shN_stop (i:=k+1) ?_ hkl
      rw [shN_succ HS.out,HSK.out,if_pos ⟨(kskip s).2 hk4,hsk⟩]
     subst er
     clear hsk hk4 cO cK HSK HN
     go_wp2
     go_ret2
     exact ⟨_,rfl,rfl,bstep HO.out.2 HB5.out⟩
   ·replace t4:=t4.trans (decide_eq_false hk4)
    have Hns:Hid (¬ s=kSkip):=fun h=>hk4 ((kskip s).1 h)
    clear hk4
    obtain ⟨q3,o3,a3,b3,d3,rfl,s3,m3'⟩:=HRD.out.2 k (by omega)
    have m3:Hid (Nums .i64 wr (.slice a3 b3 d3) (shA S k)):=m3'
    clear m3' g1
    go_wp2
    generalize hW3:World.alloc _ _=W3
    have HB5:Hid (Below wr.heap.size wr W3):=by rw [← hW3];exact up_alloc wr _
    obtain ⟨e0,e1,e2⟩:W3.cell? ⟨wr.heap.size,0,none⟩=some (.string s)∧W3.cell? ⟨wr.heap.size,1,none⟩=some (.int .i64 a)∧W3.cell? ⟨wr.heap.size,2,none⟩=some (.int .i64 b):=by rw [← hW3];simp [go_sem]
    replace s3:=still_cell HB5.out s3
    have hz5:=cell_size e0
    have hz6:=cell_size s3
    clear hW3 y0 y1 y2
    refine relE [⟨5,38,OutR xo w.heap.size⟩,⟨6,32,OutR xo w.heap.size⟩,⟨7,39,OutV xo w.heap.size⟩] 9 49 (by kernel_rfl) rfl rfl 8 _ rfl (by decide) rfl (by kernel_rfl) (by kernel_rfl) (fun _ _ _ _ h=>h) (by rfl) ?_ ?_
    ·intro e he v W W' h hb
     simp only [List.mem_cons,List.not_mem_nil,or_false] at he
     rcases he with rfl|rfl|rfl
     ·exact OutR.up h hb
     ·exact OutR.up h hb
     ·exact OutV.up h hb
    apply Exists.intro
    refine ⟨?yl2,?wk2,?pk2,?rest2⟩
    case wk2=>
     intro x
     simp only [List.take_succ_cons,List.take_zero]
     iterate 5
      refine relQuiet rfl rfl ?_
      apply Exists.intro
      refine ⟨fun F hF hf K hK=>?_,?_⟩
      ·have hFc:=hF.cell
       have hFf:=hF.frozen
       go_big_quiet_op
       first|exact hK|(apply Exists.intro;refine ⟨fun _=>?_,?_⟩;(· fail);exact hK)
      (try simp only [Act.put,List.setIfInBounds_toArray,List.set_cons_zero,List.set_cons_succ])
     refine relTold rfl rfl ?_ ?_
     ·intro F hF hf d
      have hFc:=hF.cell
      have hFf:=hF.frozen
      simp [yieldsR,yieldsUpon,go_sem,hFc,hz5,hz6,e0,e1,e2,s3]
      have hB9:=bstep HB5.out (hF.below d)
      refine (cO.out (F d) a3 b3 d3 (m3.out.up hB9)).mono ?_
      rintro e' w8 ⟨v8,rfl,h8,hB8⟩
      exact ⟨_,rfl,h8.low (Nat.le_trans HO.out.2.size hB9.size),hB8⟩
     (try simp only [Act.put,List.setIfInBounds_toArray,List.set_cons_zero,List.set_cons_succ])
     refine relTold rfl rfl ?_ ?_
     ·intro F hF hf d
      have hFc:=hF.cell
      have hFf:=hF.frozen
      simp [yieldsR,yieldsUpon,go_sem]
      exact ⟨hf _ List.mem_cons_self (by rfl) d,Below.refl _ _⟩
     (try simp only [Act.put,List.setIfInBounds_toArray,List.set_cons_zero,List.set_cons_succ])
     refine relTold rfl rfl ?_ ?_
     ·intro F hF hf d
      have hFc:=hF.cell
      have hFf:=hF.frozen
      obtain ⟨u9,e9,h9⟩:=(hf _ (List.mem_cons_of_mem _ List.mem_cons_self) (by rfl) d).tup
      simp only [] at e9
      simp [yieldsR,yieldsUpon,go_sem,e9]
      exact ⟨h9,Below.refl _ _⟩
     (try simp only [Act.put,List.setIfInBounds_toArray,List.set_cons_zero,List.set_cons_succ])
     refine relQuiet rfl rfl ?_
     apply Exists.intro
     refine ⟨fun F hF hf K hK=>?_,?_⟩
     ·have hFc:=hF.cell
      have hFf:=hF.frozen
      obtain ⟨u9,e9,-⟩:=(hf _ (List.mem_cons_of_mem _ List.mem_cons_self) (by rfl) w).tup
      simp only [] at e9
      rw [e9] at hK ⊢
      go_big_quiet_op
      first|exact hK|(apply Exists.intro;refine ⟨fun _=>?_,?_⟩;(· fail);exact hK)
     (try simp only [Act.put,List.setIfInBounds_toArray,List.set_cons_zero,List.set_cons_succ])
     refine relEnd ?_
     exact rfl
    case pk2=>
     intro x
     simp only [putsK,List.foldl_cons,List.foldl_nil,Act.put,List.setIfInBounds_toArray,List.set_cons_zero,List.set_cons_succ]
    case yl2=>
     intro x hx
     obtain ⟨W9,h9⟩:=hx _ (List.mem_cons_of_mem _ List.mem_cons_self) (by rfl)
     obtain ⟨u9,e9,-⟩:=OutR.tup h9
     simp only [] at e9
     refine ⟨.bool xo.isSome,fun t ht=>?_,.inl ⟨by rfl,fun w=>?_⟩⟩
     ·cases ht
      rfl
     ·simp [execOp,Act.eval,e9,go_sem]
    intro w9 xs hB9 hf
    simp only [List.drop_succ_cons,List.drop_zero]
    have h7:=hf _ (List.mem_cons_of_mem _ (List.mem_cons_of_mem _ List.mem_cons_self))
    simp only [] at h7
    have hB9':=bstep HB5.out hB9
    have HO9:Hid (OwnS w9 w.heap.size (.slice (some ⟨q3,o3,none⟩) (k+1) cs) S∧Below w.heap.size w w9):=⟨HO.out.1.up hB9',bstep HO.out.2 hB9'⟩
    have HX9:Hid (w9.heap[w.heap.size]?=some (.cells #[.slice p n c,.slice (some ⟨q,o,none⟩) n2 c2] 26 (0,0))):=(hB9'.block _ hz1).trans HX.out
    clear hf hB9 hB9' e0 e1 e2 s3 m3 cO cK HB5
    cases xo with
    | none=>
     have er:r=none:=by
      rw [← HK.out.1]
      refine shN_stop (i:=k+1) ?_ hkl
      rw [shN_succ HS.out,HSK.out]
      (try (split <;> rfl))
     subst er
     obtain ⟨v7,e7⟩:∃ v7,xs 7=v7:=⟨_,rfl⟩
     rw [e7]
     clear h7 e7
     go_wp2
     go_ret2
     exact ⟨_,rfl,rfl,HO9.out.2⟩
    | some oo=>
     obtain ⟨p7,n7,c7,e7,h7⟩:=h7
     rw [e7]
     have HS2:Hid (shN d ls (k+1)=some (S++[oo])):=by
      show _=_
      rw [shN_succ HS.out,HSK.out,if_neg fun h=>Hns.out h.1]
      rfl
     obtain ⟨vs,hvs,hv4⟩:=HO9.out.1
     have hvl:vs.length=S.length:=by have:=hvs.1;omega
     have HV:Hid (OwnK .i64 3 w9 w.heap.size (.slice p7 n7 c7) oo∧w9.ownsRow w.heap.size 23 1 (.slice (some ⟨q3,o3,none⟩) (k+1) cs) (k+1) vs∧vs.length=S.length∧∀ i,i < S.length→∃ a b c,vs[i]?=some (.slice a b c)∧OwnK .i64 3 w9 w.heap.size (.slice a b c) (shA S i)):=⟨h7,by rw [HSL.out] at hvs;exact hvs,hvl,hv4⟩
     have hk9:k+1+1≤1073741825:=by omega
     clear h7 e7 hvs hv4 hvl HSK HN
     have H5:Hid ((w9.alloc (.cells #[.slice p7 n7 c7] 23)).ownsRow w.heap.size 23 1 (.slice (some ⟨q3,o3,none⟩) (k+1) cs) (k+1) vs):=owns_only (S:=[]) HV.out.2.1 (Only.of (up_alloc w9 _)) (by simp)
     have H6:Hid ((w9.alloc (.cells #[.slice p7 n7 c7] 23)).heap[w9.heap.size]?=some (.cells [.slice p7 n7 c7].toArray 23 (0,0))):=Array.getElem?_push_size
     have H7:Hid (∀ y∈[Value.slice p7 n7 c7],y.oneCell'=true):=fun y hy=>by simp at hy;subst hy;rfl
     have H8:Hid (w.heap.size≤(w9.alloc (.cells #[.slice p7 n7 c7] 23)).heap.size):=by show _≤_;have:=HO9.out.2.size;simp;omega
     have H9:Hid (∀ v0 w0,w0.ownsRow w.heap.size 23 1 v0 (k+1+1) (vs++[.slice p7 n7 c7])→Only [23] (w9.alloc (.cells #[.slice p7 n7 c7] 23)) w0→(∀ w',Below w.heap.size w' (w9.alloc (.cells #[.slice p7 n7 c7] 23))→Below w.heap.size w' w0)→(OwnS w0 w.heap.size v0 (S++[oo])∧Below w.heap.size w w0)∧w0.heap[w.heap.size]?=some (.cells #[.slice p n c,.slice (some ⟨q,o,none⟩) n2 c2] 26 (0,0))):=fun v0 w0 g1 g2 g3=>by
      have hb:=up_alloc w9 (.cells #[.slice p7 n7 c7] 23)
      refine ⟨⟨OwnS.push (W:=w9.alloc (.cells #[.slice p7 n7 c7] 23)) (vs:=vs) (by rw [HSL.out];exact g1) HV.out.2.2.1 (fun i hi=>?_) (HV.out.1.up hb) g2,g3 w (bstep HO9.out.2 hb)⟩,g2.keep ((hb.block _ (heap_lt HX9.out)).trans HX9.out) (by decide)⟩
      obtain ⟨a',b',c',e',h'⟩:=HV.out.2.2.2 i hi
      exact ⟨a',b',c',e',h'.up hb⟩
     clear HV HO9 HX9 HRD HO HX
     go_wp2_with (at_builtin;refine wpList_appG shT (by decide) (by decide) rfl (.tmp 43) (.tmp 45) rfl w.heap.size _ (k+1) vs rfl H5.out _ [.slice p7 n7 c7] rfl H6.out rfl H7.out hk9 H8.out ?_;intro v0 w0 H0 O0 B0)
     obtain ⟨hA,hX⟩:=H9.out v0 w0 H0.out O0.out B0.out
     have HA:Hid (OwnS w0 w.heap.size v0 (S++[oo])∧Below w.heap.size w w0):=hA
     have HXX:Hid (w0.heap[w.heap.size]?=some (.cells #[.slice p n c,.slice (some ⟨q,o,none⟩) n2 c2] 26 (0,0))):=hX
     clear hA hX H0 O0 B0 H5 H6 H7 H8 H9
     go_wp2
     go_roundg (n2 - (k+1))
     case measure=>omega
     case rel=>exact ⟨k+1,S++[oo],by omega,rfl,by first|rfl|simp,HA,HS2,HXX⟩
  ·obtain rfl:k=n2:=by omega
   have er:r=some S:=by rw [← HK.out.1,HK.out.2.1.1];exact HS.out
   subst er
   go_wp2
   go_ret2
   exact ⟨_,rfl,⟨_,rfl,by have:=HO.out.1;exact this⟩,HO.out.2⟩
theorem Shapes_any (p p2:Option Addr) (n c n2 c2:Nat) (d:List Int) (ls:List Ly) (hbig:n2≤1073741823) (w:World) (hK:Hid (Kz w)) (h1:Nums .i64 w (.slice p n c) d) (hL:LyR 0 w p2 n2 ls):
  Calls Tryz.prog 11 #[.agg #[.slice p n c,.slice p2 n2 c2]] w fun e w'=>∃ ps cs,e = .returned (.tuple #[.slice ps (nS d ls).length cs,.int .i64 (nE d ls)])∧OwnS w' w.heap.size (.slice ps (nS d ls).length cs) (nS d ls)∧Below w.heap.size w w':=by
 obtain ⟨E,eE⟩:∃ E,nE d ls=E:=⟨_,rfl⟩
 obtain ⟨SS,eS⟩:∃ S,nS d ls=S:=⟨_,rfl⟩
 have HE:Hid (nE d ls=E∧nS d ls=SS):=⟨eE,eS⟩
 rw [eE,eS]
 clear eE eS
 obtain ⟨fb,efb⟩:∃ f,formB d ls=f:=⟨_,rfl⟩
 have cN:Hid (∀ W,Below w.heap.size w W→Calls Tryz.prog 34 #[.agg #[.slice p n c,.slice p2 n2 c2]] W fun e w'=>e = .returned (.bool fb)∧Below W.heap.size W w'):=fun W hW=>by
  rw [← efb]
  exact numbersFit_any p p2 n c n2 c2 d ls (by omega) W (Hid.up_kz hK hW) (h1.up hW) (hL.up hW)
 have HF:Hid (formB d ls=fb):=efb
 have HA:Hid (Nums .i64 w (.slice p n c) d∧LyR 0 w p2 n2 ls):=⟨h1,hL⟩
 clear efb h1 hL
 go_enter Tryz.func11,Tryz.ntmps11
 go_wp2_with fail
 generalize hW0:World.alloc _ _=W0
 have HB0:Hid (Below w.heap.size w W0):=by rw [← hW0];exact up_alloc w _
 obtain ⟨g0,g1⟩:W0.cell? ⟨w.heap.size,0,none⟩=some (.slice p n c)∧W0.cell? ⟨w.heap.size,1,none⟩=some (.slice p2 n2 c2):=by rw [← hW0];simp [go_sem]
 clear hW0
 refine (cN.out W0 HB0.out).mono ?_
 rintro e w1 ⟨rfl,hB1⟩
 have HB1:Hid (Below w.heap.size w w1):=bstep HB0.out hB1
 replace g0:=still_cell hB1 g0
 replace g1:=still_cell hB1 g1
 clear hB1 cN HB0
 cases fb with
 | false=>
  have e1:E=1:=by rw [← HE.out.1];exact nE_form (by rw [HF.out];simp)
  have e2:SS = []:=by rw [← HE.out.2];exact (nE_bad (by rw [HE.out.1,e1];decide)).1
  subst e1 e2
  go_wp2
  go_ret2
  exact ⟨_,_,rfl,OwnS.nil _ _,HB1.out⟩
 | true=>
 go_wp2_with fail
 refine (shapesOf_any p p2 n c n2 c2 d ls HF.out hbig w1 (HA.out.1.up HB1.out) (HA.out.2.up HB1.out)).mono ?_
 rintro e w2 ⟨v2,rfl,hr2,hB2⟩
 have HB2:Hid (Below w.heap.size w w2):=bstep HB1.out hB2
 replace g0:=still_cell hB2 g0
 replace g1:=still_cell hB2 g1
 obtain ⟨x,ex⟩:∃ x,shN d ls ls.length=x:=⟨_,rfl⟩
 rw [ex] at hr2
 cases x with
 | none=>
  have e1:E=4:=by rw [← HE.out.1];exact nE_none HF.out ex
  have e2:SS = []:=by rw [← HE.out.2];exact (nE_bad (by rw [HE.out.1,e1];decide)).1
  have hr:v2 = .tuple #[.slice none 0 0,.bool false]:=hr2
  subst e1 e2 hr
  clear hr2 ex hB2
  go_wp2
  go_ret2
  exact ⟨_,_,rfl,OwnS.nil _ _,HB2.out⟩
 | some S=>
  obtain ⟨u,rfl,hoS⟩:=hr2
  obtain ⟨ps,cs,rfl,hrd⟩:=hoS.rd
  obtain ⟨sl,esl⟩:∃ sl,S.length=sl:=⟨_,rfl⟩
  rw [esl] at hrd hoS ⊢
  have HS:Hid (OwnS w2 w.heap.size (.slice ps sl cs) S∧S.length=sl):=⟨hoS.low HB1.out.size,esl⟩
  obtain ⟨hd0,hl0⟩:=(formB_iff d ls).1 HF.out
  have cT:=tooMuch_any p p2 ps n c n2 c2 sl cs d ls S (NetOk.of HF.out ex) (fun k hk=>shN_in hd0 hl0 (Nat.le_refl _) ex k (by rw [← shN_len ex,esl];exact hk)) (by omega) w2 (HA.out.2.up HB2.out) hrd
  obtain ⟨q,eq⟩:∃ q,tooM ls S=q:=⟨_,rfl⟩
  rw [eq] at cT
  have HQ:Hid (tooM ls S=q∧shN d ls ls.length=some S):=⟨eq,ex⟩
  clear hoS hrd esl ex hB2 eq hd0 hl0
  go_wp2_with fail
  refine cT.mono ?_
  rintro e w3 ⟨rfl,hB3⟩
  have HB3:Hid (Below w.heap.size w w3):=bstep HB2.out hB3
  have HS3:Hid (OwnS w3 w.heap.size (.slice ps sl cs) S):=HS.out.1.up hB3
  clear hB3 cT
  cases q with
  | true=>
   have e1:E=2:=by rw [← HE.out.1];exact nE_too HF.out HQ.out.2 HQ.out.1
   have e2:SS = []:=by rw [← HE.out.2];exact (nE_bad (by rw [HE.out.1,e1];decide)).1
   subst e1 e2
   go_wp2
   go_ret2
   exact ⟨_,_,rfl,OwnS.nil _ _,HB3.out⟩
  | false=>
   have h3:=nE_ok HF.out HQ.out.2 HQ.out.1
   have e1:E=0:=by rw [← HE.out.1];exact h3.1
   have e2:SS=S:=by rw [← HE.out.2];exact h3.2.1
   subst e1 e2
   clear h3
   go_wp2
   go_ret2
   rw [HS.out.2]
   exact ⟨_,_,rfl,HS3.out,HB3.out⟩
theorem Params_any (p p2:Option Addr) (n c n2 c2:Nat) (d:List Int) (ls:List Ly) (hbig:n2≤1073741823) (w:World) (hK:Hid (Kz w)) (h1:Nums .i64 w (.slice p n c) d) (hL:LyR 0 w p2 n2 ls):
  Calls Tryz.prog 12 #[.agg #[.slice p n c,.slice p2 n2 c2]] w fun e w'=>e = .returned (.tuple #[.int .i64 (nP d ls),.int .i64 (nE d ls)])∧Below w.heap.size w w':=by
 obtain ⟨E,eE⟩:∃ E,nE d ls=E:=⟨_,rfl⟩
 obtain ⟨PN,eP⟩:∃ P,nP d ls=P:=⟨_,rfl⟩
 obtain ⟨SS,eS⟩:∃ S,nS d ls=S:=⟨_,rfl⟩
 obtain ⟨sl,esl⟩:∃ sl,SS.length=sl:=⟨_,rfl⟩
 have HE:Hid (nE d ls=E∧nP d ls=PN∧nS d ls=SS∧SS.length=sl):=⟨eE,eP,eS,esl⟩
 have cS:Hid (∀ W,Below w.heap.size w W→Calls Tryz.prog 11 #[.agg #[.slice p n c,.slice p2 n2 c2]] W fun e w'=>∃ ps cs,e = .returned (.tuple #[.slice ps sl cs,.int .i64 E])∧OwnS w' W.heap.size (.slice ps sl cs) SS∧Below W.heap.size W w'):=fun W hW=>by
  have:=Shapes_any p p2 n c n2 c2 d ls hbig W (Hid.up_kz hK hW) (h1.up hW) (hL.up hW)
  rw [eE,eS,esl] at this
  exact this
 have HA:Hid (LyR 0 w p2 n2 ls):=hL
 rw [eE,eP]
 clear eE eP eS esl h1 hL
 go_enter Tryz.func12,Tryz.ntmps12
 go_wp2_with fail
 generalize hW0:World.alloc _ _=W0
 have HB0:Hid (Below w.heap.size w W0):=by rw [← hW0];exact up_alloc w _
 obtain ⟨g0,g1⟩:W0.cell? ⟨w.heap.size,0,none⟩=some (.slice p n c)∧W0.cell? ⟨w.heap.size,1,none⟩=some (.slice p2 n2 c2):=by rw [← hW0];simp [go_sem]
 clear hW0
 refine (cS.out W0 HB0.out).mono ?_
 rintro e w1 ⟨ps,cs,rfl,hoS,hB1⟩
 have HB1:Hid (Below w.heap.size w w1):=bstep HB0.out hB1
 replace g0:=still_cell hB1 g0
 replace g1:=still_cell hB1 g1
 by_cases h0:E=0
 ·subst h0
  obtain ⟨S,hf,hs,ht⟩:=net_good HE.out.1
  obtain ⟨_,h4,h5⟩:=nE_ok hf hs ht
  rw [HE.out.2.2.1] at h4
  subst h4
  obtain ⟨p',c',e',hrd⟩:=hoS.rd
  cases e'
  have cc:=countParams_any p p2 ps n c n2 c2 _ cs d ls SS (NetOk.of hf hs) (by omega) w1 (HA.out.up HB1.out) hrd
  rw [← h5,HE.out.2.1] at cc
  clear hoS hB1 hf hs ht h5 hrd cS
  go_wp2_with fail
  refine cc.mono ?_
  rintro e w2 ⟨rfl,hB2⟩
  have HB2:Hid (Below w.heap.size w w2):=bstep HB1.out hB2
  clear hB2 cc
  go_wp2
  go_ret2
  exact ⟨rfl,HB2.out⟩
 ·have hE':(E != 0)=true:=by simpa using h0
  have eP:PN=0:=by rw [← HE.out.2.1];exact (nE_bad (by rw [HE.out.1];exact h0)).2
  subst eP
  clear hoS hB1 cS
  go_wp2
  go_ret2
  exact ⟨rfl,HB1.out⟩
end Go.Proofs.YtiampagapgjedaaGreatDoor.Wd
namespace Go.Proofs.YtiampagapgjedaaGreatDoor.Wd
def blankB (b:UInt8):Bool:=b==32 || b==9 || b==10
def blankR (r:Nat):Bool:=r==32 || r==9 || r==10
/-- One step of reading: the word under way, and those that were read. -/
def spanStep (s:ByteArray) (pos:Nat) (x:List (Nat×Nat)×Option Nat):List (Nat×Nat)×Option Nat:=
 if blankB (s.get! pos) then (match x.2 with|some a=>(x.1++[(a,pos)],none)|none=>(x.1,none)) else (match x.2 with|some a=>(x.1,some a)|none=>(x.1,some pos))
/-- The first n bytes are read. -/
def spansN (s:ByteArray):Nat→List (Nat×Nat)×Option Nat
 | 0=>([],none)
 | n+1=>spanStep s n (spansN s n)
theorem spanStep_on {s:ByteArray} {pos:Nat} {x:List (Nat×Nat)×Option Nat} {a:Nat} (h:blankB (s.get! pos)=false) (hx:x.2=some a):spanStep s pos x=x:=by
 obtain ⟨l,st⟩:=x
 cases hx
 simp [spanStep,h]
theorem spansN_on {s:ByteArray} {n a:Nat} (h1:(spansN s n).2=some a):∀ k,(∀ j,j < k→blankB (s.get! (n+j))=false)→spansN s (n+k)=spansN s n
 | 0,_=>rfl
 | k+1,h=>by
  have ih:=spansN_on h1 k fun j hj=>h j (by omega)
  show spanStep s (n+k) (spansN s (n+k))=_
  rw [spanStep_on (h k (by omega)) (by rw [ih];exact h1),ih]
theorem blank_high {b:UInt8} (h:128≤b.toNat):blankB b=false:=by
 unfold blankB
 have e1:¬ b=32:=fun e=>by rw [e] at h;exact absurd h (by decide)
 have e2:¬ b=9:=fun e=>by rw [e] at h;exact absurd h (by decide)
 have e3:¬ b=10:=fun e=>by rw [e] at h;exact absurd h (by decide)
 simp [e1,e2,e3]
theorem blank_nat (b:UInt8):blankB b=blankR b.toNat:=by
 have k:∀ c:UInt8,(b==c)=(b.toNat==c.toNat):=fun c=>by
  by_cases h:b=c
  ·rw [h,beq_self_eq_true,beq_self_eq_true]
  ·rw [beq_false_of_ne h,beq_false_of_ne fun e=>h (UInt8.toNat_inj.1 e)]
 show (b==32 || b==9 || b==10)=_
 rw [k 32,k 9,k 10]
 rfl
/-- What is read of one rune: the byte itself, or bytes that are no blank. -/
theorem decode_blank (s:ByteArray) (pos:Nat) (h:pos < s.size):(∃ k,(Utf8.decode s pos).2=k+1∧pos+(k+1)≤s.size∧(∀ j,j < k→128≤(s.get! (pos+1+j)).toNat))∧blankR (Utf8.decode s pos).1=blankB (s.get! pos):=by
 rw [Lib.decode_at,blank_nat]
 generalize e0:(s.get! pos).toNat=b0
 generalize e1:(s.get! (pos+1)).toNat=b1
 generalize e2:(s.get! (pos+2)).toNat=b2
 generalize e3:(s.get! (pos+3)).toNat=b3
 have hi:∀ b r:Nat,128≤b→128≤r→blankR r=blankR b:=fun b r h1 h2=>by
  have k:∀ x:Nat,128≤x→blankR x=false:=fun x hx=>by
   unfold blankR
   have q1:¬ x=32:=by omega
   have q2:¬ x=9:=by omega
   have q3:¬ x=10:=by omega
   simp [q1,q2,q3]
  rw [k b h1,k r h2]
 have g1:∀ j,j < 1→s.get! (pos+1+j)=s.get! (pos+1):=fun j hj=>by rw [show pos+1+j=pos+1 by omega]
 unfold Lib.decodeN
 split
 ·exact ⟨⟨0,rfl,by omega,fun j hj=>by omega⟩,rfl⟩
 split
 ·rename_i hA hB
  split
  ·rename_i hC
   exact ⟨⟨1,rfl,by omega,fun j hj=>by rw [g1 j hj,e1];omega⟩,hi _ _ (by omega) (by omega)⟩
  ·exact ⟨⟨0,rfl,by omega,fun j hj=>by omega⟩,hi _ _ (by omega) (by omega)⟩
 split
 ·rename_i hA _ hB
  split
  ·rename_i hC
   refine ⟨⟨2,rfl,by omega,fun j hj=>?_⟩,hi _ _ (by omega) (by omega)⟩
   rcases (show j=0∨j=1 by omega) with rfl|rfl
   ·rw [show pos+1+0=pos+1 by omega,e1];omega
   ·rw [show pos+1+1=pos+2 by omega,e2];omega
  ·exact ⟨⟨0,rfl,by omega,fun j hj=>by omega⟩,hi _ _ (by omega) (by omega)⟩
 split
 ·rename_i hA _ _ hB
  split
  ·rename_i hC
   refine ⟨⟨3,rfl,by omega,fun j hj=>?_⟩,hi _ _ (by omega) (by omega)⟩
   rcases (show j=0∨j=1∨j=2 by omega) with rfl|rfl|rfl
   ·rw [show pos+1+0=pos+1 by omega,e1];omega
   ·rw [show pos+1+1=pos+2 by omega,e2];omega
   ·rw [show pos+1+2=pos+3 by omega,e3];omega
  ·exact ⟨⟨0,rfl,by omega,fun j hj=>by omega⟩,hi _ _ (by omega) (by omega)⟩
 ·exact ⟨⟨0,rfl,by omega,fun j hj=>by omega⟩,hi _ _ (by omega) (by omega)⟩
theorem spans_same (s:ByteArray):∀ (f pos:Nat),s.size - pos≤f→pos≤s.size→Lib.spansFromP blankR s f pos (spansN s pos).2 (spansN s pos).1=spansN s s.size
 | 0,pos,hf,hp=>by
  obtain rfl:pos=s.size:=by omega
  rfl
 | f+1,pos,hf,hp=>by
  by_cases h:pos < s.size
  ·obtain ⟨⟨k,ek,hk,hj⟩,eb⟩:=decode_blank s pos h
   have hlt:¬ ((spansN s (pos+1)).2=none)→spansN s (pos+(k+1))=spansN s (pos+1):=fun hn=>by
    cases hst:(spansN s (pos+1)).2 with
    | none=>exact absurd hst hn
    | some a=>rw [show pos+(k+1)=pos+1+k by omega];exact spansN_on hst k fun j hj'=>blank_high (hj j hj')
   have ih:=spans_same s f (pos+(k+1)) (by omega) hk
   have es:spansN s (pos+1)=spanStep s pos (spansN s pos):=rfl
   unfold Lib.spansFromP
   rw [if_pos h,eb,ek]
   cases hb:blankB (s.get! pos) with
   | false=>
    have hst:(spansN s (pos+1)).2≠none:=by
     rw [es];unfold spanStep;rw [hb]
     cases (spansN s pos).2 <;> simp
    rw [hlt hst,es] at ih
    unfold spanStep at ih
    rw [hb] at ih
    cases hs:(spansN s pos).2 with
    | none=>rw [hs] at ih;simpa using ih
    | some a=>rw [hs] at ih;simpa using ih
   | true=>
    have h0:k=0:=by
     have hl:(s.get! pos).toNat < 128:=by
      rcases Nat.lt_or_ge (s.get! pos).toNat 128 with h|h
      ·exact h
      ·rw [blank_high h] at hb;cases hb
     have:(Utf8.decode s pos).2=1:=by rw [Lib.decode_at];unfold Lib.decodeN;rw [if_pos hl]
     omega
    subst h0
    rw [show pos+(0+1)=pos+1 by omega,es] at ih
    unfold spanStep at ih
    rw [hb] at ih
    cases hs:(spansN s pos).2 with
    | none=>rw [hs] at ih;simpa using ih
    | some a=>rw [hs] at ih;simpa using ih
  ·obtain rfl:pos=s.size:=by omega
   rw [Lib.spansFromP_end _ _ _ _ _ _ h]
/-- A text's words. -/
def wordsB (s:ByteArray):List ByteArray:=(Lib.closeSpans s (spansN s s.size)).map fun x=>s.extract x.1 x.2
theorem words_same (s:ByteArray):Lib.goFieldsP blankR s=wordsB s:=by
 unfold Lib.goFieldsP Lib.spansOfP wordsB
 rw [← spans_same s s.size 0 (by omega) (by omega)]
 rfl
def kIn:ByteArray:=⟨#[105,110]⟩
def digB (b:UInt8):Bool:=decide (48≤b.toNat∧b.toNat≤57)
def numV (w:ByteArray):Nat→Int
 | 0=>0
 | i+1=>numV w i*10+(((w.get! i).toNat:Int) - 48)
abbrev NumF (w:ByteArray):Prop:=(1≤w.size∧w.size≤4)∧¬ (1 < w.size∧(w.get! 0).toNat=48)
def allDig (w:ByteArray):Nat→Bool
 | 0=>true
 | i+1=>allDig w i && digB (w.get! i)
/-- A number in a text. -/
def numB (w:ByteArray):Option Int:=if NumF w∧allDig w w.size=true then some (numV w w.size) else none
theorem allDig_le {w:ByteArray} {n:Nat} (h:allDig w n=true):∀ {i},i < n→digB (w.get! i)=true:=by
 induction n with
 | zero=>intro i hi;omega
 | succ n ih=>
  simp only [allDig,Bool.and_eq_true] at h
  intro i hi
  rcases Nat.lt_succ_iff_lt_or_eq.1 hi with h2|rfl
  ·exact ih h.1 h2
  ·exact h.2
theorem numV_rng {w:ByteArray}:∀ {n:Nat},allDig w n=true→0≤numV w n∧numV w n≤10 ^ n - 1
 | 0,_=>by simp [numV]
 | n+1,h=>by
  simp only [allDig,Bool.and_eq_true] at h
  have ih:=numV_rng h.1
  have hd:=of_decide_eq_true h.2
  simp only [numV]
  have e:(10:Int) ^ (n+1)=10 ^ n*10:=Int.pow_succ 10 n
  omega
theorem numV_small {w:ByteArray} {n:Nat} (hn:n≤4) (h:allDig w n=true):0≤numV w n∧numV w n≤9999:=by
 have:=numV_rng h
 rcases (show n=0∨n=1∨n=2∨n=3∨n=4 by omega) with rfl|rfl|rfl|rfl|rfl <;> omega
/-- Numbers ahead, at most so many, and the words behind them. -/
def numsA:List ByteArray→Nat→List Int×List ByteArray
 | [],_=>([],[])
 | w :: r,0=>([],w :: r)
 | w :: r,m+1=>match numB w with
  | some v=>(v :: (numsA r m).1,(numsA r m).2)
  | none=>([],w :: r)
theorem numsA_len:∀ (ws:List ByteArray) (m:Nat),(numsA ws m).1.length≤m∧(numsA ws m).2.length+(numsA ws m).1.length=ws.length
 | [],m=>by simp [numsA]
 | w :: r,0=>by simp [numsA]
 | w :: r,m+1=>by
  have:=numsA_len r m
  simp only [numsA]
  cases numB w with
  | none=>simp
  | some v=>simp only [List.length_cons];omega
theorem numsA_zero (ws:List ByteArray):numsA ws 0=([],ws):=by cases ws <;> rfl
theorem numsA_some {w:ByteArray} {r:List ByteArray} {m:Nat} {v:Int} (h:numB w=some v):numsA (w :: r) (m+1)=(v :: (numsA r m).1,(numsA r m).2):=by simp only [numsA,h]
theorem numsA_none {w:ByteArray} {r:List ByteArray} {m:Nat} (h:numB w=none):numsA (w :: r) (m+1)=([],w :: r):=by simp only [numsA,h]
/-- The layers of so many words. -/
def parL:Nat→List ByteArray→Option (List Ly)
 | 0,_=>some []
 | _+1,[]=>some []
 | f+1,w :: r=>if kindI w=5∨(numsA r (kCnt (kindI w))).1.length≠kCnt (kindI w) then none else (parL f (numsA r (kCnt (kindI w))).2).map fun ls=>(w,(numsA r (kCnt (kindI w))).1.getD 0 0,(numsA r (kCnt (kindI w))).1.getD 1 0) :: ls
theorem parL_fuel:∀ (f g:Nat) (ws:List ByteArray),ws.length≤f→ws.length≤g→parL f ws=parL g ws
 | 0,0,_,_,_=>rfl
 | 0,g+1,[],_,_=>rfl
 | 0,g+1,w :: r,h,_=>by simp at h
 | f+1,0,[],_,_=>rfl
 | f+1,0,w :: r,_,h=>by simp at h
 | f+1,g+1,[],_,_=>rfl
 | f+1,g+1,w :: r,h1,h2=>by
  have:=(numsA_len r (kCnt (kindI w))).2
  simp only [List.length_cons] at h1 h2
  unfold parL
  rw [parL_fuel f g _ (by omega) (by omega)]
def parW (ws:List ByteArray):Option (List Int×List Ly):=match ws with
 | []=>none
 | w :: r=>if w=kIn∧(numsA r 2).1≠[] then (parL (numsA r 2).2.length (numsA r 2).2).map fun ls=>((numsA r 2).1,ls) else none
/-- What Parse answers. -/
def pE (s:ByteArray):Int:=if 16384 < s.size then 2 else match parW (wordsB s) with
 | none=>7
 | some x=>nE x.1 x.2
def pX (s:ByteArray):List Int×List Ly:=if pE s=0 then (parW (wordsB s)).getD ([],[]) else ([],[])
/-- What is written of a net. -/
def dgB (x:Int):ByteArray:=⟨(Lib.decDigits x.toNat).toArray⟩
def lyW (l:Ly):List ByteArray:=l.1 :: (if kindI l.1=1 then [dgB l.2.1,dgB l.2.2] else if kindI l.1 < 4 then [dgB l.2.1] else [])
def netW (d:List Int) (ls:List Ly):List ByteArray:=kIn :: (d.map dgB++ls.flatMap lyW)
def joinW (ws:List ByteArray):ByteArray:=⟨(Lib.join (ws.map (·.data.toList)) [32]).toArray⟩
def netT (d:List Int) (ls:List Ly):ByteArray:=if nE d ls=0 then joinW (netW d ls) else ⟨#[]⟩
end Go.Proofs.YtiampagapgjedaaGreatDoor.Wd
namespace Go.Proofs.YtiampagapgjedaaGreatDoor.Wd
open Go.RowKit
/-- A byte of a text, as the walk reads it. -/
theorem byte_run (s:ByteArray) (i:Nat) (h:i < s.size) (x:Int) (hx:(((s.get! i).toNat:Nat):Int)=x) (W:World):(Instr.index 9 (.string s) (.int .i64 (i:Int))).run Tryz.prog W = .ok (.int .u8 x) W:=by
 rw [run_index_string (P:=Tryz.prog) W 9 s .i64 (i:Int) Tryz.underlying9,dif_pos ⟨by omega,by omega⟩,← hx]
 have e:s[(i:Int).toNat]'(by simpa using h)=s.get! i:=by
  have h2:(i:Int).toNat=i:=by simp
  simp only [h2]
  exact (getElem!_pos s.data i h).symm
 rw [e]
theorem numberOf_any (s:ByteArray) (w:World):
  Calls Tryz.prog 94 #[.string s] w fun e w'=>e = .returned (.tuple #[.int .i64 ((numB s).getD 0),.bool (numB s).isSome])∧w'=w:=by
 obtain ⟨r,er⟩:∃ r,numB s=r:=⟨_,rfl⟩
 have HR:Hid (numB s=r):=er
 rw [er]
 clear er
 obtain ⟨n,en⟩:∃ n,s.size=n:=⟨_,rfl⟩
 have HN:Hid (s.size=n):=en
 go_enter Tryz.func94,Tryz.ntmps94
 by_cases h0:n=0
 ·subst h0
  have e:r=none:=by rw [← HR.out];unfold numB;rw [if_neg fun h=>by have:=h.1.1.1;omega]
  subst e
  have en':((s.size:Nat):Int)=0:=by rw [en];rfl
  go_wp2
  go_ret2
  exact ⟨rfl,rfl⟩
 have g0:((n:Int)==0)=false:=by simpa using (show (n:Int)≠0 by omega)
 by_cases h4:4 < n
 ·have h4':(4:Int) < (n:Int):=by omega
  have e:r=none:=by rw [← HR.out];unfold numB;rw [if_neg fun h=>by have:=h.1.1.2;omega]
  subst e
  go_wp2
  go_ret2
  exact ⟨rfl,rfl⟩
 have h4':(n:Int)≤4:=by omega
 obtain ⟨b0,eb0⟩:∃ x,(((s.get! 0).toNat:Nat):Int)=x:=⟨_,rfl⟩
 have hb0:=byte_run s 0 (by omega) b0 eb0
 rw [show ((0:Nat):Int)=0 from rfl] at hb0
 have HZ:Hid (numB s=if ¬ (1 < n∧b0=48)∧allDig s n=true then some (numV s n) else none):=by
  show _=_
  subst en
  unfold numB
  by_cases hc:1 < s.size∧b0=48
  ·rw [if_neg,if_neg fun h=>h.1 hc]
   intro h
   exact h.1.2 ⟨by omega,by have:=hc.2;omega⟩
  ·by_cases hd:allDig s s.size=true
   ·rw [if_pos ⟨⟨⟨by omega,by omega⟩,fun h=>hc ⟨by omega,by have:=h.2;omega⟩⟩,hd⟩,if_pos ⟨hc,hd⟩]
   ·rw [if_neg fun h=>hd h.2,if_neg fun h=>hd h.2]
 clear eb0
 by_cases hc:1 < n∧b0=48
 ·have e:r=none:=by rw [← HR.out,HZ.out,if_neg fun h=>h.1 hc]
  obtain ⟨hc1,hc2⟩:=hc
  subst e hc2
  have hc1':(1:Int) < (n:Int):=by omega
  clear HZ HR
  go_wp2
  go_ret2
  exact ⟨rfl,rfl⟩
 have HZ2:Hid (r=if allDig s n=true then some (numV s n) else none):=by
  show _=_
  rw [← HR.out,HZ.out]
  by_cases hd:allDig s n=true
  ·rw [if_pos ⟨hc,hd⟩,if_pos hd]
  ·rw [if_neg fun h=>hd h.2,if_neg hd]
 have hway:(n:Int)≤1∨(1 < (n:Int)∧(b0==48)=false):=by
  rcases Nat.lt_or_ge 1 n with h|h
  ·exact .inr ⟨by omega,by simpa using fun e=>hc ⟨h,e⟩⟩
  ·exact .inl (by omega)
 clear HZ hc HR
 rcases hway with hn1|⟨hn1,hb48⟩
 all_goals
  go_wp2_with fail
  go_loopg [4,26] n (fun gg u v wr=>∃ (k:Nat) (x:Int),k≤n∧gg=n - k∧u = .int .i64 x∧v = .int .i64 (k:Int)∧Hid (x=numV s k∧allDig s k=true)∧wr=w)
  case atStart=>exact ⟨0,0,by omega,by omega,rfl,rfl,⟨rfl,rfl⟩,rfl⟩
  case round=>
   obtain ⟨k,x,hk,hg,rfl,rfl,Hx,rfl⟩:=hrel
   by_cases hkn:k < n
   ·have hk':(k:Int) < (n:Int):=by omega
    obtain ⟨b,eb⟩:∃ b,(((s.get! k).toNat:Nat):Int)=b:=⟨_,rfl⟩
    have hb:=byte_run s k (by omega) b eb
    have hbr:0≤b∧b≤255:=by
     have:=(s.get! k).toNat_lt
     omega
    have hxr:=numV_small (show k≤4 by omega) Hx.out.2
    rw [← Hx.out.1] at hxr
    have Hb:Hid ((((s.get! k).toNat:Nat):Int)=b):=eb
    clear eb
    by_cases h48:b < 48
    ·have e:r=none:=by
      rw [HZ2.out,if_neg fun h=>?_]
      have:=of_decide_eq_true (allDig_le h hkn)
      have:=Hb.out
      omega
     subst e
     clear HZ2
     go_wp2
     go_ret2
     exact ⟨rfl,rfl⟩
    by_cases h57:57 < b
    ·have e:r=none:=by
      rw [HZ2.out,if_neg fun h=>?_]
      have:=of_decide_eq_true (allDig_le h hkn)
      have:=Hb.out
      omega
     subst e
     have h48':48≤b:=by omega
     clear HZ2
     go_wp2
     go_ret2
     exact ⟨rfl,rfl⟩
    have h48':48≤b:=by omega
    have h57':b≤57:=by omega
    obtain ⟨y,ey⟩:∃ y,x*10+(b - 48)=y:=⟨_,rfl⟩
    have HY:Hid (y=numV s (k+1)∧allDig s (k+1)=true):=by
     refine ⟨by rw [← ey,Hx.out.1,← Hb.out];rfl,?_⟩
     simp only [allDig,Hx.out.2,Bool.true_and]
     exact decide_eq_true (by have:=Hb.out;omega)
    go_wp2
    go_roundg (n - (k+1))
    case measure=>omega
    case rel=>exact ⟨k+1,y,by omega,rfl,by first|rfl|simp [ey],by first|rfl|simp,HY,rfl⟩
   ·obtain rfl:k=n:=by omega
    have e:r=some x:=by rw [HZ2.out,if_pos Hx.out.2,Hx.out.1]
    subst e
    clear HZ2
    go_wp2
    go_ret2
    exact ⟨rfl,rfl⟩
end Go.Proofs.YtiampagapgjedaaGreatDoor.Wd
