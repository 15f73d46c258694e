/- The code's canSkip; whether a shape of a -/
import Derived.Test.YtihjnbbhpojnpaaGreatDoorQ02
import Derived.Laws.CopyOwn
import Derived.Shelf.Strings.Builder1
import Derived.Shelf.Strings.Builder2
import Derived.Shelf.Strings.OnBuilder
import Derived.Shelf.Small.Bits
import Derived.Shelf.Strconv.Itoa0
import Derived.Shelf.Strconv.Itoa1
import Derived.Shelf.LaysM
import Derived.Shelf.Strconv.Itoa2
import Derived.Shelf.Strconv.Itoa3
import Derived.Shelf.Bits.Mul64
import Derived.Shelf.Strings.FieldsFuncAny
import Derived.Shelf.Slices.Equal
import Derived.Ground.Names2Prog
import Derived.Shelf.Slices.Clone
import Derived.Shelf.Slices.Empties2
import Derived.Ground.SlgnProg
import Derived.Shelf.SlicesE.Clone
set_option linter.unusedVariables false
set_option linter.unusedSimpArgs false
set_option maxHeartbeats 16000000
set_option maxRecDepth 16000
namespace Go.Proofs.YtihjnbbhpojnpaaGreatDoor.Wd
open Go.RowKit
theorem canSkip_any (p2 ps:Option Addr) (n2 c2 ns cs:Nat) (ls:List Ly) (S:List (List Int)) (i:Nat) (hi:i < ns) (hi2:i < n2) (hbig:n2≤1073741824) (hin:∀ k,k < ns→(shA S k).length≤4) (w:World) (hL:LyR 0 w p2 n2 ls) (hS:RdS w ps ns S):
  Calls Tryz.prog 53 #[.slice p2 n2 c2,.slice ps ns cs,.int .i64 (i:Int)] w fun e w'=>e = .returned (.bool (decide (SkipOk ls S i)))∧∃ m,w'=w.drewN m:=by
 obtain ⟨r,er⟩:∃ r,decide (SkipOk ls S i)=r:=⟨_,rfl⟩
 have HR:Hid (decide (SkipOk ls S i)=r):=er
 rw [er]
 clear er
 cases i with
 | zero=>
  have e:r=false:=by rw [← HR.out];exact decide_eq_false fun h=>absurd h.1 (by omega)
  subst e
  clear hL hS hin HR
  rw [show ((0:Nat):Int)=0 from rfl]
  go_enter Tryz.func53,Tryz.ntmps53
  go_wp2
  go_quiet (fail)
  go_wp2
  go_ret
  exact ⟨rfl,_,rfl⟩
 | succ j=>
  rw [show ((j+1:Nat):Int)=(j:Int)+1 by omega]
  obtain ⟨q,o,rfl,c0,-,-⟩:=hL.2 j (by omega)
  obtain ⟨x,ex⟩:∃ x,(lyA ls j).1=x:=⟨_,rfl⟩
  rw [ex] at c0
  obtain ⟨-,-,-,-,t4⟩:=kts x
  have hj0:(0:Int) < (j:Int)+1:=by omega
  have hj2:(j:Int) < (n2:Int):=by omega
  have hjs:(j:Int)+1 < (ns:Int):=by omega
  have hjs':(j:Int) < (ns:Int):=by omega
  have hjr:(j:Int)+1≤9223372036854775807:=by omega
  have hjw:IntKind.i64.wrap (j:Int)=(j:Int):=by rw [IntKind.wrap_i64];omega
  by_cases hk:kindI x=4
  ·have e:r=false:=by rw [← HR.out];exact decide_eq_false fun h=>h.2.1 (by simp only [Nat.add_sub_cancel];rw [ex];exact (kskip x).2 hk)
   subst e
   replace t4:=t4.trans (decide_eq_true hk)
   have t5:(x.toList != [115,107,105,112])=false:=by rw [bne,t4];rfl
   clear hL hS hin HR ex hk
   go_enter Tryz.func53,Tryz.ntmps53
   go_wp2
   go_quiet (fail)
   go_wp2
   go_ret
   exact ⟨rfl,_,rfl⟩
  ·replace t4:=t4.trans (decide_eq_false hk)
   have t5:(x.toList != [115,107,105,112])=true:=by rw [bne,t4];rfl
   obtain ⟨q1,o1,a1,b1,d1,rfl,s1,m1⟩:=hS.2 j (by omega)
   obtain ⟨q2,o2,a2,b2,d2,e2,s2,m2⟩:=hS.2 (j+1) hi
   cases e2
   have ce:Hid (∀ m,Calls Tryz.prog 68 #[.slice a1 b1 d1,.slice a2 b2 d2] (w.drewN m) fun e w'=>e = .returned (.bool r)∧∃ m',w'=w.drewN m'):=fun m=>by
    have hB:Below w.heap.size w (w.drewN m):=below_drew (Below.refl _ _) m
    have hr:decide (shA S j=shA S (j+1))=r:=by
     rw [← HR.out]
     exact decide_eq_decide.2 ⟨fun h=>⟨by omega,by simp only [Nat.add_sub_cancel];rw [ex];exact fun h=>hk ((kskip x).1 h),h⟩,fun h=>h.2.2⟩
    have:=equal_any _ _ (shA S j) (shA S (j+1)) (by have:=hin j (by omega);omega) _ (m1.up hB) (m2.up hB)
    rw [hr] at this
    exact this.mono fun e w' ⟨h1,m',h2⟩=>⟨h1,m+m',by rw [h2,drewN_add]⟩
   clear hL hS hin HR ex hk m1 m2
   go_enter Tryz.func53,Tryz.ntmps53
   go_wp2
   go_quiet (with_reducible exact ce.out _)
   go_wp2
   go_ret
   exact ⟨rfl,_,rfl⟩
/-- Is a shape of a row of them too great? -/
theorem bigS_all {S:List (List Int)} {n:Nat} (hn:S.length=n) (h:∀ i,i < n→decide (4096 < prodI (shA S i))=false):bigS S=false:=by
 unfold bigS
 rw [List.any_eq_false]
 intro s hs
 obtain ⟨i,hi,rfl⟩:=List.getElem_of_mem hs
 have:=h i (by omega)
 unfold shA at this
 rw [List.getD_eq_getElem?_getD,List.getElem?_eq_getElem hi] at this
 simpa using this
theorem shA_mem {S:List (List Int)} {i:Nat} (h:i < S.length):shA S i∈S:=by
 unfold shA
 rw [List.getD_eq_getElem?_getD,List.getElem?_eq_getElem h]
 exact List.getElem_mem _
theorem bigS_at {S:List (List Int)} {i:Nat} (hi:i < S.length) (h:decide (4096 < prodI (shA S i))=true):bigS S=true:=by
 unfold bigS
 rw [List.any_eq_true]
 exact ⟨_,shA_mem hi,h⟩
theorem indexF_any (p:Option Addr) (n c:Nat) (S:List (List Int)) (hsm:∀ i,i < n→Smal (shA S i)) (hn:n≤2147483648) (w:World) (hS:RdS w p n S):
  Calls Tryz.prog 69 #[.slice p n c,.func (.func 56) #[] #[]] w fun e w'=>∃ x:Int,e = .returned (.int .i64 x)∧decide (0≤x)=bigS S∧w'=w:=by
 have hEnt:∀ args W,(callFunc 56 args).run Tryz.prog W = .ok (.enter 56 args) W:=by intro args W;kernel_rfl
 have HS:Hid (RdS w p n S):=hS
 have HM:Hid (∀ i,i < n→Smal (shA S i)):=hsm
 clear hS hsm
 go_enter Tryz.func69,Tryz.ntmps69
 go_wp2_with fail
 go_loopg [8] n (fun gg v wr=>∃ (k:Nat),k≤n∧gg=n - k∧v = .int .i64 (k:Int)∧Hid (∀ i,i < k→decide (4096 < prodI (shA S i))=false)∧wr=w)
 case atStart=>exact ⟨0,by omega,by omega,rfl,fun i hi=>by omega,rfl⟩
 case round=>
  obtain ⟨k,hk,hg,rfl,Hx,rfl⟩:=hrel
  by_cases hkn:k < n
  ·have hk':(k:Int) < (n:Int):=by omega
   obtain ⟨q,o,a,b,d,rfl,s1,m1⟩:=HS.out.2 k hkn
   obtain ⟨qb,eqb⟩:∃ qb,decide (4096 < prodI (shA S k))=qb:=⟨_,rfl⟩
   have ct:=ctoo_any _ _ (HM.out k hkn) wr m1
   rw [eqb] at ct
   clear m1
   go_wp2_with fail
   refine ct.mono ?_
   rintro e w1 ⟨rfl,rfl⟩
   clear ct
   cases qb with
   | true=>
    have Hb:Hid (bigS S=true):=bigS_at (by rw [HS.out.1];exact hkn) eqb
    clear eqb
    go_wp2
    go_ret
    exact ⟨_,rfl,by rw [Hb.out];simp,rfl⟩
   | false=>
    have HN:Hid (∀ i,i < k+1→decide (4096 < prodI (shA S i))=false):=fun i hi=>by
     rcases Nat.lt_succ_iff_lt_or_eq.1 hi with h2|rfl
     ·exact Hx.out i h2
     ·exact eqb
    clear eqb
    go_wp2
    go_roundg (n - (k+1))
    case measure=>omega
    case rel=>exact ⟨k+1,by omega,rfl,by first|rfl|simp,HN,rfl⟩
  ·obtain rfl:k=n:=by omega
   have Hb:Hid (bigS S=false):=bigS_all HS.out.1 Hx.out
   go_wp2
   go_ret
   exact ⟨_,rfl,by rw [Hb.out];rfl,rfl⟩
theorem containsF_any (p:Option Addr) (n c:Nat) (S:List (List Int)) (hsm:∀ i,i < n→Smal (shA S i)) (hn:n≤2147483648) (w:World) (hS:RdS w p n S):
  Calls Tryz.prog 55 #[.slice p n c,.func (.func 56) #[] #[]] w fun e w'=>e = .returned (.bool (bigS S))∧w'=w:=by
 have ci:=indexF_any p n c S hsm hn w hS
 obtain ⟨r,er⟩:∃ r,bigS S=r:=⟨_,rfl⟩
 rw [er] at ci ⊢
 clear hS hsm er
 go_enter Tryz.func55,Tryz.ntmps55
 go_wp2_with fail
 refine ci.mono ?_
 rintro e w1 ⟨x,rfl,hx,rfl⟩
 have HX:Hid (decide (0≤x)=r):=hx
 clear ci hx
 go_wp2
 go_ret
 rw [← HX.out]
 exact ⟨rfl,rfl⟩
/-- What a good net's shapes are, as the walks below want them. -/
structure NetOk (d:List Int) (ls:List Ly) (S:List (List Int)):Prop where
 lay:∀ k,k < ls.length→LayOk (lyA ls k)
 inn:∀ k,k < ls.length→InOk (shA S k)
 fit:∀ k,k < ls.length→kindI (lyA ls k).1=1→(shA S k).length=2
 len:S.length=ls.length+1
theorem out_fit {l:Ly} {d o:List Int} (h:outD l d=some o) (hk:kindI l.1=1):d.length=2:=by
 unfold outD at h
 rw [hk] at h
 simp at h
 exact h.1.1
theorem shN_pre {d:List Int} {ls:List Ly}:∀ {n i:Nat} {S:List (List Int)},shN d ls n=some S→i≤n→∃ S',shN d ls i=some S'∧∀ k,k < i+1→shA S k=shA S' k
 | 0,i,S,h,hi=>by
  obtain rfl:i=0:=by omega
  exact ⟨S,h,fun _ _=>rfl⟩
 | n+1,i,S,h,hi=>by
  rcases Nat.lt_or_ge i (n+1) with h1|h1
  ·cases hs:shN d ls n with
   | none=>rw [shN_stop hs (Nat.le_succ n)] at h;cases h
   | some S0=>
    rw [shN_succ hs] at h
    obtain ⟨o,rfl,_⟩:=stepS_pre h
    obtain ⟨S',h2,h3⟩:=shN_pre hs (show i≤n by omega)
    exact ⟨S',h2,fun k hk=>by rw [shA_app _ (by rw [shN_len hs];omega)];exact h3 k hk⟩
  ·obtain rfl:i=n+1:=by omega
   exact ⟨S,h,fun _ _=>rfl⟩
theorem NetOk.of {d:List Int} {ls:List Ly} {S:List (List Int)} (hf:formB d ls=true) (h:shN d ls ls.length=some S):NetOk d ls S:=by
 obtain ⟨h1,h2⟩:=(formB_iff d ls).1 hf
 refine ⟨fun k hk=>h2 _ (lyA_mem hk),fun k hk=>shN_in h1 h2 (Nat.le_refl _) h k (by omega),fun k hk hc=>?_,shN_len h⟩
 obtain ⟨S1,e1,g1⟩:=shN_pre h (show k+1≤ls.length by omega)
 obtain ⟨S0,e0,g0⟩:=shN_pre e1 (show k≤k+1 by omega)
 rw [shN_succ e0] at e1
 obtain ⟨o,_,ho⟩:=stepS_pre e1
 rw [g1 k (by omega),g0 k (by omega)]
 exact out_fit ho hc
theorem parD_smal {l:Ly} {d:List Int} (hl:LayOk l) (hd:InOk d):∀ i,i < (parD l d).length→Smal (shA (parD l d) i):=by
 have hp:=hd.prod
 unfold parD
 rcases layOk_cases hl with ⟨-,k,h1,h2⟩|⟨-,k,h1,h2⟩|⟨-,k,h1,h2⟩|⟨-,k,h1,h2⟩|⟨-,k,h1,h2⟩ <;> rw [k] <;> intro i hi <;> simp at hi
 ·have:=mprod_rng h1 hp
  rcases (show i=0∨i=1 by omega) with rfl|rfl
  ·refine ⟨by simp [shA],fun k hk=>?_⟩
   rcases (show k=0∨k=1∨k=2 by simp [shA] at hk;omega) with rfl|rfl|rfl <;> simp [shA,prodI] <;> (try change _≤l.2.1*prodI d∧l.2.1*prodI d≤_) <;> omega
  ·refine ⟨by simp [shA],fun k hk=>?_⟩
   rcases (show k=0∨k=1 by simp [shA] at hk;omega) with rfl|rfl <;> simp [shA,prodI] <;> omega
 ·subst hi
  have h0:0≤d.getD 0 0∧d.getD 0 0≤1024:=by rcases hd with ⟨x,rfl,h⟩|⟨x,y,rfl,hx,hy⟩ <;> simp <;> omega
  have h01:0≤l.2.1*d.getD 0 0∧l.2.1*d.getD 0 0≤16*1024:=⟨Int.mul_nonneg (by omega) (by omega),Int.mul_le_mul h1.2 h0.2 h0.1 (by omega)⟩
  have h02:0≤l.2.1*d.getD 0 0*l.2.2∧l.2.1*d.getD 0 0*l.2.2≤16*1024*16:=⟨Int.mul_nonneg h01.1 (by omega),Int.mul_le_mul h01.2 h2.2 (by omega) (by omega)⟩
  simp only [if_neg (show ¬ (1:Nat)=0 by omega),if_true]
  refine ⟨by simp [shA],fun k hk=>?_⟩
  generalize d.getD 0 0=e at h0 h01 h02 hk ⊢
  rcases (show k=0∨k=1∨k=2∨k=3 by simp [shA] at hk;omega) with rfl|rfl|rfl|rfl <;> simp [shA,prodI] <;> omega
def sumP (P:List (List Int)):Nat→Int
 | 0=>0
 | j+1=>sumP P j+prodI (shA P j)
theorem sumP_psz {l:Ly} {d:List Int}:sumP (parD l d) (parD l d).length=psz l d:=by
 unfold parD psz
 by_cases h0:kindI l.1=0
 ·rw [if_pos h0,if_pos h0]
  simp [sumP,shA,prodI_two,prodI_one]
 rw [if_neg h0,if_neg h0]
 by_cases h1:kindI l.1=1
 ·rw [if_pos h1,if_pos h1]
  simp [sumP,shA,prodI_three]
 ·rw [if_neg h1,if_neg h1]
  rfl
theorem sumP_rng {l:Ly} {d:List Int} (hl:LayOk l) (hd:InOk d):∀ j,j≤(parD l d).length→0≤sumP (parD l d) j∧sumP (parD l d) j≤1049600:=by
 intro j hj
 have hz:=psz_rng hd hl
 rw [← sumP_psz] at hz
 have hp:=hd.prod
 unfold parD at hj hz ⊢
 by_cases h0:kindI l.1=0
 ·rw [if_pos h0] at hj hz ⊢
  rcases layOk_cases hl with ⟨-,k,h1,h2⟩|⟨-,k,h1,h2⟩|⟨-,k,h1,h2⟩|⟨-,k,h1,h2⟩|⟨-,k,h1,h2⟩ <;> rw [h0] at k <;> try cases k
  have:=mprod_rng h1 hp
  rcases (show j=0∨j=1∨j=2 by simp at hj;omega) with rfl|rfl|rfl <;> simp [sumP,shA,prodI_two,prodI_one] <;> omega
 rw [if_neg h0] at hj hz ⊢
 by_cases h1:kindI l.1=1
 ·rw [if_pos h1] at hj hz ⊢
  rcases (show j=0∨j=1 by simp at hj;omega) with rfl|rfl
  ·simp [sumP]
  ·exact hz
 ·rw [if_neg h1] at hj hz ⊢
  obtain rfl:j=0:=by simp at hj;omega
  simp [sumP]
theorem parD_len (l:Ly) (d:List Int):(parD l d).length≤2:=by
 unfold parD
 split
 ·simp
 split <;> simp
theorem countParams_any (p p2 ps:Option Addr) (n c n2 c2 ns cs:Nat) (d:List Int) (ls:List Ly) (S:List (List Int)) (ok:NetOk d ls S) (hbig:n2≤1073741824) (w:World) (hL:LyR 0 w p2 n2 ls) (hS:RdS w ps ns S):
  Calls Tryz.prog 24 #[.agg #[.slice p n c,.slice p2 n2 c2],.slice ps ns cs] w fun e w'=>e = .returned (.int .i64 (cntP ls S ls.length))∧Below w.heap.size w w':=by
 haveI:Nonempty World:=⟨w⟩
 obtain ⟨r,er⟩:∃ r,cntP ls S ls.length=r:=⟨_,rfl⟩
 have HR:Hid (cntP ls S ls.length=r):=er
 have HK:Hid (NetOk d ls S∧LyR 0 w p2 n2 ls∧RdS w ps ns S):=⟨ok,hL,hS⟩
 have hns:ns=n2+1:=by rw [← hS.1,ok.len,hL.1]
 subst hns
 rw [er]
 clear er ok hL hS
 go_enter Tryz.func24,Tryz.ntmps24
 go_wp2_with fail
 generalize hW0:World.alloc _ _=W0
 have HB0:Hid (Below w.heap.size w W0):=by rw [← hW0];exact up_alloc w _
 clear hW0
 go_loopg [5,13] n2 (fun gg u v wr=>∃ (k:Nat) (x:Int),k≤n2∧gg=n2 - k∧u = .int .i64 x∧v = .int .i64 (k:Int)∧Hid (x=cntP ls S k)∧Hid (Below w.heap.size w wr))
 case atStart=>exact ⟨0,0,by omega,by omega,rfl,rfl,rfl,HB0⟩
 case round=>
  obtain ⟨k,x,hk,hg,rfl,rfl,Hx,HB⟩:=hrel
  by_cases hkn:k < n2
  ·have hk':(k:Int) < (n2:Int):=by omega
   have hk1:(k:Int) < ((n2+1:Nat):Int):=by omega
   have hkl:k < ls.length:=by rw [HK.out.2.1.1];exact hkn
   obtain ⟨q,o,rfl,c0,c1,c2⟩:=(HK.out.2.1.up HB.out).2 k hkn
   obtain ⟨q3,o3,a3,b3,d3,rfl,s3,m3⟩:=(HK.out.2.2.up HB.out).2 k (by omega)
   have hl:=HK.out.1.lay k hkl
   have hi:=HK.out.1.inn k hkl
   have hft:=HK.out.1.fit k hkl
   have hcr:=cntP_rng (ls:=ls) (S:=S) (i:=k) (fun j hj=>HK.out.1.inn j (by omega)) (fun j hj=>HK.out.1.lay j (by omega))
   rw [← Hx.out] at hcr
   have hxr:0≤x∧x≤1127000000000000:=by omega
   obtain ⟨l,el⟩:∃ l,lyA ls k=l:=⟨_,rfl⟩
   obtain ⟨dd,ed⟩:∃ dd,shA S k=dd:=⟨_,rfl⟩
   have HN:Hid (x+psz l dd=cntP ls S (k+1)):=by show _=_;rw [Hx.out,← el,← ed];rfl
   rw [el] at c0 c1 c2 hl hft
   rw [ed] at hi m3 hft
   obtain ⟨s,a,b⟩:=l
   simp only [] at c0 c1 c2 hft
   have hlt:=cell_size c0
   obtain ⟨PP,eP⟩:∃ PP,parD (s,a,b) dd=PP:=⟨_,rfl⟩
   have HP:Hid (sumP PP PP.length=psz (s,a,b) dd∧(∀ j,j≤PP.length→0≤sumP PP j∧sumP PP j≤1049600)∧(∀ j,j < PP.length→Smal (shA PP j))∧PP.length≤2):=by
    rw [← eP]
    exact ⟨sumP_psz,sumP_rng hl hi,parD_smal hl hi,parD_len _ _⟩
   have cp:Hid (∀ W,Below wr.heap.size wr W→Calls Tryz.prog 43 #[.agg #[.string s,.int .i64 a,.int .i64 b],.slice a3 b3 d3] W fun e w'=>∃ v',e = .returned v'∧ParR PP v' w'∧Below W.heap.size W w'):=fun W hW=>by
    rw [← eP]
    exact paramsOf_any s a b dd hl hi hft a3 b3 d3 W (m3.up hW)
   clear hl hi hft hcr m3 el ed eP
   go_wp2
   generalize hW1:World.alloc _ _=W1
   have HB1:Hid (Below wr.heap.size wr W1):=by rw [← hW1];exact up_alloc wr _
   obtain ⟨e0,e1,e2⟩:W1.cell? ⟨wr.heap.size,0,none⟩=some (.string s)∧W1.cell? ⟨wr.heap.size,1,none⟩=some (.int .i64 a)∧W1.cell? ⟨wr.heap.size,2,none⟩=some (.int .i64 b):=by rw [← hW1];simp [go_sem]
   replace s3:=still_cell HB1.out s3
   have hz1:=cell_size e0
   have hz3:=cell_size s3
   clear hW1 c0 c1 c2
   refine rel [⟨5,23,ParR PP⟩] 8 36 (by kernel_rfl) rfl rfl (by kernel_rfl) (by rfl) ?_ ?_
   ·intro e he v W W' h hb
    simp only [List.mem_cons,List.not_mem_nil,or_false] at he
    subst he
    exact ParR.up h hb
   apply Exists.intro
   refine ⟨fun x=>?_,?_,?_⟩
   ·simp only [List.take_succ_cons,List.take_zero]
    iterate 5
     refine relQuiet rfl rfl ?_
     apply Exists.intro
     refine ⟨fun F hF hf K hK=>?_,?_⟩
     ·have hFc:=hF.cell
      have hFf:=hF.frozen
      go_big_quiet_op
      first|exact hK|(apply Exists.intro;refine ⟨fun _=>?_,?_⟩;(· fail);exact hK)
     (try simp only [Act.put,List.setIfInBounds_toArray,List.set_cons_zero,List.set_cons_succ])
    refine relTold rfl rfl ?_ ?_
    ·intro F hF hf d
     have hFc:=hF.cell
     have hFf:=hF.frozen
     simp [yieldsR,yieldsUpon,go_sem,hFc,hz1,hz3,e0,e1,e2,s3]
     refine (cp.out (F d) (bstep HB1.out (hF.below _))).mono ?_
     rintro e' w8 ⟨v8,rfl,h8,hB8⟩
     exact ⟨_,rfl,h8,hB8⟩
    (try simp only [Act.put,List.setIfInBounds_toArray,List.set_cons_zero,List.set_cons_succ])
    refine relQuiet rfl rfl ?_
    apply Exists.intro
    refine ⟨fun F hF hf K hK=>?_,?_⟩
    ·have hFc:=hF.cell
     have hFf:=hF.frozen
     obtain ⟨p9,c9,e9,-⟩:=hf _ List.mem_cons_self (by rfl) w
     simp only [] at e9
     rw [e9] at hK ⊢
     go_big_quiet_op
     first|exact hK|(apply Exists.intro;refine ⟨fun _=>?_,?_⟩;(· fail);exact hK)
    (try simp only [Act.put,List.setIfInBounds_toArray,List.set_cons_zero,List.set_cons_succ])
    refine relQuiet rfl rfl ?_
    apply Exists.intro
    refine ⟨fun F hF hf K hK=>?_,?_⟩
    ·have hFc:=hF.cell
     have hFf:=hF.frozen
     go_big_quiet_op
     first|exact hK|(apply Exists.intro;refine ⟨fun _=>?_,?_⟩;(· fail);exact hK)
    (try simp only [Act.put,List.setIfInBounds_toArray,List.set_cons_zero,List.set_cons_succ])
    refine relEnd ?_
    exact rfl
   ·exact fun x=>rfl
   ·intro w9 xs hB9 hf
    simp only [List.drop_succ_cons,List.drop_zero]
    obtain ⟨p7,c7,e7,h7⟩:=hf _ List.mem_cons_self
    simp only [] at e7 h7
    have H7:Hid (RdS w9 p7 PP.length PP∧Below w.heap.size w w9):=⟨h7.1,bstep HB.out (bstep HB1.out hB9)⟩
    obtain ⟨v8,e8⟩:∃ v8,xs 5=v8:=⟨_,rfl⟩
    rw [e8] at e7 ⊢
    subst e7
    have HPL:Hid (PP.length≤2):=HP.out.2.2.2
    obtain ⟨np,enp⟩:∃ np,PP.length=np:=⟨_,rfl⟩
    rw [enp] at H7 HP HPL ⊢
    clear hf hB9 h7 e0 e1 e2 s3 cp e8 enp
    have hnp2:(np:Int)≤2:=by have:=HPL.out;omega
    go_wp2_with fail
    go_loopg [5,25] np (fun gg u v wq=>∃ (j:Nat) (y:Int),j≤np∧gg=np - j∧u = .int .i64 y∧v = .int .i64 (j:Int)∧Hid (y=x+sumP PP j)∧wq=w9)
    case atStart=>exact ⟨0,x,by omega,by omega,rfl,rfl,by show x=x+0;omega,rfl⟩
    case round=>
     obtain ⟨j,y,hj,hgj,rfl,rfl,Hy,rfl⟩:=hrel
     by_cases hjn:j < np
     ·have hj':(j:Int) < (np:Int):=by omega
      obtain ⟨q5,o5,a5,b5,d5,rfl,s5,m5⟩:=H7.out.1.2 j hjn
      obtain ⟨z,ez⟩:∃ z,prodI (shA PP j)=z:=⟨_,rfl⟩
      have cz:=csize_any _ _ (HP.out.2.2.1 j hjn) _ m5
      rw [ez] at cz
      have hy0:=HP.out.2.1 j (by omega)
      have hy1:=HP.out.2.1 (j+1) hjn
      rw [show sumP PP (j+1)=sumP PP j+z by rw [← ez];rfl] at hy1
      have hyr:y+z=x+(sumP PP j+z):=by rw [Hy.out];omega
      have hyz:0≤y+z∧y+z≤1128000000000000:=by omega
      have HY:Hid (y+z=x+sumP PP (j+1)):=by show _=_;rw [hyr,← ez];rfl
      obtain ⟨yz,eyz⟩:∃ yz,y+z=yz:=⟨_,rfl⟩
      rw [eyz] at hyz HY
      clear m5 ez hy0 hy1 hyr
      go_wp2_with fail
      refine cz.mono ?_
      rintro e w1 ⟨rfl,rfl⟩
      clear cz
      go_wp2
      go_roundg (np - (j+1))
      case measure=>omega
      case rel=>exact ⟨j+1,yz,by omega,rfl,by first|rfl|simp [eyz],by first|rfl|simp,HY,rfl⟩
     ·obtain rfl:j=np:=by omega
      have HY:Hid (y=cntP ls S (k+1)):=by show _=_;rw [← HN.out,← HP.out.1,Hy.out]
      have HB9:Hid (Below w.heap.size w _):=H7.out.2
      clear Hy HN HP H7
      go_wp2
      go_roundg (n2 - (k+1))
      case measure=>omega
      case rel=>exact ⟨k+1,y,by omega,rfl,rfl,by first|rfl|simp,HY,HB9⟩
  ·obtain rfl:k=n2:=by omega
   have ex:x=r:=by rw [Hx.out,← HR.out,HK.out.2.1.1]
   subst ex
   go_wp2
   go_ret
   exact ⟨rfl,HB.out⟩
theorem bigN_stop {ls:List Ly} {S:List (List Int)}:∀ {i n:Nat},bigN ls S i=true→i≤n→bigN ls S n=true
 | i,0,h,hi=>by
  obtain rfl:i=0:=by omega
  exact h
 | i,n+1,h,hi=>by
  rcases Nat.lt_or_ge i (n+1) with h1|h1
  ·simp only [bigN,Bool.or_eq_true]
   exact .inl (bigN_stop h (show i≤n by omega))
  ·obtain rfl:i=n+1:=by omega
   exact h
theorem tooMuch_any (p p2 ps:Option Addr) (n c n2 c2 ns cs:Nat) (d:List Int) (ls:List Ly) (S:List (List Int)) (ok:NetOk d ls S) (hsm:∀ k,k < ns→InOk (shA S k)) (hbig:n2≤1073741824) (w:World) (hL:LyR 0 w p2 n2 ls) (hS:RdS w ps ns S):
  Calls Tryz.prog 37 #[.agg #[.slice p n c,.slice p2 n2 c2],.slice ps ns cs] w fun e w'=>e = .returned (.bool (tooM ls S))∧Below w.heap.size w w':=by
 haveI:Nonempty World:=⟨w⟩
 obtain ⟨r,er⟩:∃ r,tooM ls S=r:=⟨_,rfl⟩
 have HR:Hid (tooM ls S=r):=er
 have HK:Hid (NetOk d ls S∧LyR 0 w p2 n2 ls∧RdS w ps ns S):=⟨ok,hL,hS⟩
 have hns:ns=n2+1:=by rw [← hS.1,ok.len,hL.1]
 subst hns
 rw [er]
 have cF:Hid (∀ W,Below w.heap.size w W→Calls Tryz.prog 55 #[.slice ps (n2+1) cs,.func (.func 56) #[] #[]] W fun e w'=>e = .returned (.bool (bigS S))∧w'=W):=fun W hW=>containsF_any ps (n2+1) cs S (fun i hi=>(hsm i hi).smal) (Nat.le_trans (Nat.add_le_add_right hbig 1) (by decide)) W (hS.up hW)
 have cc:Hid (∀ W,Below w.heap.size w W→Calls Tryz.prog 24 #[.agg #[.slice p n c,.slice p2 n2 c2],.slice ps (n2+1) cs] W fun e w'=>e = .returned (.int .i64 (cntP ls S ls.length))∧Below W.heap.size W w'):=fun W hW=>countParams_any p p2 ps n c n2 c2 (n2+1) cs d ls S ok hbig W (hL.up hW) (hS.up hW)
 clear er ok hL hS hsm
 go_enter Tryz.func37,Tryz.ntmps37
 by_cases h16:16 < n2
 ·have h16':(16:Int) < (n2:Int):=by omega
  have e:r=true:=by rw [← HR.out];unfold tooM;rw [HK.out.2.1.1,decide_eq_true h16];simp
  subst e
  clear cF cc
  go_wp2
  go_ret
  exact ⟨rfl,up_alloc w _⟩
 have h16':(n2:Int)≤16:=by omega
 go_wp2_with fail
 generalize hW0:World.alloc _ _=W0
 have HB0:Hid (Below w.heap.size w W0):=by rw [← hW0];exact up_alloc w _
 obtain ⟨g0,g1⟩:W0.cell? ⟨w.heap.size,0,none⟩=some (.slice p n c)∧W0.cell? ⟨w.heap.size,1,none⟩=some (.slice p2 n2 c2):=by rw [← hW0];simp [go_sem]
 clear hW0
 refine (cF.out W0 HB0.out).mono ?_
 rintro e w1 ⟨rfl,rfl⟩
 obtain ⟨qb,eqb⟩:∃ q,bigS S=q:=⟨_,rfl⟩
 have HQ:Hid (bigS S=qb):=eqb
 rw [eqb]
 clear eqb
 cases qb with
 | true=>
  have e:r=true:=by rw [← HR.out];unfold tooM;rw [HQ.out];simp
  subst e
  clear cF cc
  go_wp2
  go_ret
  exact ⟨rfl,HB0.out⟩
 | false=>
 have HG:Hid (w1.cell? ⟨w.heap.size,0,none⟩=some (.slice p n c)∧w1.cell? ⟨w.heap.size,1,none⟩=some (.slice p2 n2 c2)):=⟨g0,g1⟩
 go_wp2_with fail
 go_loopg [18] n2 (fun gg v wr=>∃ (k:Nat),k≤n2∧gg=n2 - k∧v = .int .i64 (k:Int)∧Hid (bigN ls S k=false)∧Hid (Below w1.heap.size w1 wr))
 case atStart=>exact ⟨0,by omega,by omega,rfl,rfl,Below.refl _ _⟩
 case round=>
  obtain ⟨k,hk,hg,rfl,Hx,HB⟩:=hrel
  by_cases hkn:k < n2
  ·have hk':(k:Int) < (n2:Int):=by omega
   have hk1:(k:Int) < ((n2+1:Nat):Int):=by omega
   have hkl:k < ls.length:=by rw [HK.out.2.1.1];exact hkn
   have hBw:=bstep HB0.out HB.out
   obtain ⟨q,o,rfl,c0,c1,c2⟩:=(HK.out.2.1.up hBw).2 k hkn
   obtain ⟨q3,o3,a3,b3,d3,rfl,s3,m3⟩:=(HK.out.2.2.up hBw).2 k (by omega)
   have hl:=HK.out.1.lay k hkl
   have hi:=HK.out.1.inn k hkl
   have hft:=HK.out.1.fit k hkl
   obtain ⟨l,el⟩:∃ l,lyA ls k=l:=⟨_,rfl⟩
   obtain ⟨dd,ed⟩:∃ dd,shA S k=dd:=⟨_,rfl⟩
   have HN:Hid (bigN ls S (k+1)=bigP l dd):=by show _=_;rw [← el,← ed];show (bigN ls S k || _)=_;rw [Hx.out];rfl
   rw [el] at c0 c1 c2 hl hft
   rw [ed] at hi m3 hft
   obtain ⟨s,a,b⟩:=l
   simp only [] at c0 c1 c2 hft
   have hlt:=cell_size c0
   obtain ⟨PP,eP⟩:∃ PP,parD (s,a,b) dd=PP:=⟨_,rfl⟩
   obtain ⟨qq,eqq⟩:∃ qq,bigS PP=qq:=⟨_,rfl⟩
   have HP:Hid (bigP (s,a,b) dd=qq):=by show _=_;rw [← eqq,← eP];rfl
   have cp:Hid (∀ W,Below wr.heap.size wr W→Calls Tryz.prog 43 #[.agg #[.string s,.int .i64 a,.int .i64 b],.slice a3 b3 d3] W fun e w'=>∃ v',e = .returned v'∧ParR PP v' w'∧Below W.heap.size W w'):=fun W hW=>by
    rw [← eP]
    exact paramsOf_any s a b dd hl hi hft a3 b3 d3 W (m3.up hW)
   have cG:Hid (∀ W v,ParR PP v W→Calls Tryz.prog 55 #[v,.func (.func 56) #[] #[]] W fun e w'=>e = .returned (.bool qq)∧w'=W):=fun W v hv=>by
    obtain ⟨pv,cv,rfl,hv⟩:=hv
    rw [← eqq,← eP] at *
    exact containsF_any pv _ cv _ (parD_smal hl hi) (by have:=parD_len (s,a,b) dd;omega) W hv.1
   clear hl hi hft m3 el ed eP eqq hBw
   go_wp2
   generalize hW1:World.alloc _ _=W1
   have HB1:Hid (Below wr.heap.size wr W1):=by rw [← hW1];exact up_alloc wr _
   obtain ⟨e0,e1,e2⟩:W1.cell? ⟨wr.heap.size,0,none⟩=some (.string s)∧W1.cell? ⟨wr.heap.size,1,none⟩=some (.int .i64 a)∧W1.cell? ⟨wr.heap.size,2,none⟩=some (.int .i64 b):=by rw [← hW1];simp [go_sem]
   replace s3:=still_cell HB1.out s3
   have hz1:=cell_size e0
   have hz3:=cell_size s3
   clear hW1 c0 c1 c2
   refine rel [⟨5,28,ParR PP⟩] 7 35 (by kernel_rfl) rfl rfl (by kernel_rfl) (by rfl) ?_ ?_
   ·intro e he v W W' h hb
    simp only [List.mem_cons,List.not_mem_nil,or_false] at he
    subst he
    exact ParR.up h hb
   apply Exists.intro
   refine ⟨fun x=>?_,?_,?_⟩
   ·simp only [List.take_succ_cons,List.take_zero]
    iterate 5
     refine relQuiet rfl rfl ?_
     apply Exists.intro
     refine ⟨fun F hF hf K hK=>?_,?_⟩
     ·have hFc:=hF.cell
      have hFf:=hF.frozen
      go_big_quiet_op
      first|exact hK|(apply Exists.intro;refine ⟨fun _=>?_,?_⟩;(· fail);exact hK)
     (try simp only [Act.put,List.setIfInBounds_toArray,List.set_cons_zero,List.set_cons_succ])
    refine relTold rfl rfl ?_ ?_
    ·intro F hF hf d
     have hFc:=hF.cell
     have hFf:=hF.frozen
     simp [yieldsR,yieldsUpon,go_sem,hFc,hz1,hz3,e0,e1,e2,s3]
     refine (cp.out (F d) (bstep HB1.out (hF.below _))).mono ?_
     rintro e' w8 ⟨v8,rfl,h8,hB8⟩
     exact ⟨_,rfl,h8,hB8⟩
    (try simp only [Act.put,List.setIfInBounds_toArray,List.set_cons_zero,List.set_cons_succ])
    refine relQuiet rfl rfl ?_
    apply Exists.intro
    refine ⟨fun F hF hf K hK=>?_,?_⟩
    ·have hFc:=hF.cell
     have hFf:=hF.frozen
     go_big_quiet_op
     first|exact hK|(apply Exists.intro;refine ⟨fun _=>?_,?_⟩;(· exact hF.same (cG.out _ _ (hf _ List.mem_cons_self (by rfl) _)));exact hK)
    (try simp only [Act.put,List.setIfInBounds_toArray,List.set_cons_zero,List.set_cons_succ])
    refine relEnd ?_
    exact rfl
   ·exact fun x=>rfl
   ·intro w9 xs hB9 hf
    simp only [List.drop_succ_cons,List.drop_zero]
    have HB9:Hid (Below w1.heap.size w1 w9):=bstep HB.out (bstep HB1.out hB9)
    clear hf hB9 e0 e1 e2 s3 cp cG
    cases qq with
    | true=>
     have e:r=true:=by rw [← HR.out];unfold tooM;rw [bigN_stop (HN.out.trans HP.out) (show k+1≤ls.length by rw [HK.out.2.1.1];exact hkn)];simp
     subst e
     clear cF cc
     go_wp2
     go_ret
     exact ⟨rfl,bstep HB0.out HB9.out⟩
    | false=>
     have HN2:Hid (bigN ls S (k+1)=false):=HN.out.trans HP.out
     clear HN HP
     go_wp2
     go_roundg (n2 - (k+1))
     case measure=>omega
     case rel=>exact ⟨k+1,by omega,rfl,by first|rfl|simp,HN2,HB9⟩
  ·obtain rfl:k=n2:=by omega
   have g0:=still_cell HB.out HG.out.1
   have g1:=still_cell HB.out HG.out.2
   go_wp2_with fail
   refine (cc.out wr (bstep HB0.out HB.out)).mono ?_
   rintro e w2 ⟨rfl,hB2⟩
   obtain ⟨cn,ecn⟩:∃ cn,cntP ls S ls.length=cn:=⟨_,rfl⟩
   have HC:Hid (decide (4096 < cn)=r):=by
    show _=_
    rw [← HR.out,← ecn]
    unfold tooM
    rw [HQ.out,HK.out.2.1.1,Hx.out,decide_eq_false h16]
    rfl
   have HB3:Hid (Below w.heap.size w w2):=bstep (bstep HB0.out HB.out) hB2
   rw [ecn]
   clear ecn cF cc hB2
   go_wp2
   go_ret
   rw [← HC.out]
   exact ⟨rfl,HB3.out⟩
/-- A slice's type by its elements' cells and bytes. -/
structure GT (P:Program) (t e:TypeId) (s b:Nat):Prop where
 ht:P.underlying t=some (.slice e)
 hi:(P.info? e).map (fun i=>(i.zero.map fun z=>z.cells.size,i.size,i.bytes))=some (some s,s,b)
/-- append of one element that a literal holds, behind a row of the call's own. -/
theorem wpList_appG {P:Program} {t e:TypeId} {s b:Nat} (T:GT P t e s b) (hb:b≤256) (hs0:0 < s) {ops:Array Oper} {rest:List Oper} {o:Oper} {a:Act} {Q:Exit→Act→World→Prop} {w:World} (hgd:o.guard=none) (sx x:Operand)
  (ho:o.op = .call { callee:=.builtin .append,args:=#[sx,x],argTypes:=#[t,t] }) (B:Nat) (v:Value) (n:Nat) (xs:List Value) (hs:a.eval sx=v) (hown:w.ownsRow B e s v n xs) (g:Nat) (u:List Value) (hx:a.eval x = .slice (some ⟨g,0,none⟩) 1 1)
  (hg:w.heap[g]?=some (.cells u.toArray e (0,0))) (hu:u.length=s) (h1:∀ y∈u,y.oneCell'=true) (hn:n+1≤1073741825) (hB:B≤w.heap.size)
  (h:∀ v' w',Hid (w'.ownsRow B e s v' (n+1) (xs++u))→Hid (Only [e] w w')→Hid (∀ w0,Below B w0 w→Below B w0 w')→wpList P ops Q rest (a.put o.dst v') w'):wpList P ops Q (o :: rest) a w:=by
 have hi:=T.hi
 cases hq:P.info? e with
 | none=>rw [hq] at hi;cases hi
 | some i=>
  rw [hq] at hi
  simp only [Option.map_some,Option.some.injEq,Prod.mk.injEq] at hi
  obtain ⟨hz,hsz,hby⟩:=hi
  cases hz0:i.zero with
  | none=>rw [hz0] at hz;cases hz
  | some z=>
   rw [hz0] at hz
   simp only [Option.map_some,Option.some.injEq] at hz
   have hm:(n+1)*b≤1073741825*256:=Nat.mul_le_mul hn hb
   refine wpList_append_own w hgd sx x t ho B e i z s b T.ht hq hz0 hsz hby hz hs0 v n xs hs hown ⟨g,0,none⟩ 1 1 u hx (by omega) (fun j y hj=>by
    rw [addr_plus,Nat.zero_add]
    unfold World.cell?
    simpa [hg] using hj) h1 (by unfold maxLen;omega) (by omega) hB ?_
   intro v' w' h2 h3 _
   have hlt:∀ k,v.ownBlock=some k→B≤k:=fun k hk=>(World.ownsRow.lt hown k hk).1
   refine h v' w' h2 (Only.grown h3 fun k hk=>?_) fun w0 hB0=>Below.grown hB0 h3 hB hlt
   rcases hown.2 with ⟨rfl,_⟩|⟨g',cap,cur,rfl,_,hc,_⟩
   ·cases hk
   ·cases hk
    exact ⟨_,_,_,hc,by simp⟩
theorem OwnS.push {W W':World} {B:Nat} {v':Value} {S:List (List Int)} {a:Option Addr} {b c:Nat} {o:List Int} {vs:List Value} (h:W'.ownsRow B 23 1 v' (S.length+1) (vs++[.slice a b c])) (hl:vs.length=S.length) (h4:∀ i,i < S.length→∃ a b c,vs[i]?=some (.slice a b c)∧OwnK .i64 3 W B (.slice a b c) (shA S i)) (ho:OwnK .i64 3 W B (.slice a b c) o) (hy:Only [23] W W'):OwnS W' B v' (S++[o]):=by
 refine ⟨vs++[.slice a b c],by rw [List.length_append];exact h,fun i hi=>?_⟩
 simp only [List.length_append,List.length_cons,List.length_nil] at hi
 rcases Nat.lt_or_ge i S.length with h1|h1
 ·obtain ⟨a,b,c,e,h5⟩:=h4 i h1
  rw [shA_app _ h1]
  exact ⟨a,b,c,by rw [List.getElem?_append_left (by omega)];exact e,h5.only hy (by decide)⟩
 ·obtain rfl:i=S.length:=by omega
  rw [shA_last S o _ rfl]
  exact ⟨a,b,c,by rw [List.getElem?_append_right (by omega),hl];simp,ho.only hy (by decide)⟩
theorem shT:GT Tryz.prog 56 23 1 24:=⟨Tryz.underlying56,by kernel_rfl⟩
def OutV (x:Option (List Int)) (B:Nat) (v:Value) (W:World):Prop:=match x with
 | none=>v = .slice none 0 0
 | some o=>∃ p n c,v = .slice p n c∧OwnK .i64 3 W B (.slice p n c) o
theorem OutV.up {x:Option (List Int)} {B:Nat} {v:Value} {W W':World} (h:OutV x B v W) (hB:Below W.heap.size W W'):OutV x B v W':=by
 cases x with
 | none=>exact h
 | some o=>
  obtain ⟨p,n,c,e,h⟩:=h
  exact ⟨p,n,c,e,h.up hB⟩
theorem OutR.tup {x:Option (List Int)} {B:Nat} {v:Value} {W:World} (h:OutR x B v W):∃ u,v = .tuple #[u,.bool x.isSome]∧OutV x B u W:=by
 cases x with
 | none=>exact ⟨_,h,rfl⟩
 | some o=>
  obtain ⟨p,n,c,e,h⟩:=h
  exact ⟨_,e,p,n,c,rfl,h⟩
theorem OutR.low {x:Option (List Int)} {B B':Nat} {v:Value} {W:World} (h:OutR x B v W) (hB:B'≤B):OutR x B' v W:=by
 cases x with
 | none=>exact h
 | some o=>
  obtain ⟨p,n,c,e,h⟩:=h
  exact ⟨p,n,c,e,h.low hB⟩
def ShpR (x:Option (List (List Int))) (B:Nat) (v:Value) (W:World):Prop:=match x with
 | none=>v = .tuple #[.slice none 0 0,.bool false]
 | some S=>∃ u,v = .tuple #[u,.bool true]∧OwnS W B u S
theorem shapesOf_any (p p2:Option Addr) (n c n2 c2:Nat) (d:List Int) (ls:List Ly) (hf:formB d ls=true) (hbig:n2≤1073741823) (w:World) (h1:Nums .i64 w (.slice p n c) d) (hL:LyR 0 w p2 n2 ls):
  Calls Tryz.prog 36 #[.agg #[.slice p n c,.slice p2 n2 c2]] w fun e w'=>∃ v',e = .returned v'∧ShpR (shN d ls ls.length) w.heap.size v' w'∧Below w.heap.size w w':=by
 haveI:Nonempty World:=⟨w⟩
 obtain ⟨r,er⟩:∃ r,shN d ls ls.length=r:=⟨_,rfl⟩
 obtain ⟨hd,hly⟩:=(formB_iff d ls).1 hf
 have HK:Hid (shN d ls ls.length=r∧LyR 0 w p2 n2 ls∧InOk d∧∀ l∈ls,LayOk l):=⟨er,hL,hd,hly⟩
 have cI:Hid (∀ W,Below w.heap.size w W→Calls Tryz.prog 52 #[.slice p n c] W fun e w'=>∃ v',e = .returned v'∧OwnK .i64 3 w' W.heap.size v' d∧Below W.heap.size W w'):=fun W hW=>cloneI_any _ d (by have:=hd.smal.1;omega) W (h1.up hW)
 rw [er]
 clear er hd hly hf h1 hL
 go_enter Tryz.func36,Tryz.ntmps36
 go_wp2_with fail
 generalize hW0:World.alloc _ _=W0
 have HB0:Hid (Below w.heap.size w W0):=by rw [← hW0];exact up_alloc w _
 have HX0:Hid (W0.heap[w.heap.size]?=some (.cells #[.slice p n c,.slice p2 n2 c2] 26 (0,0))∧w.heap.size < W0.heap.size):=by
  show _∧_
  rw [← hW0]
  exact ⟨Array.getElem?_push_size,by simp⟩
 clear hW0
 refine (cI.out W0 HB0.out).mono ?_
 rintro e w1 ⟨v1,rfl,ho1,hB1⟩
 obtain ⟨pa,na,ca,rfl,_⟩:=ho1.nums.lst
 have HX1:Hid (w1.heap[w.heap.size]?=some (.cells #[.slice p n c,.slice p2 n2 c2] 26 (0,0))):=(hB1.block _ HX0.out.2).trans HX0.out.1
 have HO1:Hid (OwnK .i64 3 w1 w.heap.size (.slice pa na ca) d∧Below w.heap.size w w1):=⟨ho1.low HB0.out.size,bstep HB0.out hB1⟩
 clear ho1 hB1 cI HB0 HX0
 have g1:w1.cell? ⟨w.heap.size,1,none⟩=some (.slice p2 n2 c2):=by unfold World.cell?;rw [HX1.out];rfl
 have hz1:=cell_size g1
 go_wp2_with fail
 generalize hW2:World.alloc _ _=W2
 have HX2:Hid (W2.heap[w.heap.size]?=some (.cells #[.slice p n c,.slice p2 n2 c2] 26 (0,0))):=by
  show _=_
  rw [← hW2]
  exact ((up_alloc w1 _).block _ hz1).trans HX1.out
 have HO2:Hid (OwnS W2 w.heap.size (.slice (some ⟨w1.heap.size,0,none⟩) 1 1) [d]∧Below w.heap.size w W2):=by
  show _∧_
  have hb:Below w1.heap.size w1 W2:=by rw [← hW2];exact up_alloc w1 _
  refine ⟨⟨[.slice pa na ca],⟨rfl,.inr ⟨w1.heap.size,1,#[.slice pa na ca],rfl,HO1.out.2.size,?_,Nat.le_refl _,by unfold maxLen;omega,rfl,rfl⟩⟩,fun i hi=>?_⟩,bstep HO1.out.2 hb⟩
  ·rw [← hW2]
   exact Array.getElem?_push_size
  ·obtain rfl:i=0:=by simp at hi;omega
   exact ⟨_,_,_,rfl,HO1.out.1.up hb⟩
 clear hW2 g1 HO1 HX1 hz1
 go_loopg [4,16] n2 (fun gg u v wr=>∃ (k:Nat) (S:List (List Int)),k≤n2∧gg=n2 - k∧v = .int .i64 (k:Int)∧Hid (OwnS wr w.heap.size u S∧Below w.heap.size w wr)∧Hid (shN d ls k=some S)∧Hid (wr.heap[w.heap.size]?=some (.cells #[.slice p n c,.slice p2 n2 c2] 26 (0,0))))
 case atStart=>exact ⟨0,[d],by omega,by omega,rfl,HO2,rfl,HX2⟩
 case round=>
  obtain ⟨k,S,hk,hg,rfl,HO,HS,HX⟩:=hrel
  obtain ⟨ps,cs,rfl,hrd⟩:=HO.out.1.rd
  have hSl:=shN_len HS.out
  obtain ⟨sl,esl⟩:∃ sl,S.length=sl:=⟨_,rfl⟩
  rw [esl] at hrd hSl HO ⊢
  have HRD:Hid (RdS wr ps sl S):=hrd
  have HSL:Hid (S.length=sl):=esl
  subst hSl
  clear esl hrd
  by_cases hkn:k < n2
  ·have hk':(k:Int) < (n2:Int):=by omega
   have hk1:(k:Int) < ((k+1:Nat):Int):=by omega
   have hkl:k < ls.length:=by rw [HK.out.2.1.1];exact hkn
   obtain ⟨q,o,rfl,y0,y1,y2⟩:=(HK.out.2.1.up HO.out.2).2 k hkn
   have hl:=HK.out.2.2.2 _ (lyA_mem hkl)
   have hin:=shN_in HK.out.2.2.1 HK.out.2.2.2 (show k≤ls.length by omega) HS.out
   obtain ⟨l,el⟩:∃ l,lyA ls k=l:=⟨_,rfl⟩
   have HEL:Hid (lyA ls k=l):=el
   rw [el] at y0 y1 y2 hl
   obtain ⟨s,a,b⟩:=l
   simp only [] at y0 y1 y2
   have hlt:=cell_size y0
   have g1:wr.cell? ⟨w.heap.size,1,none⟩=some (.slice (some ⟨q,o,none⟩) n2 c2):=by unfold World.cell?;rw [HX.out];rfl
   have hz1:=cell_size g1
   have HN:Hid (∀ x,shN d ls (k+1)=x→stepS ls k S=x):=fun x hx=>(shN_succ HS.out).symm.trans hx
   have HSK:Hid (stepS ls k S=if s=kSkip∧¬ SkipOk ls S k then none else (outD (s,a,b) (shA S k)).map fun o=>S++[o]):=by show _=_;unfold stepS;rw [HEL.out]
   have cO:Hid (∀ W a3 b3 d3,Nums .i64 W (.slice a3 b3 d3) (shA S k)→Calls Tryz.prog 54 #[.agg #[.string s,.int .i64 a,.int .i64 b],.slice a3 b3 d3] W fun e w'=>∃ v',e = .returned v'∧OutR (outD (s,a,b) (shA S k)) W.heap.size v' w'∧Below W.heap.size W w'):=fun W a3 b3 d3 hv=>outOf_any s a b _ hl (hin k (by omega)) a3 b3 d3 W hv
   have cK:Hid (∀ W,Below wr.heap.size wr W→Calls Tryz.prog 53 #[.slice (some ⟨q,o,none⟩) n2 c2,.slice ps (k+1) cs,.int .i64 (k:Int)] W fun e w'=>e = .returned (.bool (decide (SkipOk ls S k)))∧∃ m,w'=W.drewN m):=fun W hW=>canSkip_any _ ps n2 c2 (k+1) cs ls S k (by omega) hkn (by omega) (fun j hj=>(hin j hj).smal.1) W ((HK.out.2.1.up HO.out.2).up hW) (HRD.out.up hW)
   obtain ⟨xo,exo⟩:∃ xo,outD (s,a,b) (shA S k)=xo:=⟨_,rfl⟩
   rw [exo] at cO HSK
   obtain ⟨-,-,-,-,t4⟩:=kts s
   clear hl hin el exo
   by_cases hk4:kindI s=4
   ·replace t4:=t4.trans (decide_eq_true hk4)
    go_wp2_with fail
    generalize hW3:World.alloc _ _=W3
    have HB3:Hid (Below wr.heap.size wr W3):=by rw [← hW3];exact up_alloc wr _
    obtain ⟨e0,e1,e2⟩:W3.cell? ⟨wr.heap.size,0,none⟩=some (.string s)∧W3.cell? ⟨wr.heap.size,1,none⟩=some (.int .i64 a)∧W3.cell? ⟨wr.heap.size,2,none⟩=some (.int .i64 b):=by rw [← hW3];simp [go_sem]
    clear hW3
    refine (cK.out W3 HB3.out).mono ?_
    rintro e w4 ⟨rfl,m,hw4⟩
    have HB5:Hid (Below wr.heap.size wr w4):=by rw [hw4];exact below_drew HB3.out _
    replace e0:w4.cell? ⟨wr.heap.size,0,none⟩=some (.string s):=by rw [hw4];exact e0
    replace e1:w4.cell? ⟨wr.heap.size,1,none⟩=some (.int .i64 a):=by rw [hw4];exact e1
    replace e2:w4.cell? ⟨wr.heap.size,2,none⟩=some (.int .i64 b):=by rw [hw4];exact e2
    clear hw4 HB3
    by_cases hsk:SkipOk ls S k
    ·rw [decide_eq_true hsk]
     have Hsk:Hid (SkipOk ls S k):=hsk
     clear hsk hk4
     obtain ⟨q3,o3,a3,b3,d3,rfl,s3,m3'⟩:=HRD.out.2 k (by omega)
     have m3:Hid (Nums .i64 wr (.slice a3 b3 d3) (shA S k)):=m3'
     replace s3:=still_cell HB5.out s3
     have hz5:=cell_size e0
     have hz6:=cell_size s3
     clear m3' y0 y1 y2 g1
     go_wp2
     refine relE [⟨5,38,OutR xo w.heap.size⟩,⟨6,32,OutR xo w.heap.size⟩,⟨7,39,OutV xo w.heap.size⟩] 9 49 (by kernel_rfl) rfl rfl 8 _ rfl (by decide) rfl (by kernel_rfl) (by kernel_rfl) (fun _ _ _ _ h=>h) (by rfl) ?_ ?_
     ·intro e he v W W' h hb
      simp only [List.mem_cons,List.not_mem_nil,or_false] at he
      rcases he with rfl|rfl|rfl
      ·exact OutR.up h hb
      ·exact OutR.up h hb
      ·exact OutV.up h hb
     apply Exists.intro
     refine ⟨?yl1,?wk1,?pk1,?rest1⟩
     case wk1=>
      intro x
      simp only [List.take_succ_cons,List.take_zero]
      iterate 5
       refine relQuiet rfl rfl ?_
       apply Exists.intro
       refine ⟨fun F hF hf K hK=>?_,?_⟩
       ·have hFc:=hF.cell
        have hFf:=hF.frozen
        go_big_quiet_op
        first|exact hK|(apply Exists.intro;refine ⟨fun _=>?_,?_⟩;(· fail);exact hK)
       (try simp only [Act.put,List.setIfInBounds_toArray,List.set_cons_zero,List.set_cons_succ])
      refine relTold rfl rfl ?_ ?_
      ·intro F hF hf d
       have hFc:=hF.cell
       have hFf:=hF.frozen
       simp [yieldsR,yieldsUpon,go_sem,hFc,hz5,hz6,e0,e1,e2,s3]
       have hB9:=bstep HB5.out (hF.below d)
       refine (cO.out (F d) a3 b3 d3 (m3.out.up hB9)).mono ?_
       rintro e' w8 ⟨v8,rfl,h8,hB8⟩
       exact ⟨_,rfl,h8.low (Nat.le_trans HO.out.2.size hB9.size),hB8⟩
      (try simp only [Act.put,List.setIfInBounds_toArray,List.set_cons_zero,List.set_cons_succ])
      refine relTold rfl rfl ?_ ?_
      ·intro F hF hf d
       have hFc:=hF.cell
       have hFf:=hF.frozen
       simp [yieldsR,yieldsUpon,go_sem]
       exact ⟨hf _ List.mem_cons_self (by rfl) d,Below.refl _ _⟩
      (try simp only [Act.put,List.setIfInBounds_toArray,List.set_cons_zero,List.set_cons_succ])
      refine relTold rfl rfl ?_ ?_
      ·intro F hF hf d
       have hFc:=hF.cell
       have hFf:=hF.frozen
       obtain ⟨u9,e9,h9⟩:=(hf _ (List.mem_cons_of_mem _ List.mem_cons_self) (by rfl) d).tup
       simp only [] at e9
       simp [yieldsR,yieldsUpon,go_sem,e9]
       exact ⟨h9,Below.refl _ _⟩
      (try simp only [Act.put,List.setIfInBounds_toArray,List.set_cons_zero,List.set_cons_succ])
      refine relQuiet rfl rfl ?_
      apply Exists.intro
      refine ⟨fun F hF hf K hK=>?_,?_⟩
      ·have hFc:=hF.cell
       have hFf:=hF.frozen
       obtain ⟨u9,e9,-⟩:=(hf _ (List.mem_cons_of_mem _ List.mem_cons_self) (by rfl) w).tup
       simp only [] at e9
       rw [e9] at hK ⊢
       go_big_quiet_op
       first|exact hK|(apply Exists.intro;refine ⟨fun _=>?_,?_⟩;(· fail);exact hK)
      (try simp only [Act.put,List.setIfInBounds_toArray,List.set_cons_zero,List.set_cons_succ])
      refine relEnd ?_
      exact rfl
     case pk1=>
      intro x
      simp only [putsK,List.foldl_cons,List.foldl_nil,Act.put,List.setIfInBounds_toArray,List.set_cons_zero,List.set_cons_succ]
     case yl1=>
      intro x hx
      obtain ⟨W9,h9⟩:=hx _ (List.mem_cons_of_mem _ List.mem_cons_self) (by rfl)
      obtain ⟨u9,e9,-⟩:=OutR.tup h9
      simp only [] at e9
      refine ⟨.bool xo.isSome,fun t ht=>?_,.inl ⟨by rfl,fun w=>?_⟩⟩
      ·cases ht
       rfl
      ·simp [execOp,Act.eval,e9,go_sem]
     intro w9 xs hB9 hf
     simp only [List.drop_succ_cons,List.drop_zero]
     have h7:=hf _ (List.mem_cons_of_mem _ (List.mem_cons_of_mem _ List.mem_cons_self))
     simp only [] at h7
     have hB9':=bstep HB5.out hB9
     have HO9:Hid (OwnS w9 w.heap.size (.slice (some ⟨q3,o3,none⟩) (k+1) cs) S∧Below w.heap.size w w9):=⟨HO.out.1.up hB9',bstep HO.out.2 hB9'⟩
     have HX9:Hid (w9.heap[w.heap.size]?=some (.cells #[.slice p n c,.slice (some ⟨q,o,none⟩) n2 c2] 26 (0,0))):=(hB9'.block _ hz1).trans HX.out
     clear hf hB9 hB9' e0 e1 e2 s3 m3 cO cK HB5
     cases xo with
     | none=>
      have er:r=none:=by
       rw [← HK.out.1]
       refine shN_stop (i:=k+1) ?_ hkl
       rw [shN_succ HS.out,HSK.out]
       (try (split <;> rfl))
      subst er
      obtain ⟨v7,e7⟩:∃ v7,xs 7=v7:=⟨_,rfl⟩
      rw [e7]
      clear h7 e7
      go_wp2
      go_ret2
      exact ⟨_,rfl,rfl,HO9.out.2⟩
     | some oo=>
      obtain ⟨p7,n7,c7,e7,h7⟩:=h7
      rw [e7]
      have HS2:Hid (shN d ls (k+1)=some (S++[oo])):=by
       show _=_
       rw [shN_succ HS.out,HSK.out,if_neg fun h=>h.2 Hsk.out]
       rfl
      obtain ⟨vs,hvs,hv4⟩:=HO9.out.1
      have hvl:vs.length=S.length:=by have:=hvs.1;omega
      have HV:Hid (OwnK .i64 3 w9 w.heap.size (.slice p7 n7 c7) oo∧w9.ownsRow w.heap.size 23 1 (.slice (some ⟨q3,o3,none⟩) (k+1) cs) (k+1) vs∧vs.length=S.length∧∀ i,i < S.length→∃ a b c,vs[i]?=some (.slice a b c)∧OwnK .i64 3 w9 w.heap.size (.slice a b c) (shA S i)):=⟨h7,by rw [HSL.out] at hvs;exact hvs,hvl,hv4⟩
      have hk9:k+1+1≤1073741825:=by omega
      clear h7 e7 hvs hv4 hvl HSK HN
      have H5:Hid ((w9.alloc (.cells #[.slice p7 n7 c7] 23)).ownsRow w.heap.size 23 1 (.slice (some ⟨q3,o3,none⟩) (k+1) cs) (k+1) vs):=owns_only (S:=[]) HV.out.2.1 (Only.of (up_alloc w9 _)) (by simp)
      have H6:Hid ((w9.alloc (.cells #[.slice p7 n7 c7] 23)).heap[w9.heap.size]?=some (.cells [.slice p7 n7 c7].toArray 23 (0,0))):=Array.getElem?_push_size
      have H7:Hid (∀ y∈[Value.slice p7 n7 c7],y.oneCell'=true):=fun y hy=>by simp at hy;subst hy;rfl
      have H8:Hid (w.heap.size≤(w9.alloc (.cells #[.slice p7 n7 c7] 23)).heap.size):=by show _≤_;have:=HO9.out.2.size;simp;omega
      have H9:Hid (∀ v0 w0,w0.ownsRow w.heap.size 23 1 v0 (k+1+1) (vs++[.slice p7 n7 c7])→Only [23] (w9.alloc (.cells #[.slice p7 n7 c7] 23)) w0→(∀ w',Below w.heap.size w' (w9.alloc (.cells #[.slice p7 n7 c7] 23))→Below w.heap.size w' w0)→(OwnS w0 w.heap.size v0 (S++[oo])∧Below w.heap.size w w0)∧w0.heap[w.heap.size]?=some (.cells #[.slice p n c,.slice (some ⟨q,o,none⟩) n2 c2] 26 (0,0))):=fun v0 w0 g1 g2 g3=>by
       have hb:=up_alloc w9 (.cells #[.slice p7 n7 c7] 23)
       refine ⟨⟨OwnS.push (W:=w9.alloc (.cells #[.slice p7 n7 c7] 23)) (vs:=vs) (by rw [HSL.out];exact g1) HV.out.2.2.1 (fun i hi=>?_) (HV.out.1.up hb) g2,g3 w (bstep HO9.out.2 hb)⟩,g2.keep ((hb.block _ (heap_lt HX9.out)).trans HX9.out) (by decide)⟩
       obtain ⟨a',b',c',e',h'⟩:=HV.out.2.2.2 i hi
       exact ⟨a',b',c',e',h'.up hb⟩
      clear HV HO9 HX9 HRD HO HX
      go_wp2_with (at_builtin;refine wpList_appG shT (by decide) (by decide) rfl (.tmp 43) (.tmp 45) rfl w.heap.size _ (k+1) vs rfl H5.out _ [.slice p7 n7 c7] rfl H6.out rfl H7.out hk9 H8.out ?_;intro v0 w0 H0 O0 B0)
      obtain ⟨hA,hX⟩:=H9.out v0 w0 H0.out O0.out B0.out
      have HA:Hid (OwnS w0 w.heap.size v0 (S++[oo])∧Below w.heap.size w w0):=hA
      have HXX:Hid (w0.heap[w.heap.size]?=some (.cells #[.slice p n c,.slice (some ⟨q,o,none⟩) n2 c2] 26 (0,0))):=hX
      clear hA hX H0 O0 B0 H5 H6 H7 H8 H9
      go_wp2
      go_roundg (n2 - (k+1))
      case measure=>omega
      case rel=>exact ⟨k+1,S++[oo],by omega,rfl,by first|rfl|simp,HA,HS2,HXX⟩
    ·rw [decide_eq_false hsk]
     have er:r=none:=by
      rw [← HK.out.1]
      refine shN_stop (i:=k+1) ?_ hkl
      rw [shN_succ HS.out,HSK.out,if_pos ⟨(kskip s).2 hk4,hsk⟩]
     subst er
     clear hsk hk4 cO cK HSK HN
     go_wp2
     go_ret2
     exact ⟨_,rfl,rfl,bstep HO.out.2 HB5.out⟩
   ·replace t4:=t4.trans (decide_eq_false hk4)
    have Hns:Hid (¬ s=kSkip):=fun h=>hk4 ((kskip s).1 h)
    clear hk4
    obtain ⟨q3,o3,a3,b3,d3,rfl,s3,m3'⟩:=HRD.out.2 k (by omega)
    have m3:Hid (Nums .i64 wr (.slice a3 b3 d3) (shA S k)):=m3'
    clear m3' g1
    go_wp2
    generalize hW3:World.alloc _ _=W3
    have HB5:Hid (Below wr.heap.size wr W3):=by rw [← hW3];exact up_alloc wr _
    obtain ⟨e0,e1,e2⟩:W3.cell? ⟨wr.heap.size,0,none⟩=some (.string s)∧W3.cell? ⟨wr.heap.size,1,none⟩=some (.int .i64 a)∧W3.cell? ⟨wr.heap.size,2,none⟩=some (.int .i64 b):=by rw [← hW3];simp [go_sem]
    replace s3:=still_cell HB5.out s3
    have hz5:=cell_size e0
    have hz6:=cell_size s3
    clear hW3 y0 y1 y2
    refine relE [⟨5,38,OutR xo w.heap.size⟩,⟨6,32,OutR xo w.heap.size⟩,⟨7,39,OutV xo w.heap.size⟩] 9 49 (by kernel_rfl) rfl rfl 8 _ rfl (by decide) rfl (by kernel_rfl) (by kernel_rfl) (fun _ _ _ _ h=>h) (by rfl) ?_ ?_
    ·intro e he v W W' h hb
     simp only [List.mem_cons,List.not_mem_nil,or_false] at he
     rcases he with rfl|rfl|rfl
     ·exact OutR.up h hb
     ·exact OutR.up h hb
     ·exact OutV.up h hb
    apply Exists.intro
    refine ⟨?yl2,?wk2,?pk2,?rest2⟩
    case wk2=>
     intro x
     simp only [List.take_succ_cons,List.take_zero]
     iterate 5
      refine relQuiet rfl rfl ?_
      apply Exists.intro
      refine ⟨fun F hF hf K hK=>?_,?_⟩
      ·have hFc:=hF.cell
       have hFf:=hF.frozen
       go_big_quiet_op
       first|exact hK|(apply Exists.intro;refine ⟨fun _=>?_,?_⟩;(· fail);exact hK)
      (try simp only [Act.put,List.setIfInBounds_toArray,List.set_cons_zero,List.set_cons_succ])
     refine relTold rfl rfl ?_ ?_
     ·intro F hF hf d
      have hFc:=hF.cell
      have hFf:=hF.frozen
      simp [yieldsR,yieldsUpon,go_sem,hFc,hz5,hz6,e0,e1,e2,s3]
      have hB9:=bstep HB5.out (hF.below d)
      refine (cO.out (F d) a3 b3 d3 (m3.out.up hB9)).mono ?_
      rintro e' w8 ⟨v8,rfl,h8,hB8⟩
      exact ⟨_,rfl,h8.low (Nat.le_trans HO.out.2.size hB9.size),hB8⟩
     (try simp only [Act.put,List.setIfInBounds_toArray,List.set_cons_zero,List.set_cons_succ])
     refine relTold rfl rfl ?_ ?_
     ·intro F hF hf d
      have hFc:=hF.cell
      have hFf:=hF.frozen
      simp [yieldsR,yieldsUpon,go_sem]
      exact ⟨hf _ List.mem_cons_self (by rfl) d,Below.refl _ _⟩
     (try simp only [Act.put,List.setIfInBounds_toArray,List.set_cons_zero,List.set_cons_succ])
     refine relTold rfl rfl ?_ ?_
     ·intro F hF hf d
      have hFc:=hF.cell
      have hFf:=hF.frozen
      obtain ⟨u9,e9,h9⟩:=(hf _ (List.mem_cons_of_mem _ List.mem_cons_self) (by rfl) d).tup
      simp only [] at e9
      simp [yieldsR,yieldsUpon,go_sem,e9]
      exact ⟨h9,Below.refl _ _⟩
     (try simp only [Act.put,List.setIfInBounds_toArray,List.set_cons_zero,List.set_cons_succ])
     refine relQuiet rfl rfl ?_
     apply Exists.intro
     refine ⟨fun F hF hf K hK=>?_,?_⟩
     ·have hFc:=hF.cell
      have hFf:=hF.frozen
      obtain ⟨u9,e9,-⟩:=(hf _ (List.mem_cons_of_mem _ List.mem_cons_self) (by rfl) w).tup
      simp only [] at e9
      rw [e9] at hK ⊢
      go_big_quiet_op
      first|exact hK|(apply Exists.intro;refine ⟨fun _=>?_,?_⟩;(· fail);exact hK)
     (try simp only [Act.put,List.setIfInBounds_toArray,List.set_cons_zero,List.set_cons_succ])
     refine relEnd ?_
     exact rfl
    case pk2=>
     intro x
     simp only [putsK,List.foldl_cons,List.foldl_nil,Act.put,List.setIfInBounds_toArray,List.set_cons_zero,List.set_cons_succ]
    case yl2=>
     intro x hx
     obtain ⟨W9,h9⟩:=hx _ (List.mem_cons_of_mem _ List.mem_cons_self) (by rfl)
     obtain ⟨u9,e9,-⟩:=OutR.tup h9
     simp only [] at e9
     refine ⟨.bool xo.isSome,fun t ht=>?_,.inl ⟨by rfl,fun w=>?_⟩⟩
     ·cases ht
      rfl
     ·simp [execOp,Act.eval,e9,go_sem]
    intro w9 xs hB9 hf
    simp only [List.drop_succ_cons,List.drop_zero]
    have h7:=hf _ (List.mem_cons_of_mem _ (List.mem_cons_of_mem _ List.mem_cons_self))
    simp only [] at h7
    have hB9':=bstep HB5.out hB9
    have HO9:Hid (OwnS w9 w.heap.size (.slice (some ⟨q3,o3,none⟩) (k+1) cs) S∧Below w.heap.size w w9):=⟨HO.out.1.up hB9',bstep HO.out.2 hB9'⟩
    have HX9:Hid (w9.heap[w.heap.size]?=some (.cells #[.slice p n c,.slice (some ⟨q,o,none⟩) n2 c2] 26 (0,0))):=(hB9'.block _ hz1).trans HX.out
    clear hf hB9 hB9' e0 e1 e2 s3 m3 cO cK HB5
    cases xo with
    | none=>
     have er:r=none:=by
      rw [← HK.out.1]
      refine shN_stop (i:=k+1) ?_ hkl
      rw [shN_succ HS.out,HSK.out]
      (try (split <;> rfl))
     subst er
     obtain ⟨v7,e7⟩:∃ v7,xs 7=v7:=⟨_,rfl⟩
     rw [e7]
     clear h7 e7
     go_wp2
     go_ret2
     exact ⟨_,rfl,rfl,HO9.out.2⟩
    | some oo=>
     obtain ⟨p7,n7,c7,e7,h7⟩:=h7
     rw [e7]
     have HS2:Hid (shN d ls (k+1)=some (S++[oo])):=by
      show _=_
      rw [shN_succ HS.out,HSK.out,if_neg fun h=>Hns.out h.1]
      rfl
     obtain ⟨vs,hvs,hv4⟩:=HO9.out.1
     have hvl:vs.length=S.length:=by have:=hvs.1;omega
     have HV:Hid (OwnK .i64 3 w9 w.heap.size (.slice p7 n7 c7) oo∧w9.ownsRow w.heap.size 23 1 (.slice (some ⟨q3,o3,none⟩) (k+1) cs) (k+1) vs∧vs.length=S.length∧∀ i,i < S.length→∃ a b c,vs[i]?=some (.slice a b c)∧OwnK .i64 3 w9 w.heap.size (.slice a b c) (shA S i)):=⟨h7,by rw [HSL.out] at hvs;exact hvs,hvl,hv4⟩
     have hk9:k+1+1≤1073741825:=by omega
     clear h7 e7 hvs hv4 hvl HSK HN
     have H5:Hid ((w9.alloc (.cells #[.slice p7 n7 c7] 23)).ownsRow w.heap.size 23 1 (.slice (some ⟨q3,o3,none⟩) (k+1) cs) (k+1) vs):=owns_only (S:=[]) HV.out.2.1 (Only.of (up_alloc w9 _)) (by simp)
     have H6:Hid ((w9.alloc (.cells #[.slice p7 n7 c7] 23)).heap[w9.heap.size]?=some (.cells [.slice p7 n7 c7].toArray 23 (0,0))):=Array.getElem?_push_size
     have H7:Hid (∀ y∈[Value.slice p7 n7 c7],y.oneCell'=true):=fun y hy=>by simp at hy;subst hy;rfl
     have H8:Hid (w.heap.size≤(w9.alloc (.cells #[.slice p7 n7 c7] 23)).heap.size):=by show _≤_;have:=HO9.out.2.size;simp;omega
     have H9:Hid (∀ v0 w0,w0.ownsRow w.heap.size 23 1 v0 (k+1+1) (vs++[.slice p7 n7 c7])→Only [23] (w9.alloc (.cells #[.slice p7 n7 c7] 23)) w0→(∀ w',Below w.heap.size w' (w9.alloc (.cells #[.slice p7 n7 c7] 23))→Below w.heap.size w' w0)→(OwnS w0 w.heap.size v0 (S++[oo])∧Below w.heap.size w w0)∧w0.heap[w.heap.size]?=some (.cells #[.slice p n c,.slice (some ⟨q,o,none⟩) n2 c2] 26 (0,0))):=fun v0 w0 g1 g2 g3=>by
      have hb:=up_alloc w9 (.cells #[.slice p7 n7 c7] 23)
      refine ⟨⟨OwnS.push (W:=w9.alloc (.cells #[.slice p7 n7 c7] 23)) (vs:=vs) (by rw [HSL.out];exact g1) HV.out.2.2.1 (fun i hi=>?_) (HV.out.1.up hb) g2,g3 w (bstep HO9.out.2 hb)⟩,g2.keep ((hb.block _ (heap_lt HX9.out)).trans HX9.out) (by decide)⟩
      obtain ⟨a',b',c',e',h'⟩:=HV.out.2.2.2 i hi
      exact ⟨a',b',c',e',h'.up hb⟩
     clear HV HO9 HX9 HRD HO HX
     go_wp2_with (at_builtin;refine wpList_appG shT (by decide) (by decide) rfl (.tmp 43) (.tmp 45) rfl w.heap.size _ (k+1) vs rfl H5.out _ [.slice p7 n7 c7] rfl H6.out rfl H7.out hk9 H8.out ?_;intro v0 w0 H0 O0 B0)
     obtain ⟨hA,hX⟩:=H9.out v0 w0 H0.out O0.out B0.out
     have HA:Hid (OwnS w0 w.heap.size v0 (S++[oo])∧Below w.heap.size w w0):=hA
     have HXX:Hid (w0.heap[w.heap.size]?=some (.cells #[.slice p n c,.slice (some ⟨q,o,none⟩) n2 c2] 26 (0,0))):=hX
     clear hA hX H0 O0 B0 H5 H6 H7 H8 H9
     go_wp2
     go_roundg (n2 - (k+1))
     case measure=>omega
     case rel=>exact ⟨k+1,S++[oo],by omega,rfl,by first|rfl|simp,HA,HS2,HXX⟩
  ·obtain rfl:k=n2:=by omega
   have er:r=some S:=by rw [← HK.out.1,HK.out.2.1.1];exact HS.out
   subst er
   go_wp2
   go_ret2
   exact ⟨_,rfl,⟨_,rfl,by have:=HO.out.1;exact this⟩,HO.out.2⟩
theorem Shapes_any (p p2:Option Addr) (n c n2 c2:Nat) (d:List Int) (ls:List Ly) (hbig:n2≤1073741823) (w:World) (hK:Hid (Kz w)) (h1:Nums .i64 w (.slice p n c) d) (hL:LyR 0 w p2 n2 ls):
  Calls Tryz.prog 17 #[.agg #[.slice p n c,.slice p2 n2 c2]] w fun e w'=>∃ ps cs,e = .returned (.tuple #[.slice ps (nS d ls).length cs,.int .i64 (nE d ls)])∧OwnS w' w.heap.size (.slice ps (nS d ls).length cs) (nS d ls)∧Below w.heap.size w w':=by
 obtain ⟨E,eE⟩:∃ E,nE d ls=E:=⟨_,rfl⟩
 obtain ⟨SS,eS⟩:∃ S,nS d ls=S:=⟨_,rfl⟩
 have HE:Hid (nE d ls=E∧nS d ls=SS):=⟨eE,eS⟩
 rw [eE,eS]
 clear eE eS
 obtain ⟨fb,efb⟩:∃ f,formB d ls=f:=⟨_,rfl⟩
 have cN:Hid (∀ W,Below w.heap.size w W→Calls Tryz.prog 35 #[.agg #[.slice p n c,.slice p2 n2 c2]] W fun e w'=>e = .returned (.bool fb)∧Below W.heap.size W w'):=fun W hW=>by
  rw [← efb]
  exact numbersFit_any p p2 n c n2 c2 d ls (by omega) W (Hid.up_kz hK hW) (h1.up hW) (hL.up hW)
 have HF:Hid (formB d ls=fb):=efb
 have HA:Hid (Nums .i64 w (.slice p n c) d∧LyR 0 w p2 n2 ls):=⟨h1,hL⟩
 clear efb h1 hL
 go_enter Tryz.func17,Tryz.ntmps17
 go_wp2_with fail
 generalize hW0:World.alloc _ _=W0
 have HB0:Hid (Below w.heap.size w W0):=by rw [← hW0];exact up_alloc w _
 obtain ⟨g0,g1⟩:W0.cell? ⟨w.heap.size,0,none⟩=some (.slice p n c)∧W0.cell? ⟨w.heap.size,1,none⟩=some (.slice p2 n2 c2):=by rw [← hW0];simp [go_sem]
 clear hW0
 refine (cN.out W0 HB0.out).mono ?_
 rintro e w1 ⟨rfl,hB1⟩
 have HB1:Hid (Below w.heap.size w w1):=bstep HB0.out hB1
 replace g0:=still_cell hB1 g0
 replace g1:=still_cell hB1 g1
 clear hB1 cN HB0
 cases fb with
 | false=>
  have e1:E=1:=by rw [← HE.out.1];exact nE_form (by rw [HF.out];simp)
  have e2:SS = []:=by rw [← HE.out.2];exact (nE_bad (by rw [HE.out.1,e1];decide)).1
  subst e1 e2
  go_wp2
  go_ret2
  exact ⟨_,_,rfl,OwnS.nil _ _,HB1.out⟩
 | true=>
 go_wp2_with fail
 refine (shapesOf_any p p2 n c n2 c2 d ls HF.out hbig w1 (HA.out.1.up HB1.out) (HA.out.2.up HB1.out)).mono ?_
 rintro e w2 ⟨v2,rfl,hr2,hB2⟩
 have HB2:Hid (Below w.heap.size w w2):=bstep HB1.out hB2
 replace g0:=still_cell hB2 g0
 replace g1:=still_cell hB2 g1
 obtain ⟨x,ex⟩:∃ x,shN d ls ls.length=x:=⟨_,rfl⟩
 rw [ex] at hr2
 cases x with
 | none=>
  have e1:E=4:=by rw [← HE.out.1];exact nE_none HF.out ex
  have e2:SS = []:=by rw [← HE.out.2];exact (nE_bad (by rw [HE.out.1,e1];decide)).1
  have hr:v2 = .tuple #[.slice none 0 0,.bool false]:=hr2
  subst e1 e2 hr
  clear hr2 ex hB2
  go_wp2
  go_ret2
  exact ⟨_,_,rfl,OwnS.nil _ _,HB2.out⟩
 | some S=>
  obtain ⟨u,rfl,hoS⟩:=hr2
  obtain ⟨ps,cs,rfl,hrd⟩:=hoS.rd
  obtain ⟨sl,esl⟩:∃ sl,S.length=sl:=⟨_,rfl⟩
  rw [esl] at hrd hoS ⊢
  have HS:Hid (OwnS w2 w.heap.size (.slice ps sl cs) S∧S.length=sl):=⟨hoS.low HB1.out.size,esl⟩
  obtain ⟨hd0,hl0⟩:=(formB_iff d ls).1 HF.out
  have cT:=tooMuch_any p p2 ps n c n2 c2 sl cs d ls S (NetOk.of HF.out ex) (fun k hk=>shN_in hd0 hl0 (Nat.le_refl _) ex k (by rw [← shN_len ex,esl];exact hk)) (by omega) w2 (HA.out.2.up HB2.out) hrd
  obtain ⟨q,eq⟩:∃ q,tooM ls S=q:=⟨_,rfl⟩
  rw [eq] at cT
  have HQ:Hid (tooM ls S=q∧shN d ls ls.length=some S):=⟨eq,ex⟩
  clear hoS hrd esl ex hB2 eq hd0 hl0
  go_wp2_with fail
  refine cT.mono ?_
  rintro e w3 ⟨rfl,hB3⟩
  have HB3:Hid (Below w.heap.size w w3):=bstep HB2.out hB3
  have HS3:Hid (OwnS w3 w.heap.size (.slice ps sl cs) S):=HS.out.1.up hB3
  clear hB3 cT
  cases q with
  | true=>
   have e1:E=2:=by rw [← HE.out.1];exact nE_too HF.out HQ.out.2 HQ.out.1
   have e2:SS = []:=by rw [← HE.out.2];exact (nE_bad (by rw [HE.out.1,e1];decide)).1
   subst e1 e2
   go_wp2
   go_ret2
   exact ⟨_,_,rfl,OwnS.nil _ _,HB3.out⟩
  | false=>
   have h3:=nE_ok HF.out HQ.out.2 HQ.out.1
   have e1:E=0:=by rw [← HE.out.1];exact h3.1
   have e2:SS=S:=by rw [← HE.out.2];exact h3.2.1
   subst e1 e2
   clear h3
   go_wp2
   go_ret2
   rw [HS.out.2]
   exact ⟨_,_,rfl,HS3.out,HB3.out⟩
theorem Params_any (p p2:Option Addr) (n c n2 c2:Nat) (d:List Int) (ls:List Ly) (hbig:n2≤1073741823) (w:World) (hK:Hid (Kz w)) (h1:Nums .i64 w (.slice p n c) d) (hL:LyR 0 w p2 n2 ls):
  Calls Tryz.prog 11 #[.agg #[.slice p n c,.slice p2 n2 c2]] w fun e w'=>e = .returned (.tuple #[.int .i64 (nP d ls),.int .i64 (nE d ls)])∧Below w.heap.size w w':=by
 obtain ⟨E,eE⟩:∃ E,nE d ls=E:=⟨_,rfl⟩
 obtain ⟨PN,eP⟩:∃ P,nP d ls=P:=⟨_,rfl⟩
 obtain ⟨SS,eS⟩:∃ S,nS d ls=S:=⟨_,rfl⟩
 obtain ⟨sl,esl⟩:∃ sl,SS.length=sl:=⟨_,rfl⟩
 have HE:Hid (nE d ls=E∧nP d ls=PN∧nS d ls=SS∧SS.length=sl):=⟨eE,eP,eS,esl⟩
 have cS:Hid (∀ W,Below w.heap.size w W→Calls Tryz.prog 17 #[.agg #[.slice p n c,.slice p2 n2 c2]] W fun e w'=>∃ ps cs,e = .returned (.tuple #[.slice ps sl cs,.int .i64 E])∧OwnS w' W.heap.size (.slice ps sl cs) SS∧Below W.heap.size W w'):=fun W hW=>by
  have:=Shapes_any p p2 n c n2 c2 d ls hbig W (Hid.up_kz hK hW) (h1.up hW) (hL.up hW)
  rw [eE,eS,esl] at this
  exact this
 have HA:Hid (LyR 0 w p2 n2 ls):=hL
 rw [eE,eP]
 clear eE eP eS esl h1 hL
 go_enter Tryz.func11,Tryz.ntmps11
 go_wp2_with fail
 generalize hW0:World.alloc _ _=W0
 have HB0:Hid (Below w.heap.size w W0):=by rw [← hW0];exact up_alloc w _
 obtain ⟨g0,g1⟩:W0.cell? ⟨w.heap.size,0,none⟩=some (.slice p n c)∧W0.cell? ⟨w.heap.size,1,none⟩=some (.slice p2 n2 c2):=by rw [← hW0];simp [go_sem]
 clear hW0
 refine (cS.out W0 HB0.out).mono ?_
 rintro e w1 ⟨ps,cs,rfl,hoS,hB1⟩
 have HB1:Hid (Below w.heap.size w w1):=bstep HB0.out hB1
 replace g0:=still_cell hB1 g0
 replace g1:=still_cell hB1 g1
 by_cases h0:E=0
 ·subst h0
  obtain ⟨S,hf,hs,ht⟩:=net_good HE.out.1
  obtain ⟨_,h4,h5⟩:=nE_ok hf hs ht
  rw [HE.out.2.2.1] at h4
  subst h4
  obtain ⟨p',c',e',hrd⟩:=hoS.rd
  cases e'
  have cc:=countParams_any p p2 ps n c n2 c2 _ cs d ls SS (NetOk.of hf hs) (by omega) w1 (HA.out.up HB1.out) hrd
  rw [← h5,HE.out.2.1] at cc
  clear hoS hB1 hf hs ht h5 hrd cS
  go_wp2_with fail
  refine cc.mono ?_
  rintro e w2 ⟨rfl,hB2⟩
  have HB2:Hid (Below w.heap.size w w2):=bstep HB1.out hB2
  clear hB2 cc
  go_wp2
  go_ret2
  exact ⟨rfl,HB2.out⟩
 ·have hE':(E != 0)=true:=by simpa using h0
  have eP:PN=0:=by rw [← HE.out.2.1];exact (nE_bad (by rw [HE.out.1];exact h0)).2
  subst eP
  clear hoS hB1 cS
  go_wp2
  go_ret2
  exact ⟨rfl,HB1.out⟩
/-- A byte of a text, as the walk reads it. -/
theorem byte_run (s:ByteArray) (i:Nat) (h:i < s.size) (x:Int) (hx:(((s.get! i).toNat:Nat):Int)=x) (W:World):(Instr.index 9 (.string s) (.int .i64 (i:Int))).run Tryz.prog W = .ok (.int .u8 x) W:=by
 rw [run_index_string (P:=Tryz.prog) W 9 s .i64 (i:Int) Tryz.underlying9,dif_pos ⟨by omega,by omega⟩,← hx]
 have e:s[(i:Int).toNat]'(by simpa using h)=s.get! i:=by
  have h2:(i:Int).toNat=i:=by simp
  simp only [h2]
  exact (getElem!_pos s.data i h).symm
 rw [e]
theorem numberOf_any (s:ByteArray) (w:World):
  Calls Tryz.prog 49 #[.string s] w fun e w'=>e = .returned (.tuple #[.int .i64 ((numB s).getD 0),.bool (numB s).isSome])∧w'=w:=by
 obtain ⟨r,er⟩:∃ r,numB s=r:=⟨_,rfl⟩
 have HR:Hid (numB s=r):=er
 rw [er]
 clear er
 obtain ⟨n,en⟩:∃ n,s.size=n:=⟨_,rfl⟩
 have HN:Hid (s.size=n):=en
 go_enter Tryz.func49,Tryz.ntmps49
 by_cases h0:n=0
 ·subst h0
  have e:r=none:=by rw [← HR.out];unfold numB;rw [if_neg fun h=>by have:=h.1.1.1;omega]
  subst e
  have en':((s.size:Nat):Int)=0:=by rw [en];rfl
  go_wp2
  go_ret2
  exact ⟨rfl,rfl⟩
 have g0:((n:Int)==0)=false:=by simpa using (show (n:Int)≠0 by omega)
 by_cases h4:4 < n
 ·have h4':(4:Int) < (n:Int):=by omega
  have e:r=none:=by rw [← HR.out];unfold numB;rw [if_neg fun h=>by have:=h.1.1.2;omega]
  subst e
  go_wp2
  go_ret2
  exact ⟨rfl,rfl⟩
 have h4':(n:Int)≤4:=by omega
 obtain ⟨b0,eb0⟩:∃ x,(((s.get! 0).toNat:Nat):Int)=x:=⟨_,rfl⟩
 have hb0:=byte_run s 0 (by omega) b0 eb0
 rw [show ((0:Nat):Int)=0 from rfl] at hb0
 have HZ:Hid (numB s=if ¬ (1 < n∧b0=48)∧allDig s n=true then some (numV s n) else none):=by
  show _=_
  subst en
  unfold numB
  by_cases hc:1 < s.size∧b0=48
  ·rw [if_neg,if_neg fun h=>h.1 hc]
   intro h
   exact h.1.2 ⟨by omega,by have:=hc.2;omega⟩
  ·by_cases hd:allDig s s.size=true
   ·rw [if_pos ⟨⟨⟨by omega,by omega⟩,fun h=>hc ⟨by omega,by have:=h.2;omega⟩⟩,hd⟩,if_pos ⟨hc,hd⟩]
   ·rw [if_neg fun h=>hd h.2,if_neg fun h=>hd h.2]
 clear eb0
 by_cases hc:1 < n∧b0=48
 ·have e:r=none:=by rw [← HR.out,HZ.out,if_neg fun h=>h.1 hc]
  obtain ⟨hc1,hc2⟩:=hc
  subst e hc2
  have hc1':(1:Int) < (n:Int):=by omega
  clear HZ HR
  go_wp2
  go_ret2
  exact ⟨rfl,rfl⟩
 have HZ2:Hid (r=if allDig s n=true then some (numV s n) else none):=by
  show _=_
  rw [← HR.out,HZ.out]
  by_cases hd:allDig s n=true
  ·rw [if_pos ⟨hc,hd⟩,if_pos hd]
  ·rw [if_neg fun h=>hd h.2,if_neg hd]
 have hway:(n:Int)≤1∨(1 < (n:Int)∧(b0==48)=false):=by
  rcases Nat.lt_or_ge 1 n with h|h
  ·exact .inr ⟨by omega,by simpa using fun e=>hc ⟨h,e⟩⟩
  ·exact .inl (by omega)
 clear HZ hc HR
 rcases hway with hn1|⟨hn1,hb48⟩
 all_goals
  go_wp2_with fail
  go_loopg [4,26] n (fun gg u v wr=>∃ (k:Nat) (x:Int),k≤n∧gg=n - k∧u = .int .i64 x∧v = .int .i64 (k:Int)∧Hid (x=numV s k∧allDig s k=true)∧wr=w)
  case atStart=>exact ⟨0,0,by omega,by omega,rfl,rfl,⟨rfl,rfl⟩,rfl⟩
  case round=>
   obtain ⟨k,x,hk,hg,rfl,rfl,Hx,rfl⟩:=hrel
   by_cases hkn:k < n
   ·have hk':(k:Int) < (n:Int):=by omega
    obtain ⟨b,eb⟩:∃ b,(((s.get! k).toNat:Nat):Int)=b:=⟨_,rfl⟩
    have hb:=byte_run s k (by omega) b eb
    have hbr:0≤b∧b≤255:=by
     have:=(s.get! k).toNat_lt
     omega
    have hxr:=numV_small (show k≤4 by omega) Hx.out.2
    rw [← Hx.out.1] at hxr
    have Hb:Hid ((((s.get! k).toNat:Nat):Int)=b):=eb
    clear eb
    by_cases h48:b < 48
    ·have e:r=none:=by
      rw [HZ2.out,if_neg fun h=>?_]
      have:=of_decide_eq_true (allDig_le h hkn)
      have:=Hb.out
      omega
     subst e
     clear HZ2
     go_wp2
     go_ret2
     exact ⟨rfl,rfl⟩
    by_cases h57:57 < b
    ·have e:r=none:=by
      rw [HZ2.out,if_neg fun h=>?_]
      have:=of_decide_eq_true (allDig_le h hkn)
      have:=Hb.out
      omega
     subst e
     have h48':48≤b:=by omega
     clear HZ2
     go_wp2
     go_ret2
     exact ⟨rfl,rfl⟩
    have h48':48≤b:=by omega
    have h57':b≤57:=by omega
    obtain ⟨y,ey⟩:∃ y,x*10+(b - 48)=y:=⟨_,rfl⟩
    have HY:Hid (y=numV s (k+1)∧allDig s (k+1)=true):=by
     refine ⟨by rw [← ey,Hx.out.1,← Hb.out];rfl,?_⟩
     simp only [allDig,Hx.out.2,Bool.true_and]
     exact decide_eq_true (by have:=Hb.out;omega)
    go_wp2
    go_roundg (n - (k+1))
    case measure=>omega
    case rel=>exact ⟨k+1,y,by omega,rfl,by first|rfl|simp [ey],by first|rfl|simp,HY,rfl⟩
   ·obtain rfl:k=n:=by omega
    have e:r=some x:=by rw [HZ2.out,if_pos Hx.out.2,Hx.out.1]
    subst e
    clear HZ2
    go_wp2
    go_ret2
    exact ⟨rfl,rfl⟩
def wdA (ws:List ByteArray) (i:Nat):ByteArray:=ws.getD i ⟨#[]⟩
/-- A slice of words. -/
def StrV (W:World) (v:Value) (ws:List ByteArray):Prop:=∃ p c,v = .slice p ws.length c∧ws.length≤c∧∀ i,i < ws.length→∃ q o,p=some ⟨q,o,none⟩∧W.cell? ⟨q,o+i,none⟩=some (.string (wdA ws i))
theorem StrV.up {W W':World} {v:Value} {ws:List ByteArray} (h:StrV W v ws) (hB:Below W.heap.size W W'):StrV W' v ws:=by
 obtain ⟨p,c,e,hc,h⟩:=h
 exact ⟨p,c,e,hc,fun i hi=>by
  obtain ⟨q,o,e,h⟩:=h i hi
  exact ⟨q,o,e,still_cell hB h⟩⟩
theorem cutS_run (p:Option Addr) (n cap:Nat) (h:1≤n) (W:World):Sem.run Tryz.prog (Instr.slice 54 (.slice p n cap) (some (.int .i64 1)) none none) W = .ok (sliced p 1 n cap 1) W:=by
 have hz:∀ W,Sem.run Tryz.prog (sizeOf (Tryz.prog.elem 54)) W = .ok 1 W:=fun W=>by kernel_rfl
 have:=run_slice_l (P:=Tryz.prog) W 54 p n cap (by kernel_rfl) .i64 1 (by omega) (by omega)
 rw [this,hz]
 simp [Result.andThen]
theorem cutS {W:World} {p:Option Addr} {n cap:Nat} {x:ByteArray} {ws:List ByteArray} (h:StrV W (.slice p n cap) (x :: ws)):∃ p' n' c',sliced p 1 n cap 1 = .slice p' n' c'∧StrV W (.slice p' n' c') ws:=by
 obtain ⟨p0,c0,e,hc,h⟩:=h
 cases e
 refine ⟨_,_,_,rfl,(if cap=1 then p else p.map (·.add (1*1))),cap - 1,by simp,by simp only [List.length_cons] at hc;omega,fun i hi=>?_⟩
 obtain ⟨q,o,e,hx⟩:=h (i+1) (by simp only [List.length_cons];omega)
 obtain ⟨q0,o0,e0,_⟩:=h 0 (by simp)
 subst e0
 cases e
 simp only [List.length_cons] at hc
 refine ⟨q,o+1,?_,?_⟩
 ·rw [if_neg (by omega)]
  simp [addr_plus]
 ·rw [show o+1+i=o+(i+1) by omega]
  exact hx
theorem StrV.form {W:World} {v:Value} {ws:List ByteArray} (h:StrV W v ws):∃ p n c,v = .slice p n c∧ws.length=n:=by
 obtain ⟨p,c,e,_⟩:=h
 exact ⟨p,_,c,e,rfl⟩
theorem numbersAhead_any (v:Value) (ws:List ByteArray) (m:Nat) (hm:m≤2) (wB w:World) (hB:Below wB.heap.size wB w) (hv:StrV wB v ws):
  Calls Tryz.prog 30 #[v,.int .i64 (m:Int)] w fun e w'=>∃ v1 v2,e = .returned (.tuple #[v1,v2])∧OwnK .i64 3 w' w.heap.size v1 (numsA ws m).1∧StrV wB v2 (numsA ws m).2∧Below w.heap.size w w':=by
 obtain ⟨p0,n0,c0,rfl,hn0⟩:=hv.form
 have HV:Hid (StrV wB (.slice p0 n0 c0) ws):=hv
 have HWB:Hid (Below wB.heap.size wB w):=hB
 obtain ⟨R,eR⟩:∃ R,numsA ws m=R:=⟨_,rfl⟩
 have HR:Hid (numsA ws m=R):=eR
 rw [eR]
 clear eR hv hB
 have hm2:(m:Int)≤2:=by omega
 go_enter Tryz.func30,Tryz.ntmps30
 go_wp2_with fail
 go_loopg [0,6] n0 (fun gg u v wr=>∃ (us:List ByteArray) (acc:List Int),gg=us.length∧Hid (StrV wB u us∧OwnK .i64 3 wr w.heap.size v acc∧Below w.heap.size w wr)∧acc.length≤m∧Hid (R=(acc++(numsA us (m - acc.length)).1,(numsA us (m - acc.length)).2)))
 case atStart=>exact ⟨ws,[],hn0.symm,⟨HV.out,OwnK.nil _ _ _ _,Below.refl _ _⟩,by simp,by show _=_;rw [← HR.out];simp⟩
 case round=>
  obtain ⟨us,acc,hg,HI,hacc,HE⟩:=hrel
  obtain ⟨pu,nu,cu,rfl,hnu⟩:=HI.out.1.form
  obtain ⟨pa,na,ca,rfl,HCa⟩:=HI.out.2.1.nums.lst
  have hna:=HCa.out.1
  clear HCa
  cases us with
  | nil=>
   obtain rfl:nu=0:=by simpa using hnu.symm
   have eR:R=(acc,[]):=by rw [HE.out];simp [numsA]
   subst eR
   go_wp2
   go_ret2
   exact ⟨_,_,rfl,HI.out.2.1,HI.out.1,HI.out.2.2⟩
  | cons u us=>
   obtain rfl:nu=us.length+1:=by simpa using hnu.symm
   have hnu0:(0:Int) < ((us.length+1:Nat):Int):=by omega
   by_cases ham:acc.length < m
   case neg=>
    have hna':(m:Int)≤(na:Int):=by omega
    have eR:R=(acc,u :: us):=by rw [HE.out,show m - acc.length=0 by omega,numsA_zero];simp
    subst eR
    go_wp2
    go_ret2
    exact ⟨_,_,rfl,HI.out.2.1,HI.out.1,HI.out.2.2⟩
   have hna':(na:Int) < (m:Int):=by omega
   obtain ⟨pp,cc,e,hcc,hcell⟩:=HI.out.1.up (bstep HWB.out HI.out.2.2)
   cases e
   obtain ⟨q,o,rfl,h0⟩:=hcell 0 (by simp)
   rw [Nat.add_zero] at h0
   have h00:wr.cell? ⟨q,o,none⟩=some (.string u):=h0
   clear h0 hcell
   obtain ⟨p',n',c',es,hcut⟩:=cutS HI.out.1
   have hrun:=cutS_run (some ⟨q,o,none⟩) (us.length+1) cu (by omega)
   rw [es] at hrun
   have HCut:Hid (StrV wB (.slice p' n' c') us):=hcut
   clear hcut es
   have cn:=numberOf_any u wr
   obtain ⟨x,ex⟩:∃ x,numB u=x:=⟨_,rfl⟩
   rw [ex] at cn
   cases x with
   | none=>
    have eR:R=(acc,u :: us):=by rw [HE.out,show m - acc.length=m - acc.length - 1+1 by omega,numsA_none ex];simp
    subst eR
    simp only [Option.getD_none,Option.isSome_none] at cn
    clear ex
    go_wp2_with fail
    refine cn.mono ?_
    rintro e w1 ⟨rfl,rfl⟩
    clear cn
    go_wp2
    go_ret2
    exact ⟨_,_,rfl,HI.out.2.1,HI.out.1,HI.out.2.2⟩
   | some x=>
    have HE2:Hid (R=((acc++[x])++(numsA us (m - (acc++[x]).length)).1,(numsA us (m - (acc++[x]).length)).2)):=by
     show _=_
     rw [HE.out,show m - acc.length=m - (acc++[x]).length+1 by simp;omega,numsA_some ex]
     simp
    simp only [Option.getD_some,Option.isSome_some] at cn
    clear ex HE
    go_wp2_with fail
    refine cn.mono ?_
    rintro e w1 ⟨rfl,rfl⟩
    clear cn
    have H5:Hid (OwnK .i64 3 (w1.alloc (.cells #[.int .i64 x] 3)) w.heap.size (.slice pa na ca) acc):=HI.out.2.1.up (up_alloc w1 _)
    have H6:Hid (Nums .i64 (w1.alloc (.cells #[.int .i64 x] 3)) (.slice (some ⟨w1.heap.size,0,none⟩) 1 1) [x]):=nums_lit (k:=.i64) w1 [x] 1 (0,0) rfl
    have H7:Hid (acc.length+[x].length≤1073741824):=by show _≤_;simp;omega
    have H8:Hid (w.heap.size≤(w1.alloc (.cells #[.int .i64 x] 3)).heap.size):=by show _≤_;have:=HI.out.2.2.size;simp;omega
    have H9:Hid (Below w1.heap.size w1 (w1.alloc (.cells #[.int .i64 x] 3))):=up_alloc w1 _
    have H10:Hid (Below w.heap.size w (w1.alloc (.cells #[.int .i64 x] 3))):=blit HI.out.2.2 _
    clear HI h00
    go_wp2_with (at_builtin;refine wpList_appendK numT (by decide) rfl (.tmp 27) (.tmp 29) rfl w.heap.size _ acc rfl H5.out _ [x] rfl H6.out H7.out H8.out w H10.out ?_;intro v0 w0 H0 B0)
    have HF:Hid (StrV wB (.slice p' n' c') us∧OwnK .i64 3 w0 w.heap.size v0 (acc++[x])∧Below w.heap.size w w0):=⟨HCut.out,H0.out,B0⟩
    clear HCut H0 B0 H5 H6 H7 H8 H9 H10
    go_wp2
    go_roundg us.length
    case measure=>rw [hg];simp
    case rel=>exact ⟨us,acc++[x],rfl,HF,by simp;omega,HE2⟩
theorem box_3 {W:World} {b:Nat} {v0 v1 v2:Value} {e:TypeId} (h:W.heap[b]?=some (.cells #[v0,v1,v2] e (0,0))):(W.cell? ⟨b,0,none⟩=some v0∧W.frozen? ⟨b,0,none⟩=false)∧(W.cell? ⟨b,1,none⟩=some v1∧W.frozen? ⟨b,1,none⟩=false)∧(W.cell? ⟨b,2,none⟩=some v2∧W.frozen? ⟨b,2,none⟩=false):=by
 simp [World.cell?,World.frozen?,h]
theorem three_set {W U:World} {b:Nat} {t:TypeId} {a0 a1 a2 x0 x1 x2:Value} (h:W.heap[b]?=some (.cells #[a0,a1,a2] t (0,0))) (e:((W.setCell ⟨b,0,none⟩ x0).setCell ⟨b,1,none⟩ x1).setCell ⟨b,2,none⟩ x2=U):
  U.cell? ⟨b,0,none⟩=some x0∧U.cell? ⟨b,1,none⟩=some x1∧U.cell? ⟨b,2,none⟩=some x2∧∀ w B,B≤b→Below B w W→Below B w U:=by
 have h4:U.heap[b]?=some (.cells #[x0,x1,x2] t (0,0)):=by
  rw [← e,heap_setat (heap_setat (heap_setat h))]
  rfl
 refine ⟨by simp [World.cell?,h4],by simp [World.cell?,h4],by simp [World.cell?,h4],fun w B hb hB=>?_⟩
 rw [← e]
 exact ((hB.setCell (p:=⟨b,0,none⟩) hb _).setCell (p:=⟨b,1,none⟩) hb _).setCell (p:=⟨b,2,none⟩) hb _
theorem layerOf_any (nm:ByteArray) (c1 c2 c3:Int) (l:List Int) (hl:l.length≤2) (p:Option Addr) (n c:Nat) (w:World) (hv:Nums .i64 w (.slice p n c) l):
  Calls Tryz.prog 32 #[.agg #[.string nm,.int .i64 c1,.int .i64 c2,.int .i64 c3],.slice p n c] w fun e w'=>e = .returned (.agg #[.string nm,.int .i64 (l.getD 0 0),.int .i64 (l.getD 1 0)])∧Below w.heap.size w w':=by
 obtain ⟨x,ex⟩:∃ x,l.getD 0 0=x:=⟨_,rfl⟩
 obtain ⟨y,ey⟩:∃ y,l.getD 1 0=y:=⟨_,rfl⟩
 have HL:Hid (l.getD 0 0=x∧l.getD 1 0=y∧l.length≤2):=⟨ex,ey,hl⟩
 rw [ex,ey]
 clear ex ey hl
 have HV:Hid (Nums .i64 w (.slice p n c) l):=hv
 have hn:Hid (l.length=n):=by
  obtain ⟨_,_,_,e,h⟩:=hv.lst
  cases e
  exact h.out.1
 clear hv
 obtain ⟨WA,eWA⟩:∃ WA,(((w.alloc (.cells #[.string nm,.int .i64 c1,.int .i64 c2,.int .i64 c3] 84)).alloc (.cells #[.string ⟨#[]⟩,.int .i64 0,.int .i64 0] 65)).alloc (.cells #[.int .i64 0,.int .i64 0] 82))=WA:=⟨_,rfl⟩
 have hz:WA.heap.size=w.heap.size+3:=by rw [← eWA];simp
 have HA:Hid (Below w.heap.size w WA):=by show Below _ _ _;rw [← eWA];go_grown
 have HC:Hid (WA.heap[w.heap.size]?=some (.cells #[.string nm,.int .i64 c1,.int .i64 c2,.int .i64 c3] 84 (0,0))∧WA.heap[w.heap.size+1]?=some (.cells #[.string ⟨#[]⟩,.int .i64 0,.int .i64 0] 65 (0,0))∧WA.heap[w.heap.size+2]?=some (.cells [Value.int .i64 0,.int .i64 0].toArray 82 (0,0))):=by
  show _∧_∧_
  rw [← eWA]
  refine ⟨?_,?_,?_⟩
  ·exact ((up_alloc _ _).block _ (by simp;omega)).trans (((up_alloc _ _).block _ (by simp)).trans Array.getElem?_push_size)
  ·exact ((up_alloc _ _).block _ (by simp)).trans (by rw [show w.heap.size+1=(w.alloc (.cells #[.string nm,.int .i64 c1,.int .i64 c2,.int .i64 c3] 84)).heap.size by simp];exact Array.getElem?_push_size)
  ·rw [show w.heap.size+2=((w.alloc (.cells #[.string nm,.int .i64 c1,.int .i64 c2,.int .i64 c3] 84)).alloc (.cells #[.string ⟨#[]⟩,.int .i64 0,.int .i64 0] 65)).heap.size by simp]
   exact Array.getElem?_push_size
 have HLen:Hid ((vals .i64 l).length=Nat.min n 2):=by
  show _=_
  have:=HL.out.2.2
  rw [show (vals .i64 l).length=l.length by simp [vals],hn.out]
  exact (Nat.min_eq_left (by rw [← hn.out];exact this)).symm
 have HPos:Hid (0 < (vals .i64 l).length→(some (⟨w.heap.size+2,0,none⟩:Addr))=some ⟨w.heap.size+2,0,none⟩∧∃ ad,p=some ad∧∀ j v,(vals .i64 l)[j]?=some v→WA.cell? (ad.add j)=some v):=fun h0=>by
  refine ⟨rfl,?_⟩
  rcases HV.out.up HA.out with ⟨_,e⟩|⟨ad,_,e,h⟩
  ·rw [e] at h0;simp [vals] at h0
  ·cases e
   exact ⟨ad,rfl,h⟩
 have HFit:Hid (0+(vals .i64 l).length≤[Value.int .i64 0,.int .i64 0].length):=by show _≤_;have:=HL.out.2.2;simp [vals];exact this
 have HF5:Hid (∀ w5:World,w5.heap[w.heap.size+2]?=some (.cells (splice [Value.int .i64 0,.int .i64 0] 0 (vals .i64 l)).toArray 82 (0,0))→Below (w.heap.size+2) WA w5→(w5.cell? ⟨w.heap.size+2,0,none⟩=some (.int .i64 x)∧w5.cell? ⟨w.heap.size+2,1,none⟩=some (.int .i64 y))∧w5.cell? ⟨w.heap.size,0,none⟩=some (.string nm)∧Hid (w5.heap[w.heap.size+1]?=some (.cells #[.string ⟨#[]⟩,.int .i64 0,.int .i64 0] 65 (0,0))∧Below w.heap.size w w5)):=fun w5 h5 hB5=>by
  refine ⟨?_,?_,?_,?_⟩
  ·have h1:=HL.out.1
   have h2:=HL.out.2.1
   have h3:=HL.out.2.2
   unfold World.cell?
   rw [h5]
   match l,h1,h2,h3 with
   | [],h1,h2,_=>subst h1 h2;exact ⟨rfl,rfl⟩
   | [a],h1,h2,_=>subst h1 h2;exact ⟨rfl,rfl⟩
   | [a,b],h1,h2,_=>subst h1 h2;exact ⟨rfl,rfl⟩
  ·unfold World.cell?
   rw [show w5.heap[w.heap.size]?=_ from (hB5.block _ (by omega)).trans HC.out.1]
   rfl
  ·exact (hB5.block _ (by omega)).trans HC.out.2.1
  ·exact HA.out.trans (hB5.mono (by omega))
 go_enter Tryz.func32,Tryz.ntmps32
 go_wp2_with (have hR:=HC.out.2.2;(try rw [eWA]);refine wpList_copy_splice rfl (.tmp 6) (.tmp 7) 23 23 rfl 3 Tryz.underlying23 (by kernel_rfl) _ _ _ _ _ _ rfl rfl (w.heap.size+2) 0 _ 82 hR (vals .i64 l) HLen.out HPos.out HFit.out (vals_one _ _) (w.heap.size+2) WA (Below.refl _ _) (Nat.le_refl _) ?_;intro w5 hR5 hB5;obtain ⟨⟨f0,f1⟩,f2,f3⟩:=HF5.out w5 hR5.out hB5;obtain ⟨⟨g0,k0⟩,⟨g1,k1⟩,⟨g2,k2⟩⟩:=box_3 f3.out.1;clear hR5 hB5 hR)
 generalize hU:World.setCell _ _ _=U
 obtain ⟨u0,u1,u2,hBU⟩:=three_set f3.out.1 hU
 exact bodyPost_ret (v:=.agg #[.string nm,.int .i64 x,.int .i64 y]) (by simp [results,Tryz.results32,go_sem,u0,u1,u2]) rfl ⟨rfl,hBU w _ (by omega) f3.out.2⟩
end Go.Proofs.YtihjnbbhpojnpaaGreatDoor.Wd
namespace Go.Proofs
open Go.Shelf
def Tryz.lays156_ren:Go.Shelf.Ren:=⟨fun|156=>41|165=>59|166=>60|169=>61|240=>71|241=>72|276=>83|277=>84|n=>n,fun|31=>54|9=>9|3=>3|4=>4|0=>0|20=>20|72=>126|76=>130|70=>123|37=>124|75=>129|127=>140|164=>150|5=>5|80=>132|n=>n,fun|n=>n⟩
theorem Tryz.lays156:Go.Proofs.Lays.n156 Tryz.prog Tryz.lays156_ren:={
 mixed:=by kernel_rfl
 f156:=Tryz.func41.trans (congrArg some (by kernel_rfl))
 f165:=Tryz.func59.trans (congrArg some (by kernel_rfl))
 f166:=Tryz.func60.trans (congrArg some (by kernel_rfl))
 f169:=Tryz.func61.trans (congrArg some (by kernel_rfl))
 f240:=Tryz.func71.trans (congrArg some (by kernel_rfl))
 f241:=Tryz.func72.trans (congrArg some (by kernel_rfl))
 f276:=Tryz.func83.trans (congrArg some (by kernel_rfl))
 f277:=Tryz.func84.trans (congrArg some (by kernel_rfl))
 t0:=Tryz.underlying0
 a0:=Tryz.isAgg0
 z0:=Tryz.sizeOf0
 v0:=Tryz.zeroValue0
 t3:=Tryz.underlying3
 a3:=Tryz.isAgg3
 z3:=Tryz.sizeOf3
 v3:=Tryz.zeroValue3
 t4:=Tryz.underlying4
 a4:=Tryz.isAgg4
 z4:=Tryz.sizeOf4
 v4:=Tryz.zeroValue4
 t9:=Tryz.underlying9
 a9:=Tryz.isAgg9
 z9:=Tryz.sizeOf9
 v9:=Tryz.zeroValue9
 t20:=Tryz.underlying20
 a20:=Tryz.isAgg20
 z20:=Tryz.sizeOf20
 v20:=Tryz.zeroValue20
 t31:=Tryz.underlying54
 a31:=Tryz.isAgg54
 z31:=Tryz.sizeOf54
 v31:=Tryz.zeroValue54
 t37:=Tryz.underlying124
 a37:=Tryz.isAgg124
 z37:=Tryz.sizeOf124
 v37:=Tryz.zeroValue124
 t70:=Tryz.underlying123
 a70:=Tryz.isAgg123
 z70:=Tryz.sizeOf123
 v70:=Tryz.zeroValue123
 t72:=Tryz.underlying126
 a72:=Tryz.isAgg126
 z72:=Tryz.sizeOf126
 v72:=Tryz.zeroValue126
 t75:=Tryz.underlying129
 a75:=Tryz.isAgg129
 z75:=Tryz.sizeOf129
 v75:=Tryz.zeroValue129
 t76:=Tryz.underlying130
 a76:=Tryz.isAgg130
 z76:=Tryz.sizeOf130
 v76:=Tryz.zeroValue130
 t127:=Tryz.underlying140
 a127:=Tryz.isAgg140
 z127:=Tryz.sizeOf140
 v127:=Tryz.zeroValue140
 t164:=Tryz.underlying150
 a164:=Tryz.isAgg150
 z164:=Tryz.sizeOf150
 v164:=Tryz.zeroValue150 }
theorem Tryz.Builder_Extra_156:Builder.Extra Tryz.prog Tryz.lays156_ren:={
 sizeBuilder:=by kernel_rfl
 liesBuilder:=by kernel_rfl
 t5:=Tryz.underlying5
 a5:=Tryz.isAgg5
 z5:=Tryz.sizeOf5
 v5:=Tryz.zeroValue5
 infoByte:=by kernel_rfl
 cellsByte:=by kernel_rfl
 sizeByte:=by kernel_rfl
 neB5:=by decide }
open Go.RowKit in
theorem Tryz.strings_Join (bk o c:Nat) (xs:List ByteArray) (sep:ByteArray) (w:World) (hcells:∀ (j:Nat) x,xs[j]?=some x→w.cell? ⟨bk,o+j,none⟩=some (.string x)) (hbk:bk < w.heap.size) (hN:xs.length≤140737488355328) (hcap:xs.length≤c) (hlen:(Lib.join (xs.map (·.data.toList)) sep.data.toList).length≤140737488355328):
  Calls Tryz.prog 41 #[.slice (some ⟨bk,o,none⟩) xs.length c,.string sep] w fun e w'=>e = .returned (.string ⟨(Lib.join (xs.map (·.data.toList)) sep.data.toList).toArray⟩)∧Below w.heap.size w w':=Any.strings_Join Tryz.lays156 Tryz.Builder_Extra_156 bk o c xs sep w hcells hbk hN hcap hlen
def Tryz.lays229_ren:Go.Shelf.Ren:=⟨fun|229=>33|n=>n,fun|9=>9|40=>89|31=>54|152=>112|3=>3|0=>0|4=>4|21=>21|154=>114|n=>n,fun|n=>n⟩
theorem Tryz.lays229:Go.Proofs.Lays.n229 Tryz.prog Tryz.lays229_ren:={
 mixed:=by kernel_rfl
 f229:=Tryz.func33.trans (congrArg some (by kernel_rfl))
 t0:=Tryz.underlying0
 a0:=Tryz.isAgg0
 z0:=Tryz.sizeOf0
 v0:=Tryz.zeroValue0
 t3:=Tryz.underlying3
 a3:=Tryz.isAgg3
 z3:=Tryz.sizeOf3
 v3:=Tryz.zeroValue3
 t4:=Tryz.underlying4
 a4:=Tryz.isAgg4
 z4:=Tryz.sizeOf4
 v4:=Tryz.zeroValue4
 t9:=Tryz.underlying9
 a9:=Tryz.isAgg9
 z9:=Tryz.sizeOf9
 v9:=Tryz.zeroValue9
 t21:=Tryz.underlying21
 a21:=Tryz.isAgg21
 z21:=Tryz.sizeOf21
 v21:=Tryz.zeroValue21
 t31:=Tryz.underlying54
 a31:=Tryz.isAgg54
 z31:=Tryz.sizeOf54
 v31:=Tryz.zeroValue54
 t40:=Tryz.underlying89
 a40:=Tryz.isAgg89
 z40:=Tryz.sizeOf89
 v40:=Tryz.zeroValue89
 t152:=Tryz.underlying112
 a152:=Tryz.isAgg112
 z152:=Tryz.sizeOf112
 v152:=Tryz.zeroValue112
 t154:=Tryz.underlying114
 a154:=Tryz.isAgg114
 z154:=Tryz.sizeOf114
 v154:=Tryz.zeroValue114 }
open Go.RowKit Go.Lib in
theorem Tryz.strings_FieldsFunc (g:Nat) (lb:Array Value) (eg:∀ args w,(callFunc g args).run Tryz.prog w = .ok (.enter g args) w) (p:Nat→Bool) (s:ByteArray) (w:World) (hs:s.size≤4294967296) (hp:PredAt Tryz.prog g lb encR p w):
  Calls Tryz.prog 33 #[.string s,.func (.func g) #[] lb] w fun e w'=>∃ A,e = .returned (.slice (some ⟨A,0,none⟩) (Lib.goFieldsP p s).length (Lib.goFieldsP p s).length)∧w.heap.size≤A∧
   w'.ownsRow w.heap.size 9 1 (.slice (some ⟨A,0,none⟩) (Lib.goFieldsP p s).length (Lib.goFieldsP p s).length) (Lib.goFieldsP p s).length ((Lib.goFieldsP p s).map Value.string)∧Below w.heap.size w w':=Any.strings_FieldsFunc Tryz.lays229 g lb eg p s w hs hp (by kernel_rfl) (by kernel_rfl)
end Go.Proofs
