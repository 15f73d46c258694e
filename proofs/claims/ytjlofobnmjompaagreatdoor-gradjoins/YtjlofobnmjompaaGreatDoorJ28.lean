/- The code's countParams and tooMuch. · The code's shapesOf, Shapes and Params. · Texts of nets: words, numbers, what chapter 12 reads of them, over bytes. Nothing of the program is named here. · Texts of nets: numbers, what is read of words, what is written. Nothing of the program is named here. · The code's reading of texts: numberOf. · The code's reading of texts: words, numbersAhead, layerOf. · The code's reading of texts: wordsOf, netOf. -/
import Derived.Test.YtjlofobnmjompaaGreatDoorJ27
import Derived.Test.YtjlofobnmjompaaGreatDoorJ25
import Derived.Lib.FieldsP
import Derived.Lib.Join
import Derived.Lib.ItoaNum
import Derived.Laws.CopyOwn
import Derived.Test.YtjlofobnmjompaaGreatDoorJ02
import Derived.Test.YtjlofobnmjompaaGreatDoorJ18
set_option linter.unusedVariables false
set_option linter.unusedSimpArgs false
set_option maxHeartbeats 16000000
set_option maxRecDepth 16000
namespace Go.Proofs.YtjlofobnmjompaaGreatDoor.Wd
open Go.RowKit
def sumP (P:List (List Int)):Nat→Int
 | 0=>0
 | j+1=>sumP P j+prodI (shA P j)
theorem sumP_psz {l:Ly} {d:List Int}:sumP (parD l d) (parD l d).length=psz l d:=by
 unfold parD psz
 by_cases h0:kindI l.1=0
 ·rw [if_pos h0,if_pos h0]
  simp [sumP,shA,prodI_two,prodI_one]
 rw [if_neg h0,if_neg h0]
 by_cases h1:kindI l.1=1
 ·rw [if_pos h1,if_pos h1]
  simp [sumP,shA,prodI_three]
 ·rw [if_neg h1,if_neg h1]
  rfl
theorem sumP_rng {l:Ly} {d:List Int} (hl:LayOk l) (hd:InOk d):∀ j,j≤(parD l d).length→0≤sumP (parD l d) j∧sumP (parD l d) j≤1049600:=by
 intro j hj
 have hz:=psz_rng hd hl
 rw [← sumP_psz] at hz
 have hp:=hd.prod
 unfold parD at hj hz ⊢
 by_cases h0:kindI l.1=0
 ·rw [if_pos h0] at hj hz ⊢
  rcases layOk_cases hl with ⟨-,k,h1,h2⟩|⟨-,k,h1,h2⟩|⟨-,k,h1,h2⟩|⟨-,k,h1,h2⟩|⟨-,k,h1,h2⟩ <;> rw [h0] at k <;> try cases k
  have:=mprod_rng h1 hp
  rcases (show j=0∨j=1∨j=2 by simp at hj;omega) with rfl|rfl|rfl <;> simp [sumP,shA,prodI_two,prodI_one] <;> omega
 rw [if_neg h0] at hj hz ⊢
 by_cases h1:kindI l.1=1
 ·rw [if_pos h1] at hj hz ⊢
  rcases (show j=0∨j=1 by simp at hj;omega) with rfl|rfl
  ·simp [sumP]
  ·exact hz
 ·rw [if_neg h1] at hj hz ⊢
  obtain rfl:j=0:=by simp at hj;omega
  simp [sumP]
theorem parD_len (l:Ly) (d:List Int):(parD l d).length≤2:=by
 unfold parD
 split
 ·simp
 split <;> simp
theorem countParams_any (p p2 ps:Option Addr) (n c n2 c2 ns cs:Nat) (d:List Int) (ls:List Ly) (S:List (List Int)) (ok:NetOk d ls S) (hbig:n2≤1073741824) (w:World) (hL:LyR 0 w p2 n2 ls) (hS:RdS w ps ns S):
  Calls Tryz.prog 37 #[.agg #[.slice p n c,.slice p2 n2 c2],.slice ps ns cs] w fun e w'=>e = .returned (.int .i64 (cntP ls S ls.length))∧Below w.heap.size w w':=by
 haveI:Nonempty World:=⟨w⟩
 obtain ⟨r,er⟩:∃ r,cntP ls S ls.length=r:=⟨_,rfl⟩
 have HR:Hid (cntP ls S ls.length=r):=er
 have HK:Hid (NetOk d ls S∧LyR 0 w p2 n2 ls∧RdS w ps ns S):=⟨ok,hL,hS⟩
 have hns:ns=n2+1:=by rw [← hS.1,ok.len,hL.1]
 subst hns
 rw [er]
 clear er ok hL hS
 go_enter Tryz.func37,Tryz.ntmps37
 go_wp2_with fail
 generalize hW0:World.alloc _ _=W0
 have HB0:Hid (Below w.heap.size w W0):=by rw [← hW0];exact up_alloc w _
 clear hW0
 go_loopg [5,13] n2 (fun gg u v wr=>∃ (k:Nat) (x:Int),k≤n2∧gg=n2 - k∧u = .int .i64 x∧v = .int .i64 (k:Int)∧Hid (x=cntP ls S k)∧Hid (Below w.heap.size w wr))
 case atStart=>exact ⟨0,0,by omega,by omega,rfl,rfl,rfl,HB0⟩
 case round=>
  obtain ⟨k,x,hk,hg,rfl,rfl,Hx,HB⟩:=hrel
  by_cases hkn:k < n2
  ·have hk':(k:Int) < (n2:Int):=by omega
   have hk1:(k:Int) < ((n2+1:Nat):Int):=by omega
   have hkl:k < ls.length:=by rw [HK.out.2.1.1];exact hkn
   obtain ⟨q,o,rfl,c0,c1,c2⟩:=(HK.out.2.1.up HB.out).2 k hkn
   obtain ⟨q3,o3,a3,b3,d3,rfl,s3,m3⟩:=(HK.out.2.2.up HB.out).2 k (by omega)
   have hl:=HK.out.1.lay k hkl
   have hi:=HK.out.1.inn k hkl
   have hft:=HK.out.1.fit k hkl
   have hcr:=cntP_rng (ls:=ls) (S:=S) (i:=k) (fun j hj=>HK.out.1.inn j (by omega)) (fun j hj=>HK.out.1.lay j (by omega))
   rw [← Hx.out] at hcr
   have hxr:0≤x∧x≤1127000000000000:=by omega
   obtain ⟨l,el⟩:∃ l,lyA ls k=l:=⟨_,rfl⟩
   obtain ⟨dd,ed⟩:∃ dd,shA S k=dd:=⟨_,rfl⟩
   have HN:Hid (x+psz l dd=cntP ls S (k+1)):=by show _=_;rw [Hx.out,← el,← ed];rfl
   rw [el] at c0 c1 c2 hl hft
   rw [ed] at hi m3 hft
   obtain ⟨s,a,b⟩:=l
   simp only [] at c0 c1 c2 hft
   have hlt:=cell_size c0
   obtain ⟨PP,eP⟩:∃ PP,parD (s,a,b) dd=PP:=⟨_,rfl⟩
   have HP:Hid (sumP PP PP.length=psz (s,a,b) dd∧(∀ j,j≤PP.length→0≤sumP PP j∧sumP PP j≤1049600)∧(∀ j,j < PP.length→Smal (shA PP j))∧PP.length≤2):=by
    rw [← eP]
    exact ⟨sumP_psz,sumP_rng hl hi,parD_smal hl hi,parD_len _ _⟩
   have cp:Hid (∀ W,Below wr.heap.size wr W→Calls Tryz.prog 58 #[.agg #[.string s,.int .i64 a,.int .i64 b],.slice a3 b3 d3] W fun e w'=>∃ v',e = .returned v'∧ParR PP v' w'∧Below W.heap.size W w'):=fun W hW=>by
    rw [← eP]
    exact paramsOf_any s a b dd hl hi hft a3 b3 d3 W (m3.up hW)
   clear hl hi hft hcr m3 el ed eP
   go_wp2
   generalize hW1:World.alloc _ _=W1
   have HB1:Hid (Below wr.heap.size wr W1):=by rw [← hW1];exact up_alloc wr _
   obtain ⟨e0,e1,e2⟩:W1.cell? ⟨wr.heap.size,0,none⟩=some (.string s)∧W1.cell? ⟨wr.heap.size,1,none⟩=some (.int .i64 a)∧W1.cell? ⟨wr.heap.size,2,none⟩=some (.int .i64 b):=by rw [← hW1];simp [go_sem]
   replace s3:=still_cell HB1.out s3
   have hz1:=cell_size e0
   have hz3:=cell_size s3
   clear hW1 c0 c1 c2
   refine rel [⟨5,23,ParR PP⟩] 8 36 (by kernel_rfl) rfl rfl (by kernel_rfl) (by rfl) ?_ ?_
   ·intro e he v W W' h hb
    simp only [List.mem_cons,List.not_mem_nil,or_false] at he
    subst he
    exact ParR.up h hb
   apply Exists.intro
   refine ⟨fun x=>?_,?_,?_⟩
   ·simp only [List.take_succ_cons,List.take_zero]
    iterate 5
     refine relQuiet rfl rfl ?_
     apply Exists.intro
     refine ⟨fun F hF hf K hK=>?_,?_⟩
     ·have hFc:=hF.cell
      have hFf:=hF.frozen
      go_big_quiet_op
      first|exact hK|(apply Exists.intro;refine ⟨fun _=>?_,?_⟩;(· fail);exact hK)
     (try simp only [Act.put,List.setIfInBounds_toArray,List.set_cons_zero,List.set_cons_succ])
    refine relTold rfl rfl ?_ ?_
    ·intro F hF hf d
     have hFc:=hF.cell
     have hFf:=hF.frozen
     simp [yieldsR,yieldsUpon,go_sem,hFc,hz1,hz3,e0,e1,e2,s3]
     refine (cp.out (F d) (bstep HB1.out (hF.below _))).mono ?_
     rintro e' w8 ⟨v8,rfl,h8,hB8⟩
     exact ⟨_,rfl,h8,hB8⟩
    (try simp only [Act.put,List.setIfInBounds_toArray,List.set_cons_zero,List.set_cons_succ])
    refine relQuiet rfl rfl ?_
    apply Exists.intro
    refine ⟨fun F hF hf K hK=>?_,?_⟩
    ·have hFc:=hF.cell
     have hFf:=hF.frozen
     obtain ⟨p9,c9,e9,-⟩:=hf _ List.mem_cons_self (by rfl) w
     simp only [] at e9
     rw [e9] at hK ⊢
     go_big_quiet_op
     first|exact hK|(apply Exists.intro;refine ⟨fun _=>?_,?_⟩;(· fail);exact hK)
    (try simp only [Act.put,List.setIfInBounds_toArray,List.set_cons_zero,List.set_cons_succ])
    refine relQuiet rfl rfl ?_
    apply Exists.intro
    refine ⟨fun F hF hf K hK=>?_,?_⟩
    ·have hFc:=hF.cell
     have hFf:=hF.frozen
     go_big_quiet_op
     first|exact hK|(apply Exists.intro;refine ⟨fun _=>?_,?_⟩;(· fail);exact hK)
    (try simp only [Act.put,List.setIfInBounds_toArray,List.set_cons_zero,List.set_cons_succ])
    refine relEnd ?_
    exact rfl
   ·exact fun x=>rfl
   ·intro w9 xs hB9 hf
    simp only [List.drop_succ_cons,List.drop_zero]
    obtain ⟨p7,c7,e7,h7⟩:=hf _ List.mem_cons_self
    simp only [] at e7 h7
    have H7:Hid (RdS w9 p7 PP.length PP∧Below w.heap.size w w9):=⟨h7.1,bstep HB.out (bstep HB1.out hB9)⟩
    obtain ⟨v8,e8⟩:∃ v8,xs 5=v8:=⟨_,rfl⟩
    rw [e8] at e7 ⊢
    subst e7
    have HPL:Hid (PP.length≤2):=HP.out.2.2.2
    obtain ⟨np,enp⟩:∃ np,PP.length=np:=⟨_,rfl⟩
    rw [enp] at H7 HP HPL ⊢
    clear hf hB9 h7 e0 e1 e2 s3 cp e8 enp
    have hnp2:(np:Int)≤2:=by have:=HPL.out;omega
    go_wp2_with fail
    go_loopg [5,25] np (fun gg u v wq=>∃ (j:Nat) (y:Int),j≤np∧gg=np - j∧u = .int .i64 y∧v = .int .i64 (j:Int)∧Hid (y=x+sumP PP j)∧wq=w9)
    case atStart=>exact ⟨0,x,by omega,by omega,rfl,rfl,by show x=x+0;omega,rfl⟩
    case round=>
     obtain ⟨j,y,hj,hgj,rfl,rfl,Hy,rfl⟩:=hrel
     by_cases hjn:j < np
     ·have hj':(j:Int) < (np:Int):=by omega
      obtain ⟨q5,o5,a5,b5,d5,rfl,s5,m5⟩:=H7.out.1.2 j hjn
      obtain ⟨z,ez⟩:∃ z,prodI (shA PP j)=z:=⟨_,rfl⟩
      have cz:=csize_any _ _ (HP.out.2.2.1 j hjn) _ m5
      rw [ez] at cz
      have hy0:=HP.out.2.1 j (by omega)
      have hy1:=HP.out.2.1 (j+1) hjn
      rw [show sumP PP (j+1)=sumP PP j+z by rw [← ez];rfl] at hy1
      have hyr:y+z=x+(sumP PP j+z):=by rw [Hy.out];omega
      have hyz:0≤y+z∧y+z≤1128000000000000:=by omega
      have HY:Hid (y+z=x+sumP PP (j+1)):=by show _=_;rw [hyr,← ez];rfl
      obtain ⟨yz,eyz⟩:∃ yz,y+z=yz:=⟨_,rfl⟩
      rw [eyz] at hyz HY
      clear m5 ez hy0 hy1 hyr
      go_wp2_with fail
      refine cz.mono ?_
      rintro e w1 ⟨rfl,rfl⟩
      clear cz
      go_wp2
      go_roundg (np - (j+1))
      case measure=>omega
      case rel=>exact ⟨j+1,yz,by omega,rfl,by first|rfl|simp [eyz],by first|rfl|simp,HY,rfl⟩
     ·obtain rfl:j=np:=by omega
      have HY:Hid (y=cntP ls S (k+1)):=by show _=_;rw [← HN.out,← HP.out.1,Hy.out]
      have HB9:Hid (Below w.heap.size w _):=H7.out.2
      clear Hy HN HP H7
      go_wp2
      go_roundg (n2 - (k+1))
      case measure=>omega
      case rel=>exact ⟨k+1,y,by omega,rfl,rfl,by first|rfl|simp,HY,HB9⟩
  ·obtain rfl:k=n2:=by omega
   have ex:x=r:=by rw [Hx.out,← HR.out,HK.out.2.1.1]
   subst ex
   go_wp2
   go_ret
   exact ⟨rfl,HB.out⟩
theorem bigN_stop {ls:List Ly} {S:List (List Int)}:∀ {i n:Nat},bigN ls S i=true→i≤n→bigN ls S n=true
 | i,0,h,hi=>by
  obtain rfl:i=0:=by omega
  exact h
 | i,n+1,h,hi=>by
  rcases Nat.lt_or_ge i (n+1) with h1|h1
  ·simp only [bigN,Bool.or_eq_true]
   exact .inl (bigN_stop h (show i≤n by omega))
  ·obtain rfl:i=n+1:=by omega
   exact h
theorem tooMuch_any (p p2 ps:Option Addr) (n c n2 c2 ns cs:Nat) (d:List Int) (ls:List Ly) (S:List (List Int)) (ok:NetOk d ls S) (hsm:∀ k,k < ns→InOk (shA S k)) (hbig:n2≤1073741824) (w:World) (hL:LyR 0 w p2 n2 ls) (hS:RdS w ps ns S):
  Calls Tryz.prog 57 #[.agg #[.slice p n c,.slice p2 n2 c2],.slice ps ns cs] w fun e w'=>e = .returned (.bool (tooM ls S))∧Below w.heap.size w w':=by
 haveI:Nonempty World:=⟨w⟩
 obtain ⟨r,er⟩:∃ r,tooM ls S=r:=⟨_,rfl⟩
 have HR:Hid (tooM ls S=r):=er
 have HK:Hid (NetOk d ls S∧LyR 0 w p2 n2 ls∧RdS w ps ns S):=⟨ok,hL,hS⟩
 have hns:ns=n2+1:=by rw [← hS.1,ok.len,hL.1]
 subst hns
 rw [er]
 have cF:Hid (∀ W,Below w.heap.size w W→Calls Tryz.prog 78 #[.slice ps (n2+1) cs,.func (.func 79) #[] #[]] W fun e w'=>e = .returned (.bool (bigS S))∧w'=W):=fun W hW=>containsF_any ps (n2+1) cs S (fun i hi=>(hsm i hi).smal) (Nat.le_trans (Nat.add_le_add_right hbig 1) (by decide)) W (hS.up hW)
 have cc:Hid (∀ W,Below w.heap.size w W→Calls Tryz.prog 37 #[.agg #[.slice p n c,.slice p2 n2 c2],.slice ps (n2+1) cs] W fun e w'=>e = .returned (.int .i64 (cntP ls S ls.length))∧Below W.heap.size W w'):=fun W hW=>countParams_any p p2 ps n c n2 c2 (n2+1) cs d ls S ok hbig W (hL.up hW) (hS.up hW)
 clear er ok hL hS hsm
 go_enter Tryz.func57,Tryz.ntmps57
 by_cases h16:16 < n2
 ·have h16':(16:Int) < (n2:Int):=by omega
  have e:r=true:=by rw [← HR.out];unfold tooM;rw [HK.out.2.1.1,decide_eq_true h16];simp
  subst e
  clear cF cc
  go_wp2
  go_ret
  exact ⟨rfl,up_alloc w _⟩
 have h16':(n2:Int)≤16:=by omega
 go_wp2_with fail
 generalize hW0:World.alloc _ _=W0
 have HB0:Hid (Below w.heap.size w W0):=by rw [← hW0];exact up_alloc w _
 obtain ⟨g0,g1⟩:W0.cell? ⟨w.heap.size,0,none⟩=some (.slice p n c)∧W0.cell? ⟨w.heap.size,1,none⟩=some (.slice p2 n2 c2):=by rw [← hW0];simp [go_sem]
 clear hW0
 refine (cF.out W0 HB0.out).mono ?_
 rintro e w1 ⟨rfl,rfl⟩
 obtain ⟨qb,eqb⟩:∃ q,bigS S=q:=⟨_,rfl⟩
 have HQ:Hid (bigS S=qb):=eqb
 rw [eqb]
 clear eqb
 cases qb with
 | true=>
  have e:r=true:=by rw [← HR.out];unfold tooM;rw [HQ.out];simp
  subst e
  clear cF cc
  go_wp2
  go_ret
  exact ⟨rfl,HB0.out⟩
 | false=>
 have HG:Hid (w1.cell? ⟨w.heap.size,0,none⟩=some (.slice p n c)∧w1.cell? ⟨w.heap.size,1,none⟩=some (.slice p2 n2 c2)):=⟨g0,g1⟩
 go_wp2_with fail
 go_loopg [18] n2 (fun gg v wr=>∃ (k:Nat),k≤n2∧gg=n2 - k∧v = .int .i64 (k:Int)∧Hid (bigN ls S k=false)∧Hid (Below w1.heap.size w1 wr))
 case atStart=>exact ⟨0,by omega,by omega,rfl,rfl,Below.refl _ _⟩
 case round=>
  obtain ⟨k,hk,hg,rfl,Hx,HB⟩:=hrel
  by_cases hkn:k < n2
  ·have hk':(k:Int) < (n2:Int):=by omega
   have hk1:(k:Int) < ((n2+1:Nat):Int):=by omega
   have hkl:k < ls.length:=by rw [HK.out.2.1.1];exact hkn
   have hBw:=bstep HB0.out HB.out
   obtain ⟨q,o,rfl,c0,c1,c2⟩:=(HK.out.2.1.up hBw).2 k hkn
   obtain ⟨q3,o3,a3,b3,d3,rfl,s3,m3⟩:=(HK.out.2.2.up hBw).2 k (by omega)
   have hl:=HK.out.1.lay k hkl
   have hi:=HK.out.1.inn k hkl
   have hft:=HK.out.1.fit k hkl
   obtain ⟨l,el⟩:∃ l,lyA ls k=l:=⟨_,rfl⟩
   obtain ⟨dd,ed⟩:∃ dd,shA S k=dd:=⟨_,rfl⟩
   have HN:Hid (bigN ls S (k+1)=bigP l dd):=by show _=_;rw [← el,← ed];show (bigN ls S k || _)=_;rw [Hx.out];rfl
   rw [el] at c0 c1 c2 hl hft
   rw [ed] at hi m3 hft
   obtain ⟨s,a,b⟩:=l
   simp only [] at c0 c1 c2 hft
   have hlt:=cell_size c0
   obtain ⟨PP,eP⟩:∃ PP,parD (s,a,b) dd=PP:=⟨_,rfl⟩
   obtain ⟨qq,eqq⟩:∃ qq,bigS PP=qq:=⟨_,rfl⟩
   have HP:Hid (bigP (s,a,b) dd=qq):=by show _=_;rw [← eqq,← eP];rfl
   have cp:Hid (∀ W,Below wr.heap.size wr W→Calls Tryz.prog 58 #[.agg #[.string s,.int .i64 a,.int .i64 b],.slice a3 b3 d3] W fun e w'=>∃ v',e = .returned v'∧ParR PP v' w'∧Below W.heap.size W w'):=fun W hW=>by
    rw [← eP]
    exact paramsOf_any s a b dd hl hi hft a3 b3 d3 W (m3.up hW)
   have cG:Hid (∀ W v,ParR PP v W→Calls Tryz.prog 78 #[v,.func (.func 79) #[] #[]] W fun e w'=>e = .returned (.bool qq)∧w'=W):=fun W v hv=>by
    obtain ⟨pv,cv,rfl,hv⟩:=hv
    rw [← eqq,← eP] at *
    exact containsF_any pv _ cv _ (parD_smal hl hi) (by have:=parD_len (s,a,b) dd;omega) W hv.1
   clear hl hi hft m3 el ed eP eqq hBw
   go_wp2
   generalize hW1:World.alloc _ _=W1
   have HB1:Hid (Below wr.heap.size wr W1):=by rw [← hW1];exact up_alloc wr _
   obtain ⟨e0,e1,e2⟩:W1.cell? ⟨wr.heap.size,0,none⟩=some (.string s)∧W1.cell? ⟨wr.heap.size,1,none⟩=some (.int .i64 a)∧W1.cell? ⟨wr.heap.size,2,none⟩=some (.int .i64 b):=by rw [← hW1];simp [go_sem]
   replace s3:=still_cell HB1.out s3
   have hz1:=cell_size e0
   have hz3:=cell_size s3
   clear hW1 c0 c1 c2
   refine rel [⟨5,28,ParR PP⟩] 7 35 (by kernel_rfl) rfl rfl (by kernel_rfl) (by rfl) ?_ ?_
   ·intro e he v W W' h hb
    simp only [List.mem_cons,List.not_mem_nil,or_false] at he
    subst he
    exact ParR.up h hb
   apply Exists.intro
   refine ⟨fun x=>?_,?_,?_⟩
   ·simp only [List.take_succ_cons,List.take_zero]
    iterate 5
     refine relQuiet rfl rfl ?_
     apply Exists.intro
     refine ⟨fun F hF hf K hK=>?_,?_⟩
     ·have hFc:=hF.cell
      have hFf:=hF.frozen
      go_big_quiet_op
      first|exact hK|(apply Exists.intro;refine ⟨fun _=>?_,?_⟩;(· fail);exact hK)
     (try simp only [Act.put,List.setIfInBounds_toArray,List.set_cons_zero,List.set_cons_succ])
    refine relTold rfl rfl ?_ ?_
    ·intro F hF hf d
     have hFc:=hF.cell
     have hFf:=hF.frozen
     simp [yieldsR,yieldsUpon,go_sem,hFc,hz1,hz3,e0,e1,e2,s3]
     refine (cp.out (F d) (bstep HB1.out (hF.below _))).mono ?_
     rintro e' w8 ⟨v8,rfl,h8,hB8⟩
     exact ⟨_,rfl,h8,hB8⟩
    (try simp only [Act.put,List.setIfInBounds_toArray,List.set_cons_zero,List.set_cons_succ])
    refine relQuiet rfl rfl ?_
    apply Exists.intro
    refine ⟨fun F hF hf K hK=>?_,?_⟩
    ·have hFc:=hF.cell
     have hFf:=hF.frozen
     go_big_quiet_op
     first|exact hK|(apply Exists.intro;refine ⟨fun _=>?_,?_⟩;(· exact hF.same (cG.out _ _ (hf _ List.mem_cons_self (by rfl) _)));exact hK)
    (try simp only [Act.put,List.setIfInBounds_toArray,List.set_cons_zero,List.set_cons_succ])
    refine relEnd ?_
    exact rfl
   ·exact fun x=>rfl
   ·intro w9 xs hB9 hf
    simp only [List.drop_succ_cons,List.drop_zero]
    have HB9:Hid (Below w1.heap.size w1 w9):=bstep HB.out (bstep HB1.out hB9)
    clear hf hB9 e0 e1 e2 s3 cp cG
    cases qq with
    | true=>
     have e:r=true:=by rw [← HR.out];unfold tooM;rw [bigN_stop (HN.out.trans HP.out) (show k+1≤ls.length by rw [HK.out.2.1.1];exact hkn)];simp
     subst e
     clear cF cc
     go_wp2
     go_ret
     exact ⟨rfl,bstep HB0.out HB9.out⟩
    | false=>
     have HN2:Hid (bigN ls S (k+1)=false):=HN.out.trans HP.out
     clear HN HP
     go_wp2
     go_roundg (n2 - (k+1))
     case measure=>omega
     case rel=>exact ⟨k+1,by omega,rfl,by first|rfl|simp,HN2,HB9⟩
  ·obtain rfl:k=n2:=by omega
   have g0:=still_cell HB.out HG.out.1
   have g1:=still_cell HB.out HG.out.2
   go_wp2_with fail
   refine (cc.out wr (bstep HB0.out HB.out)).mono ?_
   rintro e w2 ⟨rfl,hB2⟩
   obtain ⟨cn,ecn⟩:∃ cn,cntP ls S ls.length=cn:=⟨_,rfl⟩
   have HC:Hid (decide (4096 < cn)=r):=by
    show _=_
    rw [← HR.out,← ecn]
    unfold tooM
    rw [HQ.out,HK.out.2.1.1,Hx.out,decide_eq_false h16]
    rfl
   have HB3:Hid (Below w.heap.size w w2):=bstep (bstep HB0.out HB.out) hB2
   rw [ecn]
   clear ecn cF cc hB2
   go_wp2
   go_ret
   rw [← HC.out]
   exact ⟨rfl,HB3.out⟩
/-- A slice's type by its elements' cells and bytes. -/
structure GT (P:Program) (t e:TypeId) (s b:Nat):Prop where
 ht:P.underlying t=some (.slice e)
 hi:(P.info? e).map (fun i=>(i.zero.map fun z=>z.cells.size,i.size,i.bytes))=some (some s,s,b)
/-- append of one element that a literal holds, behind a row of the call's own. -/
theorem wpList_appG {P:Program} {t e:TypeId} {s b:Nat} (T:GT P t e s b) (hb:b≤256) (hs0:0 < s) {ops:Array Oper} {rest:List Oper} {o:Oper} {a:Act} {Q:Exit→Act→World→Prop} {w:World} (hgd:o.guard=none) (sx x:Operand)
  (ho:o.op = .call { callee:=.builtin .append,args:=#[sx,x],argTypes:=#[t,t] }) (B:Nat) (v:Value) (n:Nat) (xs:List Value) (hs:a.eval sx=v) (hown:w.ownsRow B e s v n xs) (g:Nat) (u:List Value) (hx:a.eval x = .slice (some ⟨g,0,none⟩) 1 1)
  (hg:w.heap[g]?=some (.cells u.toArray e (0,0))) (hu:u.length=s) (h1:∀ y∈u,y.oneCell'=true) (hn:n+1≤1073741825) (hB:B≤w.heap.size)
  (h:∀ v' w',Hid (w'.ownsRow B e s v' (n+1) (xs++u))→Hid (Only [e] w w')→Hid (∀ w0,Below B w0 w→Below B w0 w')→wpList P ops Q rest (a.put o.dst v') w'):wpList P ops Q (o :: rest) a w:=by
 have hi:=T.hi
 cases hq:P.info? e with
 | none=>rw [hq] at hi;cases hi
 | some i=>
  rw [hq] at hi
  simp only [Option.map_some,Option.some.injEq,Prod.mk.injEq] at hi
  obtain ⟨hz,hsz,hby⟩:=hi
  cases hz0:i.zero with
  | none=>rw [hz0] at hz;cases hz
  | some z=>
   rw [hz0] at hz
   simp only [Option.map_some,Option.some.injEq] at hz
   have hm:(n+1)*b≤1073741825*256:=Nat.mul_le_mul hn hb
   refine wpList_append_own w hgd sx x t ho B e i z s b T.ht hq hz0 hsz hby hz hs0 v n xs hs hown ⟨g,0,none⟩ 1 1 u hx (by omega) (fun j y hj=>by
    rw [addr_plus,Nat.zero_add]
    unfold World.cell?
    simpa [hg] using hj) h1 (by unfold maxLen;omega) (by omega) hB ?_
   intro v' w' h2 h3 _
   have hlt:∀ k,v.ownBlock=some k→B≤k:=fun k hk=>(World.ownsRow.lt hown k hk).1
   refine h v' w' h2 (Only.grown h3 fun k hk=>?_) fun w0 hB0=>Below.grown hB0 h3 hB hlt
   rcases hown.2 with ⟨rfl,_⟩|⟨g',cap,cur,rfl,_,hc,_⟩
   ·cases hk
   ·cases hk
    exact ⟨_,_,_,hc,by simp⟩
theorem OwnS.push {W W':World} {B:Nat} {v':Value} {S:List (List Int)} {a:Option Addr} {b c:Nat} {o:List Int} {vs:List Value} (h:W'.ownsRow B 30 1 v' (S.length+1) (vs++[.slice a b c])) (hl:vs.length=S.length) (h4:∀ i,i < S.length→∃ a b c,vs[i]?=some (.slice a b c)∧OwnK .i64 3 W B (.slice a b c) (shA S i)) (ho:OwnK .i64 3 W B (.slice a b c) o) (hy:Only [30] W W'):OwnS W' B v' (S++[o]):=by
 refine ⟨vs++[.slice a b c],by rw [List.length_append];exact h,fun i hi=>?_⟩
 simp only [List.length_append,List.length_cons,List.length_nil] at hi
 rcases Nat.lt_or_ge i S.length with h1|h1
 ·obtain ⟨a,b,c,e,h5⟩:=h4 i h1
  rw [shA_app _ h1]
  exact ⟨a,b,c,by rw [List.getElem?_append_left (by omega)];exact e,h5.only hy (by decide)⟩
 ·obtain rfl:i=S.length:=by omega
  rw [shA_last S o _ rfl]
  exact ⟨a,b,c,by rw [List.getElem?_append_right (by omega),hl];simp,ho.only hy (by decide)⟩
theorem shT:GT Tryz.prog 70 30 1 24:=⟨Tryz.underlying70,by kernel_rfl⟩
def OutV (x:Option (List Int)) (B:Nat) (v:Value) (W:World):Prop:=match x with
 | none=>v = .slice none 0 0
 | some o=>∃ p n c,v = .slice p n c∧OwnK .i64 3 W B (.slice p n c) o
theorem OutV.up {x:Option (List Int)} {B:Nat} {v:Value} {W W':World} (h:OutV x B v W) (hB:Below W.heap.size W W'):OutV x B v W':=by
 cases x with
 | none=>exact h
 | some o=>
  obtain ⟨p,n,c,e,h⟩:=h
  exact ⟨p,n,c,e,h.up hB⟩
theorem OutR.tup {x:Option (List Int)} {B:Nat} {v:Value} {W:World} (h:OutR x B v W):∃ u,v = .tuple #[u,.bool x.isSome]∧OutV x B u W:=by
 cases x with
 | none=>exact ⟨_,h,rfl⟩
 | some o=>
  obtain ⟨p,n,c,e,h⟩:=h
  exact ⟨_,e,p,n,c,rfl,h⟩
theorem OutR.low {x:Option (List Int)} {B B':Nat} {v:Value} {W:World} (h:OutR x B v W) (hB:B'≤B):OutR x B' v W:=by
 cases x with
 | none=>exact h
 | some o=>
  obtain ⟨p,n,c,e,h⟩:=h
  exact ⟨p,n,c,e,h.low hB⟩
def ShpR (x:Option (List (List Int))) (B:Nat) (v:Value) (W:World):Prop:=match x with
 | none=>v = .tuple #[.slice none 0 0,.bool false]
 | some S=>∃ u,v = .tuple #[u,.bool true]∧OwnS W B u S
theorem shapesOf_any (p p2:Option Addr) (n c n2 c2:Nat) (d:List Int) (ls:List Ly) (hf:formB d ls=true) (hbig:n2≤1073741823) (w:World) (h1:Nums .i64 w (.slice p n c) d) (hL:LyR 0 w p2 n2 ls):
  Calls Tryz.prog 56 #[.agg #[.slice p n c,.slice p2 n2 c2]] w fun e w'=>∃ v',e = .returned v'∧ShpR (shN d ls ls.length) w.heap.size v' w'∧Below w.heap.size w w':=by
 haveI:Nonempty World:=⟨w⟩
 obtain ⟨r,er⟩:∃ r,shN d ls ls.length=r:=⟨_,rfl⟩
 obtain ⟨hd,hly⟩:=(formB_iff d ls).1 hf
 have HK:Hid (shN d ls ls.length=r∧LyR 0 w p2 n2 ls∧InOk d∧∀ l∈ls,LayOk l):=⟨er,hL,hd,hly⟩
 have cI:Hid (∀ W,Below w.heap.size w W→Calls Tryz.prog 75 #[.slice p n c] W fun e w'=>∃ v',e = .returned v'∧OwnK .i64 3 w' W.heap.size v' d∧Below W.heap.size W w'):=fun W hW=>cloneI_any _ d (by have:=hd.smal.1;omega) W (h1.up hW)
 rw [er]
 clear er hd hly hf h1 hL
 go_enter Tryz.func56,Tryz.ntmps56
 go_wp2_with fail
 generalize hW0:World.alloc _ _=W0
 have HB0:Hid (Below w.heap.size w W0):=by rw [← hW0];exact up_alloc w _
 have HX0:Hid (W0.heap[w.heap.size]?=some (.cells #[.slice p n c,.slice p2 n2 c2] 33 (0,0))∧w.heap.size < W0.heap.size):=by
  show _∧_
  rw [← hW0]
  exact ⟨Array.getElem?_push_size,by simp⟩
 clear hW0
 refine (cI.out W0 HB0.out).mono ?_
 rintro e w1 ⟨v1,rfl,ho1,hB1⟩
 obtain ⟨pa,na,ca,rfl,_⟩:=ho1.nums.lst
 have HX1:Hid (w1.heap[w.heap.size]?=some (.cells #[.slice p n c,.slice p2 n2 c2] 33 (0,0))):=(hB1.block _ HX0.out.2).trans HX0.out.1
 have HO1:Hid (OwnK .i64 3 w1 w.heap.size (.slice pa na ca) d∧Below w.heap.size w w1):=⟨ho1.low HB0.out.size,bstep HB0.out hB1⟩
 clear ho1 hB1 cI HB0 HX0
 have g1:w1.cell? ⟨w.heap.size,1,none⟩=some (.slice p2 n2 c2):=by unfold World.cell?;rw [HX1.out];rfl
 have hz1:=cell_size g1
 go_wp2_with fail
 generalize hW2:World.alloc _ _=W2
 have HX2:Hid (W2.heap[w.heap.size]?=some (.cells #[.slice p n c,.slice p2 n2 c2] 33 (0,0))):=by
  show _=_
  rw [← hW2]
  exact ((up_alloc w1 _).block _ hz1).trans HX1.out
 have HO2:Hid (OwnS W2 w.heap.size (.slice (some ⟨w1.heap.size,0,none⟩) 1 1) [d]∧Below w.heap.size w W2):=by
  show _∧_
  have hb:Below w1.heap.size w1 W2:=by rw [← hW2];exact up_alloc w1 _
  refine ⟨⟨[.slice pa na ca],⟨rfl,.inr ⟨w1.heap.size,1,#[.slice pa na ca],rfl,HO1.out.2.size,?_,Nat.le_refl _,by unfold maxLen;omega,rfl,rfl⟩⟩,fun i hi=>?_⟩,bstep HO1.out.2 hb⟩
  ·rw [← hW2]
   exact Array.getElem?_push_size
  ·obtain rfl:i=0:=by simp at hi;omega
   exact ⟨_,_,_,rfl,HO1.out.1.up hb⟩
 clear hW2 g1 HO1 HX1 hz1
 go_loopg [4,16] n2 (fun gg u v wr=>∃ (k:Nat) (S:List (List Int)),k≤n2∧gg=n2 - k∧v = .int .i64 (k:Int)∧Hid (OwnS wr w.heap.size u S∧Below w.heap.size w wr)∧Hid (shN d ls k=some S)∧Hid (wr.heap[w.heap.size]?=some (.cells #[.slice p n c,.slice p2 n2 c2] 33 (0,0))))
 case atStart=>exact ⟨0,[d],by omega,by omega,rfl,HO2,rfl,HX2⟩
 case round=>
  obtain ⟨k,S,hk,hg,rfl,HO,HS,HX⟩:=hrel
  obtain ⟨ps,cs,rfl,hrd⟩:=HO.out.1.rd
  have hSl:=shN_len HS.out
  obtain ⟨sl,esl⟩:∃ sl,S.length=sl:=⟨_,rfl⟩
  rw [esl] at hrd hSl HO ⊢
  have HRD:Hid (RdS wr ps sl S):=hrd
  have HSL:Hid (S.length=sl):=esl
  subst hSl
  clear esl hrd
  by_cases hkn:k < n2
  ·have hk':(k:Int) < (n2:Int):=by omega
   have hk1:(k:Int) < ((k+1:Nat):Int):=by omega
   have hkl:k < ls.length:=by rw [HK.out.2.1.1];exact hkn
   obtain ⟨q,o,rfl,y0,y1,y2⟩:=(HK.out.2.1.up HO.out.2).2 k hkn
   have hl:=HK.out.2.2.2 _ (lyA_mem hkl)
   have hin:=shN_in HK.out.2.2.1 HK.out.2.2.2 (show k≤ls.length by omega) HS.out
   obtain ⟨l,el⟩:∃ l,lyA ls k=l:=⟨_,rfl⟩
   have HEL:Hid (lyA ls k=l):=el
   rw [el] at y0 y1 y2 hl
   obtain ⟨s,a,b⟩:=l
   simp only [] at y0 y1 y2
   have hlt:=cell_size y0
   have g1:wr.cell? ⟨w.heap.size,1,none⟩=some (.slice (some ⟨q,o,none⟩) n2 c2):=by unfold World.cell?;rw [HX.out];rfl
   have hz1:=cell_size g1
   have HN:Hid (∀ x,shN d ls (k+1)=x→stepS ls k S=x):=fun x hx=>(shN_succ HS.out).symm.trans hx
   have HSK:Hid (stepS ls k S=if s=kSkip∧¬ SkipOk ls S k then none else (outD (s,a,b) (shA S k)).map fun o=>S++[o]):=by show _=_;unfold stepS;rw [HEL.out]
   have cO:Hid (∀ W a3 b3 d3,Nums .i64 W (.slice a3 b3 d3) (shA S k)→Calls Tryz.prog 77 #[.agg #[.string s,.int .i64 a,.int .i64 b],.slice a3 b3 d3] W fun e w'=>∃ v',e = .returned v'∧OutR (outD (s,a,b) (shA S k)) W.heap.size v' w'∧Below W.heap.size W w'):=fun W a3 b3 d3 hv=>outOf_any s a b _ hl (hin k (by omega)) a3 b3 d3 W hv
   have cK:Hid (∀ W,Below wr.heap.size wr W→Calls Tryz.prog 76 #[.slice (some ⟨q,o,none⟩) n2 c2,.slice ps (k+1) cs,.int .i64 (k:Int)] W fun e w'=>e = .returned (.bool (decide (SkipOk ls S k)))∧∃ m,w'=W.drewN m):=fun W hW=>canSkip_any _ ps n2 c2 (k+1) cs ls S k (by omega) hkn (by omega) (fun j hj=>(hin j hj).smal.1) W ((HK.out.2.1.up HO.out.2).up hW) (HRD.out.up hW)
   obtain ⟨xo,exo⟩:∃ xo,outD (s,a,b) (shA S k)=xo:=⟨_,rfl⟩
   rw [exo] at cO HSK
   obtain ⟨-,-,-,-,t4⟩:=kts s
   clear hl hin el exo
   by_cases hk4:kindI s=4
   ·replace t4:=t4.trans (decide_eq_true hk4)
    go_wp2_with fail
    generalize hW3:World.alloc _ _=W3
    have HB3:Hid (Below wr.heap.size wr W3):=by rw [← hW3];exact up_alloc wr _
    obtain ⟨e0,e1,e2⟩:W3.cell? ⟨wr.heap.size,0,none⟩=some (.string s)∧W3.cell? ⟨wr.heap.size,1,none⟩=some (.int .i64 a)∧W3.cell? ⟨wr.heap.size,2,none⟩=some (.int .i64 b):=by rw [← hW3];simp [go_sem]
    clear hW3
    refine (cK.out W3 HB3.out).mono ?_
    rintro e w4 ⟨rfl,m,hw4⟩
    have HB5:Hid (Below wr.heap.size wr w4):=by rw [hw4];exact below_drew HB3.out _
    replace e0:w4.cell? ⟨wr.heap.size,0,none⟩=some (.string s):=by rw [hw4];exact e0
    replace e1:w4.cell? ⟨wr.heap.size,1,none⟩=some (.int .i64 a):=by rw [hw4];exact e1
    replace e2:w4.cell? ⟨wr.heap.size,2,none⟩=some (.int .i64 b):=by rw [hw4];exact e2
    clear hw4 HB3
    by_cases hsk:SkipOk ls S k
    ·rw [decide_eq_true hsk]
     have Hsk:Hid (SkipOk ls S k):=hsk
     clear hsk hk4
     obtain ⟨q3,o3,a3,b3,d3,rfl,s3,m3'⟩:=HRD.out.2 k (by omega)
     have m3:Hid (Nums .i64 wr (.slice a3 b3 d3) (shA S k)):=m3'
     replace s3:=still_cell HB5.out s3
     have hz5:=cell_size e0
     have hz6:=cell_size s3
     clear m3' y0 y1 y2 g1
     go_wp2
     refine relE [⟨5,38,OutR xo w.heap.size⟩,⟨6,32,OutR xo w.heap.size⟩,⟨7,39,OutV xo w.heap.size⟩] 9 49 (by kernel_rfl) rfl rfl 8 _ rfl (by decide) rfl (by kernel_rfl) (by kernel_rfl) (fun _ _ _ _ h=>h) (by rfl) ?_ ?_
     ·intro e he v W W' h hb
      simp only [List.mem_cons,List.not_mem_nil,or_false] at he
      rcases he with rfl|rfl|rfl
      ·exact OutR.up h hb
      ·exact OutR.up h hb
      ·exact OutV.up h hb
     apply Exists.intro
     refine ⟨?yl1,?wk1,?pk1,?rest1⟩
     case wk1=>
      intro x
      simp only [List.take_succ_cons,List.take_zero]
      iterate 5
       refine relQuiet rfl rfl ?_
       apply Exists.intro
       refine ⟨fun F hF hf K hK=>?_,?_⟩
       ·have hFc:=hF.cell
        have hFf:=hF.frozen
        go_big_quiet_op
        first|exact hK|(apply Exists.intro;refine ⟨fun _=>?_,?_⟩;(· fail);exact hK)
       (try simp only [Act.put,List.setIfInBounds_toArray,List.set_cons_zero,List.set_cons_succ])
      refine relTold rfl rfl ?_ ?_
      ·intro F hF hf d
       have hFc:=hF.cell
       have hFf:=hF.frozen
       simp [yieldsR,yieldsUpon,go_sem,hFc,hz5,hz6,e0,e1,e2,s3]
       have hB9:=bstep HB5.out (hF.below d)
       refine (cO.out (F d) a3 b3 d3 (m3.out.up hB9)).mono ?_
       rintro e' w8 ⟨v8,rfl,h8,hB8⟩
       exact ⟨_,rfl,h8.low (Nat.le_trans HO.out.2.size hB9.size),hB8⟩
      (try simp only [Act.put,List.setIfInBounds_toArray,List.set_cons_zero,List.set_cons_succ])
      refine relTold rfl rfl ?_ ?_
      ·intro F hF hf d
       have hFc:=hF.cell
       have hFf:=hF.frozen
       simp [yieldsR,yieldsUpon,go_sem]
       exact ⟨hf _ List.mem_cons_self (by rfl) d,Below.refl _ _⟩
      (try simp only [Act.put,List.setIfInBounds_toArray,List.set_cons_zero,List.set_cons_succ])
      refine relTold rfl rfl ?_ ?_
      ·intro F hF hf d
       have hFc:=hF.cell
       have hFf:=hF.frozen
       obtain ⟨u9,e9,h9⟩:=(hf _ (List.mem_cons_of_mem _ List.mem_cons_self) (by rfl) d).tup
       simp only [] at e9
       simp [yieldsR,yieldsUpon,go_sem,e9]
       exact ⟨h9,Below.refl _ _⟩
      (try simp only [Act.put,List.setIfInBounds_toArray,List.set_cons_zero,List.set_cons_succ])
      refine relQuiet rfl rfl ?_
      apply Exists.intro
      refine ⟨fun F hF hf K hK=>?_,?_⟩
      ·have hFc:=hF.cell
       have hFf:=hF.frozen
       obtain ⟨u9,e9,-⟩:=(hf _ (List.mem_cons_of_mem _ List.mem_cons_self) (by rfl) w).tup
       simp only [] at e9
       rw [e9] at hK ⊢
       go_big_quiet_op
       first|exact hK|(apply Exists.intro;refine ⟨fun _=>?_,?_⟩;(· fail);exact hK)
      (try simp only [Act.put,List.setIfInBounds_toArray,List.set_cons_zero,List.set_cons_succ])
      refine relEnd ?_
      exact rfl
     case pk1=>
      intro x
      simp only [putsK,List.foldl_cons,List.foldl_nil,Act.put,List.setIfInBounds_toArray,List.set_cons_zero,List.set_cons_succ]
     case yl1=>
      intro x hx
      obtain ⟨W9,h9⟩:=hx _ (List.mem_cons_of_mem _ List.mem_cons_self) (by rfl)
      obtain ⟨u9,e9,-⟩:=OutR.tup h9
      simp only [] at e9
      refine ⟨.bool xo.isSome,fun t ht=>?_,.inl ⟨by rfl,fun w=>?_⟩⟩
      ·cases ht
       rfl
      ·simp [execOp,Act.eval,e9,go_sem]
     intro w9 xs hB9 hf
     simp only [List.drop_succ_cons,List.drop_zero]
     have h7:=hf _ (List.mem_cons_of_mem _ (List.mem_cons_of_mem _ List.mem_cons_self))
     simp only [] at h7
     have hB9':=bstep HB5.out hB9
     have HO9:Hid (OwnS w9 w.heap.size (.slice (some ⟨q3,o3,none⟩) (k+1) cs) S∧Below w.heap.size w w9):=⟨HO.out.1.up hB9',bstep HO.out.2 hB9'⟩
     have HX9:Hid (w9.heap[w.heap.size]?=some (.cells #[.slice p n c,.slice (some ⟨q,o,none⟩) n2 c2] 33 (0,0))):=(hB9'.block _ hz1).trans HX.out
     clear hf hB9 hB9' e0 e1 e2 s3 m3 cO cK HB5
     cases xo with
     | none=>
      have er:r=none:=by
       rw [← HK.out.1]
       refine shN_stop (i:=k+1) ?_ hkl
       rw [shN_succ HS.out,HSK.out]
       (try (split <;> rfl))
      subst er
      obtain ⟨v7,e7⟩:∃ v7,xs 7=v7:=⟨_,rfl⟩
      rw [e7]
      clear h7 e7
      go_wp2
      go_ret2
      exact ⟨_,rfl,rfl,HO9.out.2⟩
     | some oo=>
      obtain ⟨p7,n7,c7,e7,h7⟩:=h7
      rw [e7]
      have HS2:Hid (shN d ls (k+1)=some (S++[oo])):=by
       show _=_
       rw [shN_succ HS.out,HSK.out,if_neg fun h=>h.2 Hsk.out]
       rfl
      obtain ⟨vs,hvs,hv4⟩:=HO9.out.1
      have hvl:vs.length=S.length:=by have:=hvs.1;omega
      have HV:Hid (OwnK .i64 3 w9 w.heap.size (.slice p7 n7 c7) oo∧w9.ownsRow w.heap.size 30 1 (.slice (some ⟨q3,o3,none⟩) (k+1) cs) (k+1) vs∧vs.length=S.length∧∀ i,i < S.length→∃ a b c,vs[i]?=some (.slice a b c)∧OwnK .i64 3 w9 w.heap.size (.slice a b c) (shA S i)):=⟨h7,by rw [HSL.out] at hvs;exact hvs,hvl,hv4⟩
      have hk9:k+1+1≤1073741825:=by omega
      clear h7 e7 hvs hv4 hvl HSK HN
      have H5:Hid ((w9.alloc (.cells #[.slice p7 n7 c7] 30)).ownsRow w.heap.size 30 1 (.slice (some ⟨q3,o3,none⟩) (k+1) cs) (k+1) vs):=owns_only (S:=[]) HV.out.2.1 (Only.of (up_alloc w9 _)) (by simp)
      have H6:Hid ((w9.alloc (.cells #[.slice p7 n7 c7] 30)).heap[w9.heap.size]?=some (.cells [.slice p7 n7 c7].toArray 30 (0,0))):=Array.getElem?_push_size
      have H7:Hid (∀ y∈[Value.slice p7 n7 c7],y.oneCell'=true):=fun y hy=>by simp at hy;subst hy;rfl
      have H8:Hid (w.heap.size≤(w9.alloc (.cells #[.slice p7 n7 c7] 30)).heap.size):=by show _≤_;have:=HO9.out.2.size;simp;omega
      have H9:Hid (∀ v0 w0,w0.ownsRow w.heap.size 30 1 v0 (k+1+1) (vs++[.slice p7 n7 c7])→Only [30] (w9.alloc (.cells #[.slice p7 n7 c7] 30)) w0→(∀ w',Below w.heap.size w' (w9.alloc (.cells #[.slice p7 n7 c7] 30))→Below w.heap.size w' w0)→(OwnS w0 w.heap.size v0 (S++[oo])∧Below w.heap.size w w0)∧w0.heap[w.heap.size]?=some (.cells #[.slice p n c,.slice (some ⟨q,o,none⟩) n2 c2] 33 (0,0))):=fun v0 w0 g1 g2 g3=>by
       have hb:=up_alloc w9 (.cells #[.slice p7 n7 c7] 30)
       refine ⟨⟨OwnS.push (W:=w9.alloc (.cells #[.slice p7 n7 c7] 30)) (vs:=vs) (by rw [HSL.out];exact g1) HV.out.2.2.1 (fun i hi=>?_) (HV.out.1.up hb) g2,g3 w (bstep HO9.out.2 hb)⟩,g2.keep ((hb.block _ (heap_lt HX9.out)).trans HX9.out) (by decide)⟩
       obtain ⟨a',b',c',e',h'⟩:=HV.out.2.2.2 i hi
       exact ⟨a',b',c',e',h'.up hb⟩
      clear HV HO9 HX9 HRD HO HX
      go_wp2_with (at_builtin;refine wpList_appG shT (by decide) (by decide) rfl (.tmp 43) (.tmp 45) rfl w.heap.size _ (k+1) vs rfl H5.out _ [.slice p7 n7 c7] rfl H6.out rfl H7.out hk9 H8.out ?_;intro v0 w0 H0 O0 B0)
      obtain ⟨hA,hX⟩:=H9.out v0 w0 H0.out O0.out B0.out
      have HA:Hid (OwnS w0 w.heap.size v0 (S++[oo])∧Below w.heap.size w w0):=hA
      have HXX:Hid (w0.heap[w.heap.size]?=some (.cells #[.slice p n c,.slice (some ⟨q,o,none⟩) n2 c2] 33 (0,0))):=hX
      clear hA hX H0 O0 B0 H5 H6 H7 H8 H9
      go_wp2
      go_roundg (n2 - (k+1))
      case measure=>omega
      case rel=>exact ⟨k+1,S++[oo],by omega,rfl,by first|rfl|simp,HA,HS2,HXX⟩
    ·rw [decide_eq_false hsk]
     have er:r=none:=by
      rw [← HK.out.1]
      refine shN_stop (i:=k+1) ?_ hkl
      rw [shN_succ HS.out,HSK.out,if_pos ⟨(kskip s).2 hk4,hsk⟩]
     subst er
     clear hsk hk4 cO cK HSK HN
     go_wp2
     go_ret2
     exact ⟨_,rfl,rfl,bstep HO.out.2 HB5.out⟩
   ·replace t4:=t4.trans (decide_eq_false hk4)
    have Hns:Hid (¬ s=kSkip):=fun h=>hk4 ((kskip s).1 h)
    clear hk4
    obtain ⟨q3,o3,a3,b3,d3,rfl,s3,m3'⟩:=HRD.out.2 k (by omega)
    have m3:Hid (Nums .i64 wr (.slice a3 b3 d3) (shA S k)):=m3'
    clear m3' g1
    go_wp2
    generalize hW3:World.alloc _ _=W3
    have HB5:Hid (Below wr.heap.size wr W3):=by rw [← hW3];exact up_alloc wr _
    obtain ⟨e0,e1,e2⟩:W3.cell? ⟨wr.heap.size,0,none⟩=some (.string s)∧W3.cell? ⟨wr.heap.size,1,none⟩=some (.int .i64 a)∧W3.cell? ⟨wr.heap.size,2,none⟩=some (.int .i64 b):=by rw [← hW3];simp [go_sem]
    replace s3:=still_cell HB5.out s3
    have hz5:=cell_size e0
    have hz6:=cell_size s3
    clear hW3 y0 y1 y2
    refine relE [⟨5,38,OutR xo w.heap.size⟩,⟨6,32,OutR xo w.heap.size⟩,⟨7,39,OutV xo w.heap.size⟩] 9 49 (by kernel_rfl) rfl rfl 8 _ rfl (by decide) rfl (by kernel_rfl) (by kernel_rfl) (fun _ _ _ _ h=>h) (by rfl) ?_ ?_
    ·intro e he v W W' h hb
     simp only [List.mem_cons,List.not_mem_nil,or_false] at he
     rcases he with rfl|rfl|rfl
     ·exact OutR.up h hb
     ·exact OutR.up h hb
     ·exact OutV.up h hb
    apply Exists.intro
    refine ⟨?yl2,?wk2,?pk2,?rest2⟩
    case wk2=>
     intro x
     simp only [List.take_succ_cons,List.take_zero]
     iterate 5
      refine relQuiet rfl rfl ?_
      apply Exists.intro
      refine ⟨fun F hF hf K hK=>?_,?_⟩
      ·have hFc:=hF.cell
       have hFf:=hF.frozen
       go_big_quiet_op
       first|exact hK|(apply Exists.intro;refine ⟨fun _=>?_,?_⟩;(· fail);exact hK)
      (try simp only [Act.put,List.setIfInBounds_toArray,List.set_cons_zero,List.set_cons_succ])
     refine relTold rfl rfl ?_ ?_
     ·intro F hF hf d
      have hFc:=hF.cell
      have hFf:=hF.frozen
      simp [yieldsR,yieldsUpon,go_sem,hFc,hz5,hz6,e0,e1,e2,s3]
      have hB9:=bstep HB5.out (hF.below d)
      refine (cO.out (F d) a3 b3 d3 (m3.out.up hB9)).mono ?_
      rintro e' w8 ⟨v8,rfl,h8,hB8⟩
      exact ⟨_,rfl,h8.low (Nat.le_trans HO.out.2.size hB9.size),hB8⟩
     (try simp only [Act.put,List.setIfInBounds_toArray,List.set_cons_zero,List.set_cons_succ])
     refine relTold rfl rfl ?_ ?_
     ·intro F hF hf d
      have hFc:=hF.cell
      have hFf:=hF.frozen
      simp [yieldsR,yieldsUpon,go_sem]
      exact ⟨hf _ List.mem_cons_self (by rfl) d,Below.refl _ _⟩
     (try simp only [Act.put,List.setIfInBounds_toArray,List.set_cons_zero,List.set_cons_succ])
     refine relTold rfl rfl ?_ ?_
     ·intro F hF hf d
      have hFc:=hF.cell
      have hFf:=hF.frozen
      obtain ⟨u9,e9,h9⟩:=(hf _ (List.mem_cons_of_mem _ List.mem_cons_self) (by rfl) d).tup
      simp only [] at e9
      simp [yieldsR,yieldsUpon,go_sem,e9]
      exact ⟨h9,Below.refl _ _⟩
     (try simp only [Act.put,List.setIfInBounds_toArray,List.set_cons_zero,List.set_cons_succ])
     refine relQuiet rfl rfl ?_
     apply Exists.intro
     refine ⟨fun F hF hf K hK=>?_,?_⟩
     ·have hFc:=hF.cell
      have hFf:=hF.frozen
      obtain ⟨u9,e9,-⟩:=(hf _ (List.mem_cons_of_mem _ List.mem_cons_self) (by rfl) w).tup
      simp only [] at e9
      rw [e9] at hK ⊢
      go_big_quiet_op
      first|exact hK|(apply Exists.intro;refine ⟨fun _=>?_,?_⟩;(· fail);exact hK)
     (try simp only [Act.put,List.setIfInBounds_toArray,List.set_cons_zero,List.set_cons_succ])
     refine relEnd ?_
     exact rfl
    case pk2=>
     intro x
     simp only [putsK,List.foldl_cons,List.foldl_nil,Act.put,List.setIfInBounds_toArray,List.set_cons_zero,List.set_cons_succ]
    case yl2=>
     intro x hx
     obtain ⟨W9,h9⟩:=hx _ (List.mem_cons_of_mem _ List.mem_cons_self) (by rfl)
     obtain ⟨u9,e9,-⟩:=OutR.tup h9
     simp only [] at e9
     refine ⟨.bool xo.isSome,fun t ht=>?_,.inl ⟨by rfl,fun w=>?_⟩⟩
     ·cases ht
      rfl
     ·simp [execOp,Act.eval,e9,go_sem]
    intro w9 xs hB9 hf
    simp only [List.drop_succ_cons,List.drop_zero]
    have h7:=hf _ (List.mem_cons_of_mem _ (List.mem_cons_of_mem _ List.mem_cons_self))
    simp only [] at h7
    have hB9':=bstep HB5.out hB9
    have HO9:Hid (OwnS w9 w.heap.size (.slice (some ⟨q3,o3,none⟩) (k+1) cs) S∧Below w.heap.size w w9):=⟨HO.out.1.up hB9',bstep HO.out.2 hB9'⟩
    have HX9:Hid (w9.heap[w.heap.size]?=some (.cells #[.slice p n c,.slice (some ⟨q,o,none⟩) n2 c2] 33 (0,0))):=(hB9'.block _ hz1).trans HX.out
    clear hf hB9 hB9' e0 e1 e2 s3 m3 cO cK HB5
    cases xo with
    | none=>
     have er:r=none:=by
      rw [← HK.out.1]
      refine shN_stop (i:=k+1) ?_ hkl
      rw [shN_succ HS.out,HSK.out]
      (try (split <;> rfl))
     subst er
     obtain ⟨v7,e7⟩:∃ v7,xs 7=v7:=⟨_,rfl⟩
     rw [e7]
     clear h7 e7
     go_wp2
     go_ret2
     exact ⟨_,rfl,rfl,HO9.out.2⟩
    | some oo=>
     obtain ⟨p7,n7,c7,e7,h7⟩:=h7
     rw [e7]
     have HS2:Hid (shN d ls (k+1)=some (S++[oo])):=by
      show _=_
      rw [shN_succ HS.out,HSK.out,if_neg fun h=>Hns.out h.1]
      rfl
     obtain ⟨vs,hvs,hv4⟩:=HO9.out.1
     have hvl:vs.length=S.length:=by have:=hvs.1;omega
     have HV:Hid (OwnK .i64 3 w9 w.heap.size (.slice p7 n7 c7) oo∧w9.ownsRow w.heap.size 30 1 (.slice (some ⟨q3,o3,none⟩) (k+1) cs) (k+1) vs∧vs.length=S.length∧∀ i,i < S.length→∃ a b c,vs[i]?=some (.slice a b c)∧OwnK .i64 3 w9 w.heap.size (.slice a b c) (shA S i)):=⟨h7,by rw [HSL.out] at hvs;exact hvs,hvl,hv4⟩
     have hk9:k+1+1≤1073741825:=by omega
     clear h7 e7 hvs hv4 hvl HSK HN
     have H5:Hid ((w9.alloc (.cells #[.slice p7 n7 c7] 30)).ownsRow w.heap.size 30 1 (.slice (some ⟨q3,o3,none⟩) (k+1) cs) (k+1) vs):=owns_only (S:=[]) HV.out.2.1 (Only.of (up_alloc w9 _)) (by simp)
     have H6:Hid ((w9.alloc (.cells #[.slice p7 n7 c7] 30)).heap[w9.heap.size]?=some (.cells [.slice p7 n7 c7].toArray 30 (0,0))):=Array.getElem?_push_size
     have H7:Hid (∀ y∈[Value.slice p7 n7 c7],y.oneCell'=true):=fun y hy=>by simp at hy;subst hy;rfl
     have H8:Hid (w.heap.size≤(w9.alloc (.cells #[.slice p7 n7 c7] 30)).heap.size):=by show _≤_;have:=HO9.out.2.size;simp;omega
     have H9:Hid (∀ v0 w0,w0.ownsRow w.heap.size 30 1 v0 (k+1+1) (vs++[.slice p7 n7 c7])→Only [30] (w9.alloc (.cells #[.slice p7 n7 c7] 30)) w0→(∀ w',Below w.heap.size w' (w9.alloc (.cells #[.slice p7 n7 c7] 30))→Below w.heap.size w' w0)→(OwnS w0 w.heap.size v0 (S++[oo])∧Below w.heap.size w w0)∧w0.heap[w.heap.size]?=some (.cells #[.slice p n c,.slice (some ⟨q,o,none⟩) n2 c2] 33 (0,0))):=fun v0 w0 g1 g2 g3=>by
      have hb:=up_alloc w9 (.cells #[.slice p7 n7 c7] 30)
      refine ⟨⟨OwnS.push (W:=w9.alloc (.cells #[.slice p7 n7 c7] 30)) (vs:=vs) (by rw [HSL.out];exact g1) HV.out.2.2.1 (fun i hi=>?_) (HV.out.1.up hb) g2,g3 w (bstep HO9.out.2 hb)⟩,g2.keep ((hb.block _ (heap_lt HX9.out)).trans HX9.out) (by decide)⟩
      obtain ⟨a',b',c',e',h'⟩:=HV.out.2.2.2 i hi
      exact ⟨a',b',c',e',h'.up hb⟩
     clear HV HO9 HX9 HRD HO HX
     go_wp2_with (at_builtin;refine wpList_appG shT (by decide) (by decide) rfl (.tmp 43) (.tmp 45) rfl w.heap.size _ (k+1) vs rfl H5.out _ [.slice p7 n7 c7] rfl H6.out rfl H7.out hk9 H8.out ?_;intro v0 w0 H0 O0 B0)
     obtain ⟨hA,hX⟩:=H9.out v0 w0 H0.out O0.out B0.out
     have HA:Hid (OwnS w0 w.heap.size v0 (S++[oo])∧Below w.heap.size w w0):=hA
     have HXX:Hid (w0.heap[w.heap.size]?=some (.cells #[.slice p n c,.slice (some ⟨q,o,none⟩) n2 c2] 33 (0,0))):=hX
     clear hA hX H0 O0 B0 H5 H6 H7 H8 H9
     go_wp2
     go_roundg (n2 - (k+1))
     case measure=>omega
     case rel=>exact ⟨k+1,S++[oo],by omega,rfl,by first|rfl|simp,HA,HS2,HXX⟩
  ·obtain rfl:k=n2:=by omega
   have er:r=some S:=by rw [← HK.out.1,HK.out.2.1.1];exact HS.out
   subst er
   go_wp2
   go_ret2
   exact ⟨_,rfl,⟨_,rfl,by have:=HO.out.1;exact this⟩,HO.out.2⟩
theorem Shapes_any (p p2:Option Addr) (n c n2 c2:Nat) (d:List Int) (ls:List Ly) (hbig:n2≤1073741823) (w:World) (hK:Hid (Kz w)) (h1:Nums .i64 w (.slice p n c) d) (hL:LyR 0 w p2 n2 ls):
  Calls Tryz.prog 36 #[.agg #[.slice p n c,.slice p2 n2 c2]] w fun e w'=>∃ ps cs,e = .returned (.tuple #[.slice ps (nS d ls).length cs,.int .i64 (nE d ls)])∧OwnS w' w.heap.size (.slice ps (nS d ls).length cs) (nS d ls)∧Below w.heap.size w w':=by
 obtain ⟨E,eE⟩:∃ E,nE d ls=E:=⟨_,rfl⟩
 obtain ⟨SS,eS⟩:∃ S,nS d ls=S:=⟨_,rfl⟩
 have HE:Hid (nE d ls=E∧nS d ls=SS):=⟨eE,eS⟩
 rw [eE,eS]
 clear eE eS
 obtain ⟨fb,efb⟩:∃ f,formB d ls=f:=⟨_,rfl⟩
 have cN:Hid (∀ W,Below w.heap.size w W→Calls Tryz.prog 55 #[.agg #[.slice p n c,.slice p2 n2 c2]] W fun e w'=>e = .returned (.bool fb)∧Below W.heap.size W w'):=fun W hW=>by
  rw [← efb]
  exact numbersFit_any p p2 n c n2 c2 d ls (by omega) W (Hid.up_kz hK hW) (h1.up hW) (hL.up hW)
 have HF:Hid (formB d ls=fb):=efb
 have HA:Hid (Nums .i64 w (.slice p n c) d∧LyR 0 w p2 n2 ls):=⟨h1,hL⟩
 clear efb h1 hL
 go_enter Tryz.func36,Tryz.ntmps36
 go_wp2_with fail
 generalize hW0:World.alloc _ _=W0
 have HB0:Hid (Below w.heap.size w W0):=by rw [← hW0];exact up_alloc w _
 obtain ⟨g0,g1⟩:W0.cell? ⟨w.heap.size,0,none⟩=some (.slice p n c)∧W0.cell? ⟨w.heap.size,1,none⟩=some (.slice p2 n2 c2):=by rw [← hW0];simp [go_sem]
 clear hW0
 refine (cN.out W0 HB0.out).mono ?_
 rintro e w1 ⟨rfl,hB1⟩
 have HB1:Hid (Below w.heap.size w w1):=bstep HB0.out hB1
 replace g0:=still_cell hB1 g0
 replace g1:=still_cell hB1 g1
 clear hB1 cN HB0
 cases fb with
 | false=>
  have e1:E=1:=by rw [← HE.out.1];exact nE_form (by rw [HF.out];simp)
  have e2:SS = []:=by rw [← HE.out.2];exact (nE_bad (by rw [HE.out.1,e1];decide)).1
  subst e1 e2
  go_wp2
  go_ret2
  exact ⟨_,_,rfl,OwnS.nil _ _,HB1.out⟩
 | true=>
 go_wp2_with fail
 refine (shapesOf_any p p2 n c n2 c2 d ls HF.out hbig w1 (HA.out.1.up HB1.out) (HA.out.2.up HB1.out)).mono ?_
 rintro e w2 ⟨v2,rfl,hr2,hB2⟩
 have HB2:Hid (Below w.heap.size w w2):=bstep HB1.out hB2
 replace g0:=still_cell hB2 g0
 replace g1:=still_cell hB2 g1
 obtain ⟨x,ex⟩:∃ x,shN d ls ls.length=x:=⟨_,rfl⟩
 rw [ex] at hr2
 cases x with
 | none=>
  have e1:E=4:=by rw [← HE.out.1];exact nE_none HF.out ex
  have e2:SS = []:=by rw [← HE.out.2];exact (nE_bad (by rw [HE.out.1,e1];decide)).1
  have hr:v2 = .tuple #[.slice none 0 0,.bool false]:=hr2
  subst e1 e2 hr
  clear hr2 ex hB2
  go_wp2
  go_ret2
  exact ⟨_,_,rfl,OwnS.nil _ _,HB2.out⟩
 | some S=>
  obtain ⟨u,rfl,hoS⟩:=hr2
  obtain ⟨ps,cs,rfl,hrd⟩:=hoS.rd
  obtain ⟨sl,esl⟩:∃ sl,S.length=sl:=⟨_,rfl⟩
  rw [esl] at hrd hoS ⊢
  have HS:Hid (OwnS w2 w.heap.size (.slice ps sl cs) S∧S.length=sl):=⟨hoS.low HB1.out.size,esl⟩
  obtain ⟨hd0,hl0⟩:=(formB_iff d ls).1 HF.out
  have cT:=tooMuch_any p p2 ps n c n2 c2 sl cs d ls S (NetOk.of HF.out ex) (fun k hk=>shN_in hd0 hl0 (Nat.le_refl _) ex k (by rw [← shN_len ex,esl];exact hk)) (by omega) w2 (HA.out.2.up HB2.out) hrd
  obtain ⟨q,eq⟩:∃ q,tooM ls S=q:=⟨_,rfl⟩
  rw [eq] at cT
  have HQ:Hid (tooM ls S=q∧shN d ls ls.length=some S):=⟨eq,ex⟩
  clear hoS hrd esl ex hB2 eq hd0 hl0
  go_wp2_with fail
  refine cT.mono ?_
  rintro e w3 ⟨rfl,hB3⟩
  have HB3:Hid (Below w.heap.size w w3):=bstep HB2.out hB3
  have HS3:Hid (OwnS w3 w.heap.size (.slice ps sl cs) S):=HS.out.1.up hB3
  clear hB3 cT
  cases q with
  | true=>
   have e1:E=2:=by rw [← HE.out.1];exact nE_too HF.out HQ.out.2 HQ.out.1
   have e2:SS = []:=by rw [← HE.out.2];exact (nE_bad (by rw [HE.out.1,e1];decide)).1
   subst e1 e2
   go_wp2
   go_ret2
   exact ⟨_,_,rfl,OwnS.nil _ _,HB3.out⟩
  | false=>
   have h3:=nE_ok HF.out HQ.out.2 HQ.out.1
   have e1:E=0:=by rw [← HE.out.1];exact h3.1
   have e2:SS=S:=by rw [← HE.out.2];exact h3.2.1
   subst e1 e2
   clear h3
   go_wp2
   go_ret2
   rw [HS.out.2]
   exact ⟨_,_,rfl,HS3.out,HB3.out⟩
theorem Params_any (p p2:Option Addr) (n c n2 c2:Nat) (d:List Int) (ls:List Ly) (hbig:n2≤1073741823) (w:World) (hK:Hid (Kz w)) (h1:Nums .i64 w (.slice p n c) d) (hL:LyR 0 w p2 n2 ls):
  Calls Tryz.prog 51 #[.agg #[.slice p n c,.slice p2 n2 c2]] w fun e w'=>e = .returned (.tuple #[.int .i64 (nP d ls),.int .i64 (nE d ls)])∧Below w.heap.size w w':=by
 obtain ⟨E,eE⟩:∃ E,nE d ls=E:=⟨_,rfl⟩
 obtain ⟨PN,eP⟩:∃ P,nP d ls=P:=⟨_,rfl⟩
 obtain ⟨SS,eS⟩:∃ S,nS d ls=S:=⟨_,rfl⟩
 obtain ⟨sl,esl⟩:∃ sl,SS.length=sl:=⟨_,rfl⟩
 have HE:Hid (nE d ls=E∧nP d ls=PN∧nS d ls=SS∧SS.length=sl):=⟨eE,eP,eS,esl⟩
 have cS:Hid (∀ W,Below w.heap.size w W→Calls Tryz.prog 36 #[.agg #[.slice p n c,.slice p2 n2 c2]] W fun e w'=>∃ ps cs,e = .returned (.tuple #[.slice ps sl cs,.int .i64 E])∧OwnS w' W.heap.size (.slice ps sl cs) SS∧Below W.heap.size W w'):=fun W hW=>by
  have:=Shapes_any p p2 n c n2 c2 d ls hbig W (Hid.up_kz hK hW) (h1.up hW) (hL.up hW)
  rw [eE,eS,esl] at this
  exact this
 have HA:Hid (LyR 0 w p2 n2 ls):=hL
 rw [eE,eP]
 clear eE eP eS esl h1 hL
 go_enter Tryz.func51,Tryz.ntmps51
 go_wp2_with fail
 generalize hW0:World.alloc _ _=W0
 have HB0:Hid (Below w.heap.size w W0):=by rw [← hW0];exact up_alloc w _
 obtain ⟨g0,g1⟩:W0.cell? ⟨w.heap.size,0,none⟩=some (.slice p n c)∧W0.cell? ⟨w.heap.size,1,none⟩=some (.slice p2 n2 c2):=by rw [← hW0];simp [go_sem]
 clear hW0
 refine (cS.out W0 HB0.out).mono ?_
 rintro e w1 ⟨ps,cs,rfl,hoS,hB1⟩
 have HB1:Hid (Below w.heap.size w w1):=bstep HB0.out hB1
 replace g0:=still_cell hB1 g0
 replace g1:=still_cell hB1 g1
 by_cases h0:E=0
 ·subst h0
  obtain ⟨S,hf,hs,ht⟩:=net_good HE.out.1
  obtain ⟨_,h4,h5⟩:=nE_ok hf hs ht
  rw [HE.out.2.2.1] at h4
  subst h4
  obtain ⟨p',c',e',hrd⟩:=hoS.rd
  cases e'
  have cc:=countParams_any p p2 ps n c n2 c2 _ cs d ls SS (NetOk.of hf hs) (by omega) w1 (HA.out.up HB1.out) hrd
  rw [← h5,HE.out.2.1] at cc
  clear hoS hB1 hf hs ht h5 hrd cS
  go_wp2_with fail
  refine cc.mono ?_
  rintro e w2 ⟨rfl,hB2⟩
  have HB2:Hid (Below w.heap.size w w2):=bstep HB1.out hB2
  clear hB2 cc
  go_wp2
  go_ret2
  exact ⟨rfl,HB2.out⟩
 ·have hE':(E != 0)=true:=by simpa using h0
  have eP:PN=0:=by rw [← HE.out.2.1];exact (nE_bad (by rw [HE.out.1];exact h0)).2
  subst eP
  clear hoS hB1 cS
  go_wp2
  go_ret2
  exact ⟨rfl,HB1.out⟩
end Go.Proofs.YtjlofobnmjompaaGreatDoor.Wd
namespace Go.Proofs.YtjlofobnmjompaaGreatDoor.Wd
end Go.Proofs.YtjlofobnmjompaaGreatDoor.Wd
namespace Go.Proofs.YtjlofobnmjompaaGreatDoor.Wd
open Go.RowKit
def wdA (ws:List ByteArray) (i:Nat):ByteArray:=ws.getD i ⟨#[]⟩
/-- A slice of words. -/
def StrV (W:World) (v:Value) (ws:List ByteArray):Prop:=∃ p c,v = .slice p ws.length c∧ws.length≤c∧∀ i,i < ws.length→∃ q o,p=some ⟨q,o,none⟩∧W.cell? ⟨q,o+i,none⟩=some (.string (wdA ws i))
theorem StrV.up {W W':World} {v:Value} {ws:List ByteArray} (h:StrV W v ws) (hB:Below W.heap.size W W'):StrV W' v ws:=by
 obtain ⟨p,c,e,hc,h⟩:=h
 exact ⟨p,c,e,hc,fun i hi=>by
  obtain ⟨q,o,e,h⟩:=h i hi
  exact ⟨q,o,e,still_cell hB h⟩⟩
theorem box_3 {W:World} {b:Nat} {v0 v1 v2:Value} {e:TypeId} (h:W.heap[b]?=some (.cells #[v0,v1,v2] e (0,0))):(W.cell? ⟨b,0,none⟩=some v0∧W.frozen? ⟨b,0,none⟩=false)∧(W.cell? ⟨b,1,none⟩=some v1∧W.frozen? ⟨b,1,none⟩=false)∧(W.cell? ⟨b,2,none⟩=some v2∧W.frozen? ⟨b,2,none⟩=false):=by
 simp [World.cell?,World.frozen?,h]
end Go.Proofs.YtjlofobnmjompaaGreatDoor.Wd
namespace Go.Proofs
end Go.Proofs
namespace Go.Proofs.YtjlofobnmjompaaGreatDoor.Wd
open Go.RowKit
def lyC (l:Ly):List Value:=[.string l.1,.int .i64 l.2.1,.int .i64 l.2.2]
/-- A slice of layers of the call's own. -/
def LyO (W:World) (B:Nat) (v:Value) (ls:List Ly):Prop:=W.ownsRow B 69 3 v ls.length (ls.flatMap lyC)
theorem LyO.only {Q:List TypeId} {W W':World} {B:Nat} {v:Value} {ls:List Ly} (h:LyO W B v ls) (ho:Only Q W W') (h1:69∉Q):LyO W' B v ls:=owns_only h ho h1
theorem LyO.up {W W':World} {B:Nat} {v:Value} {ls:List Ly} (h:LyO W B v ls) (hB:Below W.heap.size W W'):LyO W' B v ls:=h.only (Q:=[]) (Only.of hB) (by simp)
/-- append of one element that a literal holds, as a run. -/
theorem appGr {P:Program} {t e:TypeId} {s b:Nat} (T:GT P t e s b) (hb:b≤256) (hs0:0 < s) (ty:TypeId) (W:World) (B:Nat) (v:Value) (n:Nat) (xs:List Value) (ho:W.ownsRow B e s v n xs) (g:Nat) (u:List Value) (hg:W.heap[g]?=some (.cells u.toArray e (0,0))) (hu:u.length=s) (h1:∀ x∈u,x.oneCell'=true) (hn:n+1≤1073741825) (hB:B≤W.heap.size):
  ∃ g' cap w',(Builtin.append_ #[t,t] ty #[v,.slice (some ⟨g,0,none⟩) 1 1]).run P W = .ok (.slice (some ⟨g',0,none⟩) (n+1) cap) w'∧w'.ownsRow B e s (.slice (some ⟨g',0,none⟩) (n+1) cap) (n+1) (xs++u)∧W.grownBy w' v.ownBlock:=by
 have hi:=T.hi
 cases h:P.info? e with
 | none=>rw [h] at hi;cases hi
 | some i=>
  rw [h] at hi
  simp only [Option.map_some,Option.some.injEq,Prod.mk.injEq] at hi
  obtain ⟨hz,hs,hby⟩:=hi
  cases hz0:i.zero with
  | none=>rw [hz0] at hz;cases hz
  | some z=>
   rw [hz0] at hz
   simp only [Option.map_some,Option.some.injEq] at hz
   have hm:(n+1)*b≤1073741825*256:=Nat.mul_le_mul hn hb
   obtain ⟨g',cap,w',hr,h2,h3,_,_⟩:=run_append_lies (P:=P) W t ty B e i z s b T.ht h hz0 hs hby hz hs0 v n xs ho ⟨g,0,none⟩ 1 1 u (by omega) (fun j x hj=>by
    rw [addr_plus,Nat.zero_add]
    unfold World.cell?
    simpa [hg] using hj) h1 (by omega) (by unfold maxLen;omega) (by omega) hB _ rfl
   exact ⟨g',cap,w',hr,h2,h3⟩
/-- A row of the call's own, told as a value. -/
def OwnG (e:TypeId) (s B n:Nat) (xs:List Value) (v:Value) (W:World):Prop:=∃ g c,v = .slice (some ⟨g,0,none⟩) n c∧W.ownsRow B e s v n xs
theorem OwnG.up {e:TypeId} {s B n:Nat} {xs:List Value} {v:Value} {W W':World} (h:OwnG e s B n xs v W) (hB:Below W.heap.size W W'):OwnG e s B n xs v W':=by
 obtain ⟨g,c,e,h⟩:=h
 exact ⟨g,c,e,owns_only (S:=[]) h (Only.of hB) (by simp)⟩
theorem grown_only {e:TypeId} {s B n:Nat} {xs:List Value} {v:Value} {W W':World} (h:W.ownsRow B e s v n xs) (hg:W.grownBy W' v.ownBlock):Only [e] W W':=Only.grown hg fun k hk=>by
 rcases h.2 with ⟨rfl,_⟩|⟨g',cap,cur,rfl,_,hc,_⟩
 ·cases hk
 ·cases hk
  exact ⟨_,_,_,hc,by simp⟩
theorem box_2 {W:World} {b:Nat} {v0 v1:Value} {e:TypeId} (h:W.heap[b]?=some (.cells #[v0,v1] e (0,0))):(W.cell? ⟨b,0,none⟩=some v0∧W.frozen? ⟨b,0,none⟩=false)∧(W.cell? ⟨b,1,none⟩=some v1∧W.frozen? ⟨b,1,none⟩=false):=by
 simp [World.cell?,World.frozen?,h]
/-- What numbersAhead hands back. -/
def NumP (W0:World) (B:Nat) (X:List Int×List ByteArray) (v:Value) (W:World):Prop:=∃ v1 v2,v = .tuple #[v1,v2]∧OwnK .i64 3 W B v1 X.1∧StrV W0 v2 X.2
theorem NumP.up {W0:World} {B:Nat} {X:List Int×List ByteArray} {v:Value} {W W':World} (h:NumP W0 B X v W) (hB:Below W.heap.size W W'):NumP W0 B X v W':=by
 obtain ⟨v1,v2,e,h1,h2⟩:=h
 exact ⟨v1,v2,e,h1.up hB,h2⟩
end Go.Proofs.YtjlofobnmjompaaGreatDoor.Wd
