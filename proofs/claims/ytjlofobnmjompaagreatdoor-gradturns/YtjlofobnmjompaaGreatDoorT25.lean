/- The code's countParams and tooMuch. · The code's shapesOf, Shapes and Params. · Texts of nets: words, numbers, what chapter 12 reads of them, over bytes. Nothing of the program is named here. · Texts of nets: numbers, what is read of words, what is written. Nothing of the program is named here. · The code's reading of texts: numberOf. · The code's reading of texts: words, numbersAhead, layerOf. · The code's reading of texts: wordsOf, netOf. -/
import Derived.Test.YtjlofobnmjompaaGreatDoorT24
import Derived.Test.YtjlofobnmjompaaGreatDoorT22
import Derived.Lib.FieldsP
import Derived.Lib.Join
import Derived.Lib.ItoaNum
import Derived.Laws.CopyOwn
import Derived.Test.YtjlofobnmjompaaGreatDoorT01
import Derived.Test.YtjlofobnmjompaaGreatDoorT17
set_option linter.unusedVariables false
set_option linter.unusedSimpArgs false
set_option maxHeartbeats 16000000
set_option maxRecDepth 16000
namespace Go.Proofs.YtjlofobnmjompaaGreatDoor.Wd
open Go.RowKit
def d_T (P:List (List Int)):Nat->Int
 | 0=>0
 | j+1=>d_T P j+a_t (shA P j)
theorem e_0 {l:Ly} {d:List Int}:d_T (c_t l d) (c_t l d).length=psz l d:=by
 unfold c_t psz;by_cases H:a_s l.1=0
 ·rw [if_pos H,if_pos H];simp [d_T,shA,c_E,c_D]
 rw [if_neg H,if_neg H];by_cases D:a_s l.1=1
 ·rw [if_pos D,if_pos D];simp [d_T,shA,c_V]
 ·rw [if_neg D,if_neg D];rfl
theorem j_9 {l:Ly} {d:List Int} (M:a_R l) (O:InOk d):∀ j,j<=(c_t l d).length->0<=d_T (c_t l d) j/\d_T (c_t l d) j<=1049600:=by
 intro j D;have I:=e_D O M;rw [<- e_0] at I;have R:=O.prod;unfold c_t at D I ⊢;by_cases L:a_s l.1=0
 ·rw [if_pos L] at D I ⊢;rcases a_K M with ⟨-,k,H,J⟩|⟨-,k,H,J⟩|⟨-,k,H,J⟩|⟨-,k,H,J⟩|⟨-,k,H,J⟩ <;> rw [L] at k <;> try cases k
  have:=a_1 H R;rcases (show j=0∨j=1∨j=2 by simp at D;omega) with rfl|rfl|rfl <;> simp [d_T,shA,c_E,c_D] <;> omega
 rw [if_neg L] at D I ⊢;by_cases H:a_s l.1=1
 ·rw [if_pos H] at D I ⊢;rcases (show j=0∨j=1 by simp at D;omega) with rfl|rfl
  ·simp [d_T]
  ·exact I
 ·rw [if_neg H] at D I ⊢;obtain rfl:j=0:=by simp at D;omega
  simp [d_T]
theorem e_1 (l:Ly) (d:List Int):(c_t l d).length<=2:=by
 unfold c_t
 split
 ·simp
 split <;> simp
theorem c_g (p p2 ps:Option Addr) (n c I c2 ns cs:Nat) (d:List Int) (ls:List Ly) (S:List (List Int)) (ok:NetOk d ls S) (aw:I<=1073741824) (w:World) (hL:LyR 0 w p2 I ls) (hS:RdS w ps ns S):
  Calls Tryz.prog 37 #[.agg #[.slice p n c,.slice p2 I c2],.slice ps ns cs] w fun e w'=>e = .returned (.int .i64 (b_4 ls S ls.length))/\Below w.heap.size w w':=by
 haveI:Nonempty World:=⟨w⟩
 obtain ⟨r,er⟩:∃ r,b_4 ls S ls.length=r:=⟨_,rfl⟩
 have HR:Hid (b_4 ls S ls.length=r):=er;have M:Hid (NetOk d ls S/\LyR 0 w p2 I ls/\RdS w ps ns S):=⟨ok,hL,hS⟩
 have au:ns=I+1:=by rw [<- hS.1,ok.len,hL.1]
 subst au;rw [er];clear er ok hL hS;go_enter Tryz.func37,Tryz.ntmps37;go_wp2_with fail
 generalize ac:World.alloc _ _=W0;have am:Hid (Below w.heap.size w W0):=by rw [<- ac];exact a_b w _
 clear ac
 go_loopg [5,13] I (fun gg u v wr=>∃ (k:Nat) (x:Int),k<=I/\gg=I - k/\u = .int .i64 x/\v = .int .i64 (k:Int)/\Hid (x=b_4 ls S k)/\Hid (Below w.heap.size w wr))
 case atStart=>exact ⟨0,0,by omega,by omega,rfl,rfl,rfl,am⟩
 case round=>
  obtain ⟨k,x,hk,hg,rfl,rfl,Hx,HB⟩:=hrel;by_cases aj:k < I
  ·have aD:(k:Int) < (I:Int):=by omega
   have aA:(k:Int) < ((I+1:Nat):Int):=by omega
   have aa:k < ls.length:=by rw [M.out.2.1.1];exact aj
   obtain ⟨q,o,rfl,c0,c1,c2⟩:=(M.out.2.1.up HB.out).2 k aj;obtain ⟨q3,o3,a3,b3,d3,rfl,s3,m3⟩:=(M.out.2.2.up HB.out).2 k (by omega);have hl:=M.out.1.lay k aa;have hi:=M.out.1.inn k aa;have J:=M.out.1.fit k aa;have ak:=g_6 (ls:=ls) (S:=S) (i:=k) (fun j hj=>M.out.1.inn j (by omega)) (fun j hj=>M.out.1.lay j (by omega));rw [<- Hx.out] at ak;have aB:0<=x/\x<=1127000000000000:=by omega
   obtain ⟨l,el⟩:∃ l,lyA ls k=l:=⟨_,rfl⟩
   obtain ⟨dd,ed⟩:∃ dd,shA S k=dd:=⟨_,rfl⟩
   have HN:Hid (x+psz l dd=b_4 ls S (k+1)):=by show _=_;rw [Hx.out,<- el,<- ed];rfl
   rw [el] at c0 c1 c2 hl J;rw [ed] at hi m3 J;obtain ⟨s,a,b⟩:=l;simp only [] at c0 c1 c2 J;have ay:=a_f c0;obtain ⟨PP,eP⟩:∃ PP,c_t (s,a,b) dd=PP:=⟨_,rfl⟩
   have U:Hid (d_T PP PP.length=psz (s,a,b) dd/\(∀ j,j<=PP.length->0<=d_T PP j/\d_T PP j<=1049600)/\(∀ j,j < PP.length->k_O (shA PP j))/\PP.length<=2):=by
    rw [<- eP];exact ⟨e_0,j_9 hl hi,f_N hl hi,e_1 _ _⟩
   have cp:Hid (∀ W,Below wr.heap.size wr W->Calls Tryz.prog 58 #[.agg #[.string s,.int .i64 a,.int .i64 b],.slice a3 b3 d3] W fun e w'=>∃ v',e = .returned v'/\ParR PP v' w'/\Below W.heap.size W w'):=fun W hW=>by
    rw [<- eP];exact d_k s a b dd hl hi J a3 b3 d3 W (m3.up hW)
   clear hl hi J ak m3 el ed eP;go_wp2;generalize ab:World.alloc _ _=W1;have V:Hid (Below wr.heap.size wr W1):=by rw [<- ab];exact a_b wr _
   obtain ⟨e0,e1,e2⟩:W1.cell? ⟨wr.heap.size,0,none⟩=some (.string s)/\W1.cell? ⟨wr.heap.size,1,none⟩=some (.int .i64 a)/\W1.cell? ⟨wr.heap.size,2,none⟩=some (.int .i64 b):=by rw [<- ab];simp [go_sem]
   replace s3:=a_h V.out s3;have ao:=a_f e0;have aq:=a_f s3;clear ab c0 c1 c2;refine rel [⟨5,23,ParR PP⟩] 8 36 (by kernel_rfl) rfl rfl (by kernel_rfl) (by rfl) ?_ ?_
   ·intro e he v W W' h hb;simp only [List.mem_cons,List.not_mem_nil,or_false] at he;subst he;exact ParR.up h hb
   apply Exists.intro;refine ⟨fun x=>?_,?_,?_⟩
   ·simp only [List.take_succ_cons,List.take_zero]
    iterate 5
     refine a_n rfl rfl ?_;apply Exists.intro;refine ⟨fun F hF hf K hK=>?_,?_⟩
     ·have hFc:=hF.cell;have hFf:=hF.frozen
      go_big_quiet_op
      first|exact hK|(apply Exists.intro;refine ⟨fun _=>?_,?_⟩;(· fail);exact hK)
     (try simp only [Act.put,sA_,sB_,sC_])
    refine a_p rfl rfl ?_ ?_
    ·intro F hF hf d;have hFc:=hF.cell;have hFf:=hF.frozen;simp [a_k,a_g,go_sem,hFc,ao,aq,e0,e1,e2,s3];refine (cp.out (F d) (a_c V.out (hF.below _))).mono ?_;rintro e' w8 ⟨v8,rfl,h8,av⟩;exact ⟨_,rfl,h8,av⟩
    (try simp only [Act.put,sA_,sB_,sC_])
    refine a_n rfl rfl ?_;apply Exists.intro;refine ⟨fun F hF hf K hK=>?_,?_⟩
    ·have hFc:=hF.cell;have hFf:=hF.frozen;obtain ⟨p9,c9,e9,-⟩:=hf _ List.mem_cons_self (by rfl) w;simp only [] at e9;rw [e9] at hK ⊢
     go_big_quiet_op
     first|exact hK|(apply Exists.intro;refine ⟨fun _=>?_,?_⟩;(· fail);exact hK)
    (try simp only [Act.put,sA_,sB_,sC_])
    refine a_n rfl rfl ?_;apply Exists.intro;refine ⟨fun F hF hf K hK=>?_,?_⟩
    ·have hFc:=hF.cell;have hFf:=hF.frozen
     go_big_quiet_op
     first|exact hK|(apply Exists.intro;refine ⟨fun _=>?_,?_⟩;(· fail);exact hK)
    (try simp only [Act.put,sA_,sB_,sC_])
    refine b_f ?_;exact rfl
   ·exact fun x=>rfl
   ·intro w9 xs ae hf;simp only [List.drop_succ_cons,List.drop_zero];obtain ⟨p7,c7,e7,h7⟩:=hf _ List.mem_cons_self;simp only [] at e7 h7;have H7:Hid (RdS w9 p7 PP.length PP/\Below w.heap.size w w9):=⟨h7.1,a_c HB.out (a_c V.out ae)⟩
    obtain ⟨v8,e8⟩:∃ v8,xs 5=v8:=⟨_,rfl⟩
    rw [e8] at e7 ⊢;subst e7;have ad:Hid (PP.length<=2):=U.out.2.2.2;obtain ⟨L,ag⟩:∃ L,PP.length=L:=⟨_,rfl⟩
    rw [ag] at H7 U ad ⊢;clear hf ae h7 e0 e1 e2 s3 cp e8 ag;have ax:(L:Int)<=2:=by have:=ad.out;omega
    go_wp2_with fail
    go_loopg [5,25] L (fun gg u v wq=>∃ (j:Nat) (y:Int),j<=L/\gg=L - j/\u = .int .i64 y/\v = .int .i64 (j:Int)/\Hid (y=x+d_T PP j)/\wq=w9)
    case atStart=>exact ⟨0,x,by omega,by omega,rfl,rfl,by show x=x+0;omega,rfl⟩
    case round=>
     obtain ⟨j,y,hj,aC,rfl,rfl,Hy,rfl⟩:=hrel;by_cases R:j < L
     ·have az:(j:Int) < (L:Int):=by omega
      obtain ⟨q5,o5,a5,b5,d5,rfl,s5,m5⟩:=H7.out.1.2 j R;obtain ⟨z,ez⟩:∃ z,a_t (shA PP j)=z:=⟨_,rfl⟩
      have cz:=d_j _ _ (U.out.2.2.1 j R) _ m5;rw [ez] at cz;have an:=U.out.2.1 j (by omega);have ah:=U.out.2.1 (j+1) R;rw [show d_T PP (j+1)=d_T PP j+z by rw [<- ez];rfl] at ah;have ai:y+z=x+(d_T PP j+z):=by rw [Hy.out];omega
      have ar:0<=y+z/\y+z<=1128000000000000:=by omega
      have HY:Hid (y+z=x+d_T PP (j+1)):=by show _=_;rw [ai,<- ez];rfl
      obtain ⟨yz,af⟩:∃ yz,y+z=yz:=⟨_,rfl⟩
      rw [af] at ar HY;clear m5 ez an ah ai;go_wp2_with fail
      refine cz.mono ?_;rintro e w1 ⟨rfl,rfl⟩;clear cz;go_wp2;go_roundg (L - (j+1))
      case measure=>omega
      case rel=>exact ⟨j+1,yz,by omega,rfl,by first|rfl|simp [af],by first|rfl|simp,HY,rfl⟩
     ·obtain rfl:j=L:=by omega
      have HY:Hid (y=b_4 ls S (k+1)):=by show _=_;rw [<- HN.out,<- U.out.1,Hy.out]
      have ap:Hid (Below w.heap.size w _):=H7.out.2;clear Hy HN U H7;go_wp2;go_roundg (I - (k+1))
      case measure=>omega
      case rel=>exact ⟨k+1,y,by omega,rfl,rfl,by first|rfl|simp,HY,ap⟩
  ·obtain rfl:k=I:=by omega
   have ex:x=r:=by rw [Hx.out,<- HR.out,M.out.2.1.1]
   subst ex;go_wp2;go_ret;exact ⟨rfl,HB.out⟩
theorem h_5 {ls:List Ly} {S:List (List Int)}:∀ {i n:Nat},k_6 ls S i=true->i<=n->k_6 ls S n=true
 | i,0,h,hi=>by
  obtain rfl:i=0:=by omega
  exact h
 | i,n+1,h,hi=>by
  rcases Nat.lt_or_ge i (n+1) with D|D
  ·simp only [k_6,Bool.or_eq_true];exact .inl (h_5 h (show i<=n by omega))
  ·obtain rfl:i=n+1:=by omega
   exact h
theorem i_V (p p2 ps:Option Addr) (n c H R ns cs:Nat) (d:List Int) (ls:List Ly) (S:List (List Int)) (ok:NetOk d ls S) (aq:∀ k,k < ns->InOk (shA S k)) (aa:H<=1073741824) (w:World) (hL:LyR 0 w p2 H ls) (hS:RdS w ps ns S):
  Calls Tryz.prog 57 #[.agg #[.slice p n c,.slice p2 H R],.slice ps ns cs] w fun e O=>e = .returned (.bool (e_O ls S))/\Below w.heap.size w O:=by
 haveI:Nonempty World:=⟨w⟩
 obtain ⟨r,er⟩:∃ r,e_O ls S=r:=⟨_,rfl⟩
 have HR:Hid (e_O ls S=r):=er;have U:Hid (NetOk d ls S/\LyR 0 w p2 H ls/\RdS w ps ns S):=⟨ok,hL,hS⟩
 have ax:ns=H+1:=by rw [<- hS.1,ok.len,hL.1]
 subst ax;rw [er];have cF:Hid (∀ W,Below w.heap.size w W->Calls Tryz.prog 78 #[.slice ps (H+1) cs,.func (.func 79) #[] #[]] W fun e O=>e = .returned (.bool (i_g S))/\O=W):=fun W hW=>e_m ps (H+1) cs S (fun i hi=>(aq i hi).smal) (Nat.le_trans (Nat.add_le_add_right aa 1) (by decide)) W (hS.up hW);have cc:Hid (∀ W,Below w.heap.size w W->Calls Tryz.prog 37 #[.agg #[.slice p n c,.slice p2 H R],.slice ps (H+1) cs] W fun e O=>e = .returned (.int .i64 (b_4 ls S ls.length))/\Below W.heap.size W O):=fun W hW=>c_g p p2 ps n c H R (H+1) cs d ls S ok aa W (hL.up hW) (hS.up hW);clear er ok hL hS aq;go_enter Tryz.func57,Tryz.ntmps57;by_cases ao:16 < H
 ·have am:(16:Int) < (H:Int):=by omega
  have e:r=true:=by rw [<- HR.out];unfold e_O;rw [U.out.2.1.1,decide_eq_true ao];simp
  subst e;clear cF cc;go_wp2;go_ret;exact ⟨rfl,a_b w _⟩
 have am:(H:Int)<=16:=by omega
 go_wp2_with fail
 generalize ab:World.alloc _ _=W0;have I:Hid (Below w.heap.size w W0):=by rw [<- ab];exact a_b w _
 obtain ⟨g0,g1⟩:W0.cell? ⟨w.heap.size,0,none⟩=some (.slice p n c)/\W0.cell? ⟨w.heap.size,1,none⟩=some (.slice p2 H R):=by rw [<- ab];simp [go_sem]
 clear ab;refine (cF.out W0 I.out).mono ?_;rintro e w1 ⟨rfl,rfl⟩;obtain ⟨qb,ad⟩:∃ q,i_g S=q:=⟨_,rfl⟩
 have HQ:Hid (i_g S=qb):=ad;rw [ad];clear ad;cases qb with
 | true=>
  have e:r=true:=by rw [<- HR.out];unfold e_O;rw [HQ.out];simp
  subst e;clear cF cc;go_wp2;go_ret;exact ⟨rfl,I.out⟩
 | false=>
 have HG:Hid (w1.cell? ⟨w.heap.size,0,none⟩=some (.slice p n c)/\w1.cell? ⟨w.heap.size,1,none⟩=some (.slice p2 H R)):=⟨g0,g1⟩
 go_wp2_with fail
 go_loopg [18] H (fun gg v wr=>∃ (k:Nat),k<=H/\gg=H - k/\v = .int .i64 (k:Int)/\Hid (k_6 ls S k=false)/\Hid (Below w1.heap.size w1 wr))
 case atStart=>exact ⟨0,by omega,by omega,rfl,rfl,Below.refl _ _⟩
 case round=>
  obtain ⟨k,hk,hg,rfl,Hx,HB⟩:=hrel;by_cases ah:k < H
  ·have aB:(k:Int) < (H:Int):=by omega
   have aA:(k:Int) < ((H+1:Nat):Int):=by omega
   have ag:k < ls.length:=by rw [U.out.2.1.1];exact ah
   have af:=a_c I.out HB.out;obtain ⟨q,o,rfl,c0,c1,R⟩:=(U.out.2.1.up af).2 k ah;obtain ⟨q3,o3,a3,b3,d3,rfl,s3,m3⟩:=(U.out.2.2.up af).2 k (by omega);have hl:=U.out.1.lay k ag;have hi:=U.out.1.inn k ag;have J:=U.out.1.fit k ag;obtain ⟨l,el⟩:∃ l,lyA ls k=l:=⟨_,rfl⟩
   obtain ⟨dd,ed⟩:∃ dd,shA S k=dd:=⟨_,rfl⟩
   have HN:Hid (k_6 ls S (k+1)=r_5 l dd):=by show _=_;rw [<- el,<- ed];show (k_6 ls S k || _)=_;rw [Hx.out];rfl
   rw [el] at c0 c1 R hl J;rw [ed] at hi m3 J;obtain ⟨s,a,b⟩:=l;simp only [] at c0 c1 R J;have az:=a_f c0;obtain ⟨PP,eP⟩:∃ PP,c_t (s,a,b) dd=PP:=⟨_,rfl⟩
   obtain ⟨qq,ac⟩:∃ qq,i_g PP=qq:=⟨_,rfl⟩
   have HP:Hid (r_5 (s,a,b) dd=qq):=by show _=_;rw [<- ac,<- eP];rfl
   have cp:Hid (∀ W,Below wr.heap.size wr W->Calls Tryz.prog 58 #[.agg #[.string s,.int .i64 a,.int .i64 b],.slice a3 b3 d3] W fun e O=>∃ v',e = .returned v'/\ParR PP v' O/\Below W.heap.size W O):=fun W hW=>by
    rw [<- eP];exact d_k s a b dd hl hi J a3 b3 d3 W (m3.up hW)
   have cG:Hid (∀ W v,ParR PP v W->Calls Tryz.prog 78 #[v,.func (.func 79) #[] #[]] W fun e O=>e = .returned (.bool qq)/\O=W):=fun W v hv=>by
    obtain ⟨pv,cv,rfl,hv⟩:=hv;rw [<- ac,<- eP] at *;exact e_m pv _ cv _ (f_N hl hi) (by have:=e_1 (s,a,b) dd;omega) W hv.1
   clear hl hi J m3 el ed eP ac af;go_wp2;generalize ai:World.alloc _ _=W1;have ae:Hid (Below wr.heap.size wr W1):=by rw [<- ai];exact a_b wr _
   obtain ⟨e0,e1,e2⟩:W1.cell? ⟨wr.heap.size,0,none⟩=some (.string s)/\W1.cell? ⟨wr.heap.size,1,none⟩=some (.int .i64 a)/\W1.cell? ⟨wr.heap.size,2,none⟩=some (.int .i64 b):=by rw [<- ai];simp [go_sem]
   replace s3:=a_h ae.out s3;have au:=a_f e0;have aw:=a_f s3;clear ai c0 c1 R;refine rel [⟨5,28,ParR PP⟩] 7 35 (by kernel_rfl) rfl rfl (by kernel_rfl) (by rfl) ?_ ?_
   ·intro e he v W W' h hb;simp only [List.mem_cons,List.not_mem_nil,or_false] at he;subst he;exact ParR.up h hb
   apply Exists.intro;refine ⟨fun x=>?_,?_,?_⟩
   ·simp only [List.take_succ_cons,List.take_zero]
    iterate 5
     refine a_n rfl rfl ?_;apply Exists.intro;refine ⟨fun F hF hf K hK=>?_,?_⟩
     ·have hFc:=hF.cell;have hFf:=hF.frozen
      go_big_quiet_op
      first|exact hK|(apply Exists.intro;refine ⟨fun _=>?_,?_⟩;(· fail);exact hK)
     (try simp only [Act.put,sA_,sB_,sC_])
    refine a_p rfl rfl ?_ ?_
    ·intro F hF hf d;have hFc:=hF.cell;have hFf:=hF.frozen;simp [a_k,a_g,go_sem,hFc,au,aw,e0,e1,e2,s3];refine (cp.out (F d) (a_c ae.out (hF.below _))).mono ?_;rintro e' w8 ⟨v8,rfl,h8,ay⟩;exact ⟨_,rfl,h8,ay⟩
    (try simp only [Act.put,sA_,sB_,sC_])
    refine a_n rfl rfl ?_;apply Exists.intro;refine ⟨fun F hF hf K hK=>?_,?_⟩
    ·have hFc:=hF.cell;have hFf:=hF.frozen
     go_big_quiet_op
     first|exact hK|(apply Exists.intro;refine ⟨fun _=>?_,?_⟩;(· exact hF.same (cG.out _ _ (hf _ List.mem_cons_self (by rfl) _)));exact hK)
    (try simp only [Act.put,sA_,sB_,sC_])
    refine b_f ?_;exact rfl
   ·exact fun x=>rfl
   ·intro w9 xs an hf;simp only [List.drop_succ_cons,List.drop_zero];have ap:Hid (Below w1.heap.size w1 w9):=a_c HB.out (a_c ae.out an);clear hf an e0 e1 e2 s3 cp cG;cases qq with
    | true=>
     have e:r=true:=by rw [<- HR.out];unfold e_O;rw [h_5 (HN.out.trans HP.out) (show k+1<=ls.length by rw [U.out.2.1.1];exact ah)];simp
     subst e;clear cF cc;go_wp2;go_ret;exact ⟨rfl,a_c I.out ap.out⟩
    | false=>
     have ar:Hid (k_6 ls S (k+1)=false):=HN.out.trans HP.out;clear HN HP;go_wp2;go_roundg (H - (k+1))
     case measure=>omega
     case rel=>exact ⟨k+1,by omega,rfl,by first|rfl|simp,ar,ap⟩
  ·obtain rfl:k=H:=by omega
   have g0:=a_h HB.out HG.out.1;have g1:=a_h HB.out HG.out.2;go_wp2_with fail
   refine (cc.out wr (a_c I.out HB.out)).mono ?_;rintro e w2 ⟨rfl,ak⟩;obtain ⟨cn,aj⟩:∃ cn,b_4 ls S ls.length=cn:=⟨_,rfl⟩
   have HC:Hid (decide (4096 < cn)=r):=by
    show _=_;rw [<- HR.out,<- aj];unfold e_O;rw [HQ.out,U.out.2.1.1,Hx.out,decide_eq_false ao];rfl
   have av:Hid (Below w.heap.size w w2):=a_c (a_c I.out HB.out) ak;rw [aj];clear aj cF cc ak;go_wp2;go_ret;rw [<- HC.out];exact ⟨rfl,av.out⟩
/-- A slice's type by its elements' cells and bytes. -/
structure GT (P:Program) (t e:TypeId) (s b:Nat):Prop where
 ht:P.underlying t=some (.slice e)
 hi:(P.info? e).map (fun i=>(i.zero.map fun z=>z.cells.size,i.size,i.bytes))=some (some s,s,b)
/-- append of one element that a literal holds, behind a row of the call's own. -/
theorem b_p {P:Program} {t e:TypeId} {s b:Nat} (T:GT P t e s b) (hb:b<=256) (ab:0 < s) {ops:Array Oper} {rest:List Oper} {o:Oper} {a:Act} {Q:Exit->Act->World->Prop} {w:World} (ad:o.guard=none) (sx x:Operand)
  (ho:o.op = .call { callee:=.builtin .append,args:=#[sx,x],argTypes:=#[t,t] }) (B:Nat) (v:Value) (n:Nat) (xs:List Value) (hs:a.eval sx=v) (D:w.ownsRow B e s v n xs) (g:Nat) (u:List Value) (hx:a.eval x = .slice (some ⟨g,0,none⟩) 1 1)
  (hg:w.heap[g]?=some (.cells u.toArray e (0,0))) (hu:u.length=s) (h1:∀ y∈u,y.oneCell'=true) (hn:n+1<=1073741825) (hB:B<=w.heap.size)
  (h:∀ M I,Hid (I.ownsRow B e s M (n+1) (xs++u))->Hid (Only [e] w I)->Hid (∀ w0,Below B w0 w->Below B w0 I)->wpList P ops Q rest (a.put o.dst M) I):wpList P ops Q (o :: rest) a w:=by
 have J:=T.hi;cases V:P.info? e with
 | none=>rw [V] at J;cases J
 | some i=>
  rw [V] at J;simp only [Option.map_some,Option.some.injEq,Prod.mk.injEq] at J;obtain ⟨L,ac,U⟩:=J;cases H:i.zero with
  | none=>rw [H] at L;cases L
  | some z=>
   rw [H] at L;simp only [Option.map_some,Option.some.injEq] at L;have hm:(n+1)*b<=1073741825*256:=Nat.mul_le_mul hn hb
   refine wpList_append_own w ad sx x t ho B e i z s b T.ht V H ac U L ab v n xs hs D ⟨g,0,none⟩ 1 1 u hx (by omega) (fun j y hj=>by
    rw [a_u,Nat.zero_add];unfold World.cell?;simpa [hg] using hj) h1 (by unfold maxLen;omega) (by omega) hB ?_
   intro M I h2 h3 _;have R:∀ k,v.ownBlock=some k->B<=k:=fun k O=>(World.ownsRow.lt D k O).1;refine h M I h2 (Only.grown h3 fun k O=>?_) fun w0 aa=>Below.grown aa h3 hB R;rcases D.2 with ⟨rfl,_⟩|⟨g',ae,af,rfl,_,hc,_⟩
   ·cases O
   ·cases O;exact ⟨_,_,_,hc,by simp⟩
theorem OwnS.push {W W':World} {B:Nat} {H:Value} {S:List (List Int)} {a:Option Addr} {b c:Nat} {o:List Int} {vs:List Value} (h:W'.ownsRow B 30 1 H (S.length+1) (vs++[.slice a b c])) (R:vs.length=S.length) (L:∀ i,i < S.length->∃ a b c,vs[i]?=some (.slice a b c)/\OwnK .i64 3 W B (.slice a b c) (shA S i)) (O:OwnK .i64 3 W B (.slice a b c) o) (I:Only [30] W W'):OwnS W' B H (S++[o]):=by
 refine ⟨vs++[.slice a b c],by rw [List.length_append];exact h,fun i M=>?_⟩;simp only [List.length_append,List.length_cons,List.length_nil] at M;rcases Nat.lt_or_ge i S.length with D|D
 ·obtain ⟨a,b,c,e,J⟩:=L i D;rw [d_R _ D];exact ⟨a,b,c,by rw [List.getElem?_append_left (by omega)];exact e,J.only I (by decide)⟩
 ·obtain rfl:i=S.length:=by omega
  rw [g_5 S o _ rfl];exact ⟨a,b,c,by rw [List.getElem?_append_right (by omega),R];simp,O.only I (by decide)⟩
theorem shT:GT Tryz.prog 70 30 1 24:=⟨Tryz.underlying70,by kernel_rfl⟩
def OutV (x:Option (List Int)) (B:Nat) (v:Value) (W:World):Prop:=match x with
 | none=>v = .slice none 0 0
 | some o=>∃ p n c,v = .slice p n c/\OwnK .i64 3 W B (.slice p n c) o
theorem OutV.up {x:Option (List Int)} {B:Nat} {v:Value} {W W':World} (h:OutV x B v W) (D:Below W.heap.size W W'):OutV x B v W':=by
 cases x with
 | none=>exact h
 | some o=>
  obtain ⟨p,n,c,e,h⟩:=h;exact ⟨p,n,c,e,h.up D⟩
theorem OutR.tup {x:Option (List Int)} {B:Nat} {v:Value} {W:World} (h:OutR x B v W):∃ u,v = .tuple #[u,.bool x.isSome]/\OutV x B u W:=by
 cases x with
 | none=>exact ⟨_,h,rfl⟩
 | some o=>
  obtain ⟨p,n,c,e,h⟩:=h;exact ⟨_,e,p,n,c,rfl,h⟩
theorem OutR.low {x:Option (List Int)} {B D:Nat} {v:Value} {W:World} (h:OutR x B v W) (H:D<=B):OutR x D v W:=by
 cases x with
 | none=>exact h
 | some o=>
  obtain ⟨p,n,c,e,h⟩:=h;exact ⟨p,n,c,e,h.low H⟩
def t_Q (x:Option (List (List Int))) (B:Nat) (v:Value) (W:World):Prop:=match x with
 | none=>v = .tuple #[.slice none 0 0,.bool false]
 | some S=>∃ u,v = .tuple #[u,.bool true]/\OwnS W B u S
theorem h_6 (p p2:Option Addr) (n c J c2:Nat) (d:List Int) (ls:List Ly) (hf:b_M d ls=true) (aW:J<=1073741823) (w:World) (h1:Nums .i64 w (.slice p n c) d) (hL:LyR 0 w p2 J ls):
  Calls Tryz.prog 56 #[.agg #[.slice p n c,.slice p2 J c2]] w fun e w'=>∃ v',e = .returned v'/\t_Q (shN d ls ls.length) w.heap.size v' w'/\Below w.heap.size w w':=by
 haveI:Nonempty World:=⟨w⟩
 obtain ⟨r,er⟩:∃ r,shN d ls ls.length=r:=⟨_,rfl⟩
 obtain ⟨hd,aP⟩:=(c_f d ls).1 hf;have HK:Hid (shN d ls ls.length=r/\LyR 0 w p2 J ls/\InOk d/\∀ l∈ls,a_R l):=⟨er,hL,hd,aP⟩
 have cI:Hid (∀ W,Below w.heap.size w W->Calls Tryz.prog 75 #[.slice p n c] W fun e w'=>∃ v',e = .returned v'/\OwnK .i64 3 w' W.heap.size v' d/\Below W.heap.size W w'):=fun W hW=>b_h _ d (by have:=hd.smal.1;omega) W (h1.up hW);rw [er];clear er hd aP hf h1 hL;go_enter Tryz.func56,Tryz.ntmps56;go_wp2_with fail
 generalize ay:World.alloc _ _=W0;have ar:Hid (Below w.heap.size w W0):=by rw [<- ay];exact a_b w _
 have aN:Hid (W0.heap[w.heap.size]?=some (.cells #[.slice p n c,.slice p2 J c2] 33 (0,0))/\w.heap.size < W0.heap.size):=by
  show _/\_;rw [<- ay];exact ⟨Array.getElem?_push_size,by simp⟩
 clear ay;refine (cI.out W0 ar.out).mono ?_;rintro e w1 ⟨v1,rfl,aC,aF⟩;obtain ⟨pa,na,ca,rfl,_⟩:=aC.nums.lst;have az:Hid (w1.heap[w.heap.size]?=some (.cells #[.slice p n c,.slice p2 J c2] 33 (0,0))):=(aF.block _ aN.out.2).trans aN.out.1;have au:Hid (OwnK .i64 3 w1 w.heap.size (.slice pa na ca) d/\Below w.heap.size w w1):=⟨aC.low ar.out.size,a_c ar.out aF⟩
 clear aC aF cI ar aN;have g1:w1.cell? ⟨w.heap.size,1,none⟩=some (.slice p2 J c2):=by unfold World.cell?;rw [az.out];rfl
 have ao:=a_f g1;go_wp2_with fail
 generalize aw:World.alloc _ _=W2
 have aV:Hid (W2.heap[w.heap.size]?=some (.cells #[.slice p n c,.slice p2 J c2] 33 (0,0))):=by
  show _=_;rw [<- aw];exact ((a_b w1 _).block _ ao).trans az.out
 have aR:Hid (OwnS W2 w.heap.size (.slice (some ⟨w1.heap.size,0,none⟩) 1 1) [d]/\Below w.heap.size w W2):=by
  show _/\_;have hb:Below w1.heap.size w1 W2:=by rw [<- aw];exact a_b w1 _
  refine ⟨⟨[.slice pa na ca],⟨rfl,.inr ⟨w1.heap.size,1,#[.slice pa na ca],rfl,au.out.2.size,?_,Nat.le_refl _,by unfold maxLen;omega,rfl,rfl⟩⟩,fun i hi=>?_⟩,a_c au.out.2 hb⟩
  ·rw [<- aw];exact Array.getElem?_push_size
  ·obtain rfl:i=0:=by simp at hi;omega
   exact ⟨_,_,_,rfl,au.out.1.up hb⟩
 clear aw g1 au az ao
 go_loopg [4,16] J (fun gg u v wr=>∃ (k:Nat) (S:List (List Int)),k<=J/\gg=J - k/\v = .int .i64 (k:Int)/\Hid (OwnS wr w.heap.size u S/\Below w.heap.size w wr)/\Hid (shN d ls k=some S)/\Hid (wr.heap[w.heap.size]?=some (.cells #[.slice p n c,.slice p2 J c2] 33 (0,0))))
 case atStart=>exact ⟨0,[d],by omega,by omega,rfl,aR,rfl,aV⟩
 case round=>
  obtain ⟨k,S,hk,hg,rfl,HO,HS,HX⟩:=hrel;obtain ⟨ps,cs,rfl,aA⟩:=HO.out.1.rd;have aO:=c_U HS.out;obtain ⟨sl,aE⟩:∃ sl,S.length=sl:=⟨_,rfl⟩
  rw [aE] at aA aO HO ⊢;have am:Hid (RdS wr ps sl S):=aA;have av:Hid (S.length=sl):=aE;subst aO;clear aE aA;by_cases aK:k < J
  ·have aZ:(k:Int) < (J:Int):=by omega
   have aY:(k:Int) < ((k+1:Nat):Int):=by omega
   have ax:k < ls.length:=by rw [HK.out.2.1.1];exact aK
   obtain ⟨q,o,rfl,y0,y1,y2⟩:=(HK.out.2.1.up HO.out.2).2 k aK;have hl:=HK.out.2.2.2 _ (d_Q ax);have aB:=e_l HK.out.2.2.1 HK.out.2.2.2 (show k<=ls.length by omega) HS.out;obtain ⟨l,el⟩:∃ l,lyA ls k=l:=⟨_,rfl⟩
   have aU:Hid (lyA ls k=l):=el;rw [el] at y0 y1 y2 hl;obtain ⟨s,a,b⟩:=l;simp only [] at y0 y1 y2;have aX:=a_f y0;have g1:wr.cell? ⟨w.heap.size,1,none⟩=some (.slice (some ⟨q,o,none⟩) J c2):=by unfold World.cell?;rw [HX.out];rfl
   have ao:=a_f g1;have HN:Hid (∀ x,shN d ls (k+1)=x->f_3 ls k S=x):=fun x hx=>(a_G HS.out).symm.trans hx;have ab:Hid (f_3 ls k S=if s=e_j/\¬ c_Z ls S k then none else (d_A (s,a,b) (shA S k)).map fun o=>S++[o]):=by show _=_;unfold f_3;rw [aU.out]
   have cO:Hid (∀ W a3 b3 d3,Nums .i64 W (.slice a3 b3 d3) (shA S k)->Calls Tryz.prog 77 #[.agg #[.string s,.int .i64 a,.int .i64 b],.slice a3 b3 d3] W fun e w'=>∃ v',e = .returned v'/\OutR (d_A (s,a,b) (shA S k)) W.heap.size v' w'/\Below W.heap.size W w'):=fun W a3 b3 d3 hv=>m_Q s a b _ hl (aB k (by omega)) a3 b3 d3 W hv;have cK:Hid (∀ W,Below wr.heap.size wr W->Calls Tryz.prog 76 #[.slice (some ⟨q,o,none⟩) J c2,.slice ps (k+1) cs,.int .i64 (k:Int)] W fun e w'=>e = .returned (.bool (decide (c_Z ls S k)))/\∃ m,w'=W.drewN m):=fun W hW=>i_T _ ps J c2 (k+1) cs ls S k (by omega) aK (by omega) (fun j hj=>(aB j hj).smal.1) W ((HK.out.2.1.up HO.out.2).up hW) (am.out.up hW);obtain ⟨xo,aQ⟩:∃ xo,d_A (s,a,b) (shA S k)=xo:=⟨_,rfl⟩
   rw [aQ] at cO ab;obtain ⟨-,-,-,-,t4⟩:=kts s;clear hl aB el aQ;by_cases ah:a_s s=4
   ·replace t4:=t4.trans (decide_eq_true ah);go_wp2_with fail
    generalize ag:World.alloc _ _=W3;have aH:Hid (Below wr.heap.size wr W3):=by rw [<- ag];exact a_b wr _
    obtain ⟨e0,e1,e2⟩:W3.cell? ⟨wr.heap.size,0,none⟩=some (.string s)/\W3.cell? ⟨wr.heap.size,1,none⟩=some (.int .i64 a)/\W3.cell? ⟨wr.heap.size,2,none⟩=some (.int .i64 b):=by rw [<- ag];simp [go_sem]
    clear ag;refine (cK.out W3 aH.out).mono ?_;rintro e w4 ⟨rfl,m,ak⟩;have aa:Hid (Below wr.heap.size wr w4):=by rw [ak];exact a_l aH.out _
    replace e0:w4.cell? ⟨wr.heap.size,0,none⟩=some (.string s):=by rw [ak];exact e0
    replace e1:w4.cell? ⟨wr.heap.size,1,none⟩=some (.int .i64 a):=by rw [ak];exact e1
    replace e2:w4.cell? ⟨wr.heap.size,2,none⟩=some (.int .i64 b):=by rw [ak];exact e2
    clear ak aH;by_cases ai:c_Z ls S k
    ·rw [decide_eq_true ai];have aS:Hid (c_Z ls S k):=ai;clear ai ah;obtain ⟨q3,o3,a3,b3,d3,rfl,s3,aj⟩:=am.out.2 k (by omega);have m3:Hid (Nums .i64 wr (.slice a3 b3 d3) (shA S k)):=aj;replace s3:=a_h aa.out s3;have aG:=a_f e0;have aD:=a_f s3;clear aj y0 y1 y2 g1;go_wp2;refine l_v [⟨5,38,OutR xo w.heap.size⟩,⟨6,32,OutR xo w.heap.size⟩,⟨7,39,OutV xo w.heap.size⟩] 9 49 (by kernel_rfl) rfl rfl 8 _ rfl (by decide) rfl (by kernel_rfl) (by kernel_rfl) (fun _ _ _ _ h=>h) (by rfl) ?_ ?_
     ·intro e he v W W' h hb;simp only [List.mem_cons,List.not_mem_nil,or_false] at he;rcases he with rfl|rfl|rfl
      ·exact OutR.up h hb
      ·exact OutR.up h hb
      ·exact OutV.up h hb
     apply Exists.intro;refine ⟨?yl1,?wk1,?pk1,?rest1⟩
     case wk1=>
      intro x;simp only [List.take_succ_cons,List.take_zero]
      iterate 5
       refine a_n rfl rfl ?_;apply Exists.intro;refine ⟨fun F hF hf K hK=>?_,?_⟩
       ·have hFc:=hF.cell;have hFf:=hF.frozen
        go_big_quiet_op
        first|exact hK|(apply Exists.intro;refine ⟨fun _=>?_,?_⟩;(· fail);exact hK)
       (try simp only [Act.put,sA_,sB_,sC_])
      refine a_p rfl rfl ?_ ?_
      ·intro F hF hf d;have hFc:=hF.cell;have hFf:=hF.frozen;simp [a_k,a_g,go_sem,hFc,aG,aD,e0,e1,e2,s3];have U:=a_c aa.out (hF.below d);refine (cO.out (F d) a3 b3 d3 (m3.out.up U)).mono ?_;rintro e' w8 ⟨v8,rfl,h8,aM⟩;exact ⟨_,rfl,h8.low (Nat.le_trans HO.out.2.size U.size),aM⟩
      (try simp only [Act.put,sA_,sB_,sC_])
      refine a_p rfl rfl ?_ ?_
      ·intro F hF hf d;have hFc:=hF.cell;have hFf:=hF.frozen;simp [a_k,a_g,go_sem];exact ⟨hf _ List.mem_cons_self (by rfl) d,Below.refl _ _⟩
      (try simp only [Act.put,sA_,sB_,sC_])
      refine a_p rfl rfl ?_ ?_
      ·intro F hF hf d;have hFc:=hF.cell;have hFf:=hF.frozen;obtain ⟨u9,e9,h9⟩:=(hf _ (List.mem_cons_of_mem _ List.mem_cons_self) (by rfl) d).tup;simp only [] at e9;simp [a_k,a_g,go_sem,e9];exact ⟨h9,Below.refl _ _⟩
      (try simp only [Act.put,sA_,sB_,sC_])
      refine a_n rfl rfl ?_;apply Exists.intro;refine ⟨fun F hF hf K hK=>?_,?_⟩
      ·have hFc:=hF.cell;have hFf:=hF.frozen;obtain ⟨u9,e9,-⟩:=(hf _ (List.mem_cons_of_mem _ List.mem_cons_self) (by rfl) w).tup;simp only [] at e9;rw [e9] at hK ⊢
       go_big_quiet_op
       first|exact hK|(apply Exists.intro;refine ⟨fun _=>?_,?_⟩;(· fail);exact hK)
      (try simp only [Act.put,sA_,sB_,sC_])
      refine b_f ?_;exact rfl
     case pk1=>
      intro x;simp only [b_n,List.foldl_cons,List.foldl_nil,Act.put,sA_,sB_,sC_]
     case yl1=>
      intro x hx;obtain ⟨W9,h9⟩:=hx _ (List.mem_cons_of_mem _ List.mem_cons_self) (by rfl);obtain ⟨u9,e9,-⟩:=OutR.tup h9;simp only [] at e9;refine ⟨.bool xo.isSome,fun t ht=>?_,.inl ⟨by rfl,fun w=>?_⟩⟩
      ·cases ht;rfl
      ·simp [execOp,Act.eval,e9,go_sem]
     intro H xs U hf;simp only [List.drop_succ_cons,List.drop_zero];have h7:=hf _ (List.mem_cons_of_mem _ (List.mem_cons_of_mem _ List.mem_cons_self));simp only [] at h7;have I:=a_c aa.out U;have V:Hid (OwnS H w.heap.size (.slice (some ⟨q3,o3,none⟩) (k+1) cs) S/\Below w.heap.size w H):=⟨HO.out.1.up I,a_c HO.out.2 I⟩
     have af:Hid (H.heap[w.heap.size]?=some (.cells #[.slice p n c,.slice (some ⟨q,o,none⟩) J c2] 33 (0,0))):=(I.block _ ao).trans HX.out;clear hf U I e0 e1 e2 s3 m3 cO cK aa;cases xo with
     | none=>
      have er:r=none:=by
       rw [<- HK.out.1];refine b_m (i:=k+1) ?_ ax;rw [a_G HS.out,ab.out]
       (try (split <;> rfl))
      subst er;obtain ⟨v7,e7⟩:∃ v7,xs 7=v7:=⟨_,rfl⟩
      rw [e7];clear h7 e7;go_wp2;go_ret2;exact ⟨_,rfl,rfl,V.out.2⟩
     | some oo=>
      obtain ⟨R,L,M,e7,h7⟩:=h7;rw [e7]
      have aL:Hid (shN d ls (k+1)=some (S++[oo])):=by
       show _=_;rw [a_G HS.out,ab.out,if_neg fun h=>h.2 aS.out];rfl
      obtain ⟨vs,ac,ap⟩:=V.out.1;have aq:vs.length=S.length:=by have:=ac.1;omega
      have HV:Hid (OwnK .i64 3 H w.heap.size (.slice R L M) oo/\H.ownsRow w.heap.size 30 1 (.slice (some ⟨q3,o3,none⟩) (k+1) cs) (k+1) vs/\vs.length=S.length/\∀ i,i < S.length->∃ a b c,vs[i]?=some (.slice a b c)/\OwnK .i64 3 H w.heap.size (.slice a b c) (shA S i)):=⟨h7,by rw [av.out] at ac;exact ac,aq,ap⟩
      have aJ:k+1+1<=1073741825:=by omega
      clear h7 e7 ac ap aq ab HN;have H5:Hid ((H.alloc (.cells #[.slice R L M] 30)).ownsRow w.heap.size 30 1 (.slice (some ⟨q3,o3,none⟩) (k+1) cs) (k+1) vs):=a_A (S:=[]) HV.out.2.1 (Only.of (a_b H _)) (by simp);have H6:Hid ((H.alloc (.cells #[.slice R L M] 30)).heap[H.heap.size]?=some (.cells [.slice R L M].toArray 30 (0,0))):=Array.getElem?_push_size;have H7:Hid (∀ y∈[Value.slice R L M],y.oneCell'=true):=fun y hy=>by simp at hy;subst hy;rfl
      have H8:Hid (w.heap.size<=(H.alloc (.cells #[.slice R L M] 30)).heap.size):=by show _<=_;have:=V.out.2.size;simp;omega
      have H9:Hid (∀ v0 O,O.ownsRow w.heap.size 30 1 v0 (k+1+1) (vs++[.slice R L M])->Only [30] (H.alloc (.cells #[.slice R L M] 30)) O->(∀ w',Below w.heap.size w' (H.alloc (.cells #[.slice R L M] 30))->Below w.heap.size w' O)->(OwnS O w.heap.size v0 (S++[oo])/\Below w.heap.size w O)/\O.heap[w.heap.size]?=some (.cells #[.slice p n c,.slice (some ⟨q,o,none⟩) J c2] 33 (0,0))):=fun v0 O g1 g2 g3=>by
       have hb:=a_b H (.cells #[.slice R L M] 30);refine ⟨⟨OwnS.push (W:=H.alloc (.cells #[.slice R L M] 30)) (vs:=vs) (by rw [av.out];exact g1) HV.out.2.2.1 (fun i hi=>?_) (HV.out.1.up hb) g2,g3 w (a_c V.out.2 hb)⟩,g2.keep ((hb.block _ (a_i af.out)).trans af.out) (by decide)⟩;obtain ⟨a',b',c',e',h'⟩:=HV.out.2.2.2 i hi;exact ⟨a',b',c',e',h'.up hb⟩
      clear HV V af am HO HX;go_wp2_with (at_builtin;refine b_p shT (by decide) (by decide) rfl (.tmp 43) (.tmp 45) rfl w.heap.size _ (k+1) vs rfl H5.out _ [.slice R L M] rfl H6.out rfl H7.out aJ H8.out ?_;intro v0 O H0 O0 B0)
      obtain ⟨hA,hX⟩:=H9.out v0 O H0.out O0.out B0.out;have HA:Hid (OwnS O w.heap.size v0 (S++[oo])/\Below w.heap.size w O):=hA;have aI:Hid (O.heap[w.heap.size]?=some (.cells #[.slice p n c,.slice (some ⟨q,o,none⟩) J c2] 33 (0,0))):=hX;clear hA hX H0 O0 B0 H5 H6 H7 H8 H9;go_wp2;go_roundg (J - (k+1))
      case measure=>omega
      case rel=>exact ⟨k+1,S++[oo],by omega,rfl,by first|rfl|simp,HA,aL,aI⟩
    ·rw [decide_eq_false ai]
     have er:r=none:=by
      rw [<- HK.out.1];refine b_m (i:=k+1) ?_ ax;rw [a_G HS.out,ab.out,if_pos ⟨(c_W s).2 ah,ai⟩]
     subst er;clear ai ah cO cK ab HN;go_wp2;go_ret2;exact ⟨_,rfl,rfl,a_c HO.out.2 aa.out⟩
   ·replace t4:=t4.trans (decide_eq_false ah);have aT:Hid (¬ s=e_j):=fun h=>ah ((c_W s).1 h);clear ah;obtain ⟨q3,o3,a3,b3,d3,rfl,s3,aj⟩:=am.out.2 k (by omega);have m3:Hid (Nums .i64 wr (.slice a3 b3 d3) (shA S k)):=aj;clear aj g1;go_wp2;generalize ag:World.alloc _ _=W3;have aa:Hid (Below wr.heap.size wr W3):=by rw [<- ag];exact a_b wr _
    obtain ⟨e0,e1,e2⟩:W3.cell? ⟨wr.heap.size,0,none⟩=some (.string s)/\W3.cell? ⟨wr.heap.size,1,none⟩=some (.int .i64 a)/\W3.cell? ⟨wr.heap.size,2,none⟩=some (.int .i64 b):=by rw [<- ag];simp [go_sem]
    replace s3:=a_h aa.out s3;have aG:=a_f e0;have aD:=a_f s3;clear ag y0 y1 y2;refine l_v [⟨5,38,OutR xo w.heap.size⟩,⟨6,32,OutR xo w.heap.size⟩,⟨7,39,OutV xo w.heap.size⟩] 9 49 (by kernel_rfl) rfl rfl 8 _ rfl (by decide) rfl (by kernel_rfl) (by kernel_rfl) (fun _ _ _ _ h=>h) (by rfl) ?_ ?_
    ·intro e he v W W' h hb;simp only [List.mem_cons,List.not_mem_nil,or_false] at he;rcases he with rfl|rfl|rfl
     ·exact OutR.up h hb
     ·exact OutR.up h hb
     ·exact OutV.up h hb
    apply Exists.intro;refine ⟨?yl2,?wk2,?pk2,?rest2⟩
    case wk2=>
     intro x;simp only [List.take_succ_cons,List.take_zero]
     iterate 5
      refine a_n rfl rfl ?_;apply Exists.intro;refine ⟨fun F hF hf K hK=>?_,?_⟩
      ·have hFc:=hF.cell;have hFf:=hF.frozen
       go_big_quiet_op
       first|exact hK|(apply Exists.intro;refine ⟨fun _=>?_,?_⟩;(· fail);exact hK)
      (try simp only [Act.put,sA_,sB_,sC_])
     refine a_p rfl rfl ?_ ?_
     ·intro F hF hf d;have hFc:=hF.cell;have hFf:=hF.frozen;simp [a_k,a_g,go_sem,hFc,aG,aD,e0,e1,e2,s3];have U:=a_c aa.out (hF.below d);refine (cO.out (F d) a3 b3 d3 (m3.out.up U)).mono ?_;rintro e' w8 ⟨v8,rfl,h8,aM⟩;exact ⟨_,rfl,h8.low (Nat.le_trans HO.out.2.size U.size),aM⟩
     (try simp only [Act.put,sA_,sB_,sC_])
     refine a_p rfl rfl ?_ ?_
     ·intro F hF hf d;have hFc:=hF.cell;have hFf:=hF.frozen;simp [a_k,a_g,go_sem];exact ⟨hf _ List.mem_cons_self (by rfl) d,Below.refl _ _⟩
     (try simp only [Act.put,sA_,sB_,sC_])
     refine a_p rfl rfl ?_ ?_
     ·intro F hF hf d;have hFc:=hF.cell;have hFf:=hF.frozen;obtain ⟨u9,e9,h9⟩:=(hf _ (List.mem_cons_of_mem _ List.mem_cons_self) (by rfl) d).tup;simp only [] at e9;simp [a_k,a_g,go_sem,e9];exact ⟨h9,Below.refl _ _⟩
     (try simp only [Act.put,sA_,sB_,sC_])
     refine a_n rfl rfl ?_;apply Exists.intro;refine ⟨fun F hF hf K hK=>?_,?_⟩
     ·have hFc:=hF.cell;have hFf:=hF.frozen;obtain ⟨u9,e9,-⟩:=(hf _ (List.mem_cons_of_mem _ List.mem_cons_self) (by rfl) w).tup;simp only [] at e9;rw [e9] at hK ⊢
      go_big_quiet_op
      first|exact hK|(apply Exists.intro;refine ⟨fun _=>?_,?_⟩;(· fail);exact hK)
     (try simp only [Act.put,sA_,sB_,sC_])
     refine b_f ?_;exact rfl
    case pk2=>
     intro x;simp only [b_n,List.foldl_cons,List.foldl_nil,Act.put,sA_,sB_,sC_]
    case yl2=>
     intro x hx;obtain ⟨W9,h9⟩:=hx _ (List.mem_cons_of_mem _ List.mem_cons_self) (by rfl);obtain ⟨u9,e9,-⟩:=OutR.tup h9;simp only [] at e9;refine ⟨.bool xo.isSome,fun t ht=>?_,.inl ⟨by rfl,fun w=>?_⟩⟩
     ·cases ht;rfl
     ·simp [execOp,Act.eval,e9,go_sem]
    intro H xs U hf;simp only [List.drop_succ_cons,List.drop_zero];have h7:=hf _ (List.mem_cons_of_mem _ (List.mem_cons_of_mem _ List.mem_cons_self));simp only [] at h7;have I:=a_c aa.out U;have V:Hid (OwnS H w.heap.size (.slice (some ⟨q3,o3,none⟩) (k+1) cs) S/\Below w.heap.size w H):=⟨HO.out.1.up I,a_c HO.out.2 I⟩
    have af:Hid (H.heap[w.heap.size]?=some (.cells #[.slice p n c,.slice (some ⟨q,o,none⟩) J c2] 33 (0,0))):=(I.block _ ao).trans HX.out;clear hf U I e0 e1 e2 s3 m3 cO cK aa;cases xo with
    | none=>
     have er:r=none:=by
      rw [<- HK.out.1];refine b_m (i:=k+1) ?_ ax;rw [a_G HS.out,ab.out]
      (try (split <;> rfl))
     subst er;obtain ⟨v7,e7⟩:∃ v7,xs 7=v7:=⟨_,rfl⟩
     rw [e7];clear h7 e7;go_wp2;go_ret2;exact ⟨_,rfl,rfl,V.out.2⟩
    | some oo=>
     obtain ⟨R,L,M,e7,h7⟩:=h7;rw [e7]
     have aL:Hid (shN d ls (k+1)=some (S++[oo])):=by
      show _=_;rw [a_G HS.out,ab.out,if_neg fun h=>aT.out h.1];rfl
     obtain ⟨vs,ac,ap⟩:=V.out.1;have aq:vs.length=S.length:=by have:=ac.1;omega
     have HV:Hid (OwnK .i64 3 H w.heap.size (.slice R L M) oo/\H.ownsRow w.heap.size 30 1 (.slice (some ⟨q3,o3,none⟩) (k+1) cs) (k+1) vs/\vs.length=S.length/\∀ i,i < S.length->∃ a b c,vs[i]?=some (.slice a b c)/\OwnK .i64 3 H w.heap.size (.slice a b c) (shA S i)):=⟨h7,by rw [av.out] at ac;exact ac,aq,ap⟩
     have aJ:k+1+1<=1073741825:=by omega
     clear h7 e7 ac ap aq ab HN;have H5:Hid ((H.alloc (.cells #[.slice R L M] 30)).ownsRow w.heap.size 30 1 (.slice (some ⟨q3,o3,none⟩) (k+1) cs) (k+1) vs):=a_A (S:=[]) HV.out.2.1 (Only.of (a_b H _)) (by simp);have H6:Hid ((H.alloc (.cells #[.slice R L M] 30)).heap[H.heap.size]?=some (.cells [.slice R L M].toArray 30 (0,0))):=Array.getElem?_push_size;have H7:Hid (∀ y∈[Value.slice R L M],y.oneCell'=true):=fun y hy=>by simp at hy;subst hy;rfl
     have H8:Hid (w.heap.size<=(H.alloc (.cells #[.slice R L M] 30)).heap.size):=by show _<=_;have:=V.out.2.size;simp;omega
     have H9:Hid (∀ v0 O,O.ownsRow w.heap.size 30 1 v0 (k+1+1) (vs++[.slice R L M])->Only [30] (H.alloc (.cells #[.slice R L M] 30)) O->(∀ w',Below w.heap.size w' (H.alloc (.cells #[.slice R L M] 30))->Below w.heap.size w' O)->(OwnS O w.heap.size v0 (S++[oo])/\Below w.heap.size w O)/\O.heap[w.heap.size]?=some (.cells #[.slice p n c,.slice (some ⟨q,o,none⟩) J c2] 33 (0,0))):=fun v0 O g1 g2 g3=>by
      have hb:=a_b H (.cells #[.slice R L M] 30);refine ⟨⟨OwnS.push (W:=H.alloc (.cells #[.slice R L M] 30)) (vs:=vs) (by rw [av.out];exact g1) HV.out.2.2.1 (fun i hi=>?_) (HV.out.1.up hb) g2,g3 w (a_c V.out.2 hb)⟩,g2.keep ((hb.block _ (a_i af.out)).trans af.out) (by decide)⟩;obtain ⟨a',b',c',e',h'⟩:=HV.out.2.2.2 i hi;exact ⟨a',b',c',e',h'.up hb⟩
     clear HV V af am HO HX;go_wp2_with (at_builtin;refine b_p shT (by decide) (by decide) rfl (.tmp 43) (.tmp 45) rfl w.heap.size _ (k+1) vs rfl H5.out _ [.slice R L M] rfl H6.out rfl H7.out aJ H8.out ?_;intro v0 O H0 O0 B0)
     obtain ⟨hA,hX⟩:=H9.out v0 O H0.out O0.out B0.out;have HA:Hid (OwnS O w.heap.size v0 (S++[oo])/\Below w.heap.size w O):=hA;have aI:Hid (O.heap[w.heap.size]?=some (.cells #[.slice p n c,.slice (some ⟨q,o,none⟩) J c2] 33 (0,0))):=hX;clear hA hX H0 O0 B0 H5 H6 H7 H8 H9;go_wp2;go_roundg (J - (k+1))
     case measure=>omega
     case rel=>exact ⟨k+1,S++[oo],by omega,rfl,by first|rfl|simp,HA,aL,aI⟩
  ·obtain rfl:k=J:=by omega
   have er:r=some S:=by rw [<- HK.out.1,HK.out.2.1.1];exact HS.out
   subst er;go_wp2;go_ret2;exact ⟨_,rfl,⟨_,rfl,by have:=HO.out.1;exact this⟩,HO.out.2⟩
theorem g_q (p p2:Option Addr) (n c U c2:Nat) (d:List Int) (ls:List Ly) (ah:U<=1073741823) (w:World) (hK:Hid (Kz w)) (h1:Nums .i64 w (.slice p n c) d) (hL:LyR 0 w p2 U ls):
  Calls Tryz.prog 36 #[.agg #[.slice p n c,.slice p2 U c2]] w fun e w'=>∃ ps cs,e = .returned (.tuple #[.slice ps (nS d ls).length cs,.int .i64 (nE d ls)])/\OwnS w' w.heap.size (.slice ps (nS d ls).length cs) (nS d ls)/\Below w.heap.size w w':=by
 obtain ⟨E,eE⟩:∃ E,nE d ls=E:=⟨_,rfl⟩
 obtain ⟨SS,eS⟩:∃ S,nS d ls=S:=⟨_,rfl⟩
 have J:Hid (nE d ls=E/\nS d ls=SS):=⟨eE,eS⟩
 rw [eE,eS];clear eE eS;obtain ⟨fb,ae⟩:∃ f,b_M d ls=f:=⟨_,rfl⟩
 have cN:Hid (∀ W,Below w.heap.size w W->Calls Tryz.prog 55 #[.agg #[.slice p n c,.slice p2 U c2]] W fun e w'=>e = .returned (.bool fb)/\Below W.heap.size W w'):=fun W hW=>by
  rw [<- ae];exact f_4 p p2 n c U c2 d ls (by omega) W (Hid.up_kz hK hW) (h1.up hW) (hL.up hW)
 have HF:Hid (b_M d ls=fb):=ae;have HA:Hid (Nums .i64 w (.slice p n c) d/\LyR 0 w p2 U ls):=⟨h1,hL⟩
 clear ae h1 hL;go_enter Tryz.func36,Tryz.ntmps36;go_wp2_with fail
 generalize aa:World.alloc _ _=W0;have ab:Hid (Below w.heap.size w W0):=by rw [<- aa];exact a_b w _
 obtain ⟨g0,g1⟩:W0.cell? ⟨w.heap.size,0,none⟩=some (.slice p n c)/\W0.cell? ⟨w.heap.size,1,none⟩=some (.slice p2 U c2):=by rw [<- aa];simp [go_sem]
 clear aa;refine (cN.out W0 ab.out).mono ?_;rintro e w1 ⟨rfl,R⟩;have I:Hid (Below w.heap.size w w1):=a_c ab.out R;replace g0:=a_h R g0;replace g1:=a_h R g1;clear R cN ab;cases fb with
 | false=>
  have L:E=1:=by rw [<- J.out.1];exact m_M (by rw [HF.out];simp)
  have e2:SS = []:=by rw [<- J.out.2];exact (h_3 (by rw [J.out.1,L];decide)).1
  subst L e2;go_wp2;go_ret2;exact ⟨_,_,rfl,OwnS.nil _ _,I.out⟩
 | true=>
 go_wp2_with fail
 refine (h_6 p p2 n c U c2 d ls HF.out ah w1 (HA.out.1.up I.out) (HA.out.2.up I.out)).mono ?_;rintro e w2 ⟨v2,rfl,V,H⟩;have ac:Hid (Below w.heap.size w w2):=a_c I.out H;replace g0:=a_h H g0;replace g1:=a_h H g1;obtain ⟨x,ex⟩:∃ x,shN d ls ls.length=x:=⟨_,rfl⟩
 rw [ex] at V;cases x with
 | none=>
  have L:E=4:=by rw [<- J.out.1];exact d_i HF.out ex
  have e2:SS = []:=by rw [<- J.out.2];exact (h_3 (by rw [J.out.1,L];decide)).1
  have hr:v2 = .tuple #[.slice none 0 0,.bool false]:=V;subst L e2 hr;clear V ex H;go_wp2;go_ret2;exact ⟨_,_,rfl,OwnS.nil _ _,ac.out⟩
 | some S=>
  obtain ⟨u,rfl,M⟩:=V;obtain ⟨ps,cs,rfl,ad⟩:=M.rd;obtain ⟨sl,O⟩:∃ sl,S.length=sl:=⟨_,rfl⟩
  rw [O] at ad M ⊢;have HS:Hid (OwnS w2 w.heap.size (.slice ps sl cs) S/\S.length=sl):=⟨M.low I.out.size,O⟩
  obtain ⟨aj,ai⟩:=(c_f d ls).1 HF.out;have cT:=i_V p p2 ps n c U c2 sl cs d ls S (NetOk.of HF.out ex) (fun k hk=>e_l aj ai (Nat.le_refl _) ex k (by rw [<- c_U ex,O];exact hk)) (by omega) w2 (HA.out.2.up ac.out) ad;obtain ⟨q,eq⟩:∃ q,e_O ls S=q:=⟨_,rfl⟩
  rw [eq] at cT;have HQ:Hid (e_O ls S=q/\shN d ls ls.length=some S):=⟨eq,ex⟩
  clear M ad O ex H eq aj ai;go_wp2_with fail
  refine cT.mono ?_;rintro e w3 ⟨rfl,af⟩;have ag:Hid (Below w.heap.size w w3):=a_c ac.out af;have ak:Hid (OwnS w3 w.heap.size (.slice ps sl cs) S):=HS.out.1.up af;clear af cT;cases q with
  | true=>
   have L:E=2:=by rw [<- J.out.1];exact m_N HF.out HQ.out.2 HQ.out.1
   have e2:SS = []:=by rw [<- J.out.2];exact (h_3 (by rw [J.out.1,L];decide)).1
   subst L e2;go_wp2;go_ret2;exact ⟨_,_,rfl,OwnS.nil _ _,ag.out⟩
  | false=>
   have h3:=k_N HF.out HQ.out.2 HQ.out.1;have L:E=0:=by rw [<- J.out.1];exact h3.1
   have e2:SS=S:=by rw [<- J.out.2];exact h3.2.1
   subst L e2;clear h3;go_wp2;go_ret2;rw [HS.out.2];exact ⟨_,_,rfl,ak.out,ag.out⟩
theorem k_S (p M:Option Addr) (n c I c2:Nat) (d:List Int) (ls:List Ly) (ac:I<=1073741823) (w:World) (hK:Hid (Kz w)) (h1:Nums .i64 w (.slice p n c) d) (hL:LyR 0 w M I ls):
  Calls Tryz.prog 51 #[.agg #[.slice p n c,.slice M I c2]] w fun e w'=>e = .returned (.tuple #[.int .i64 (nP d ls),.int .i64 (nE d ls)])/\Below w.heap.size w w':=by
 obtain ⟨E,eE⟩:∃ E,nE d ls=E:=⟨_,rfl⟩
 obtain ⟨PN,eP⟩:∃ P,nP d ls=P:=⟨_,rfl⟩
 obtain ⟨V,eS⟩:∃ S,nS d ls=S:=⟨_,rfl⟩
 obtain ⟨sl,R⟩:∃ sl,V.length=sl:=⟨_,rfl⟩
 have HE:Hid (nE d ls=E/\nP d ls=PN/\nS d ls=V/\V.length=sl):=⟨eE,eP,eS,R⟩
 have cS:Hid (∀ W,Below w.heap.size w W->Calls Tryz.prog 36 #[.agg #[.slice p n c,.slice M I c2]] W fun e w'=>∃ ps cs,e = .returned (.tuple #[.slice ps sl cs,.int .i64 E])/\OwnS w' W.heap.size (.slice ps sl cs) V/\Below W.heap.size W w'):=fun W hW=>by
  have:=g_q p M n c I c2 d ls ac W (Hid.up_kz hK hW) (h1.up hW) (hL.up hW);rw [eE,eS,R] at this;exact this
 have HA:Hid (LyR 0 w M I ls):=hL;rw [eE,eP];clear eE eP eS R h1 hL;go_enter Tryz.func51,Tryz.ntmps51;go_wp2_with fail
 generalize J:World.alloc _ _=W0;have aa:Hid (Below w.heap.size w W0):=by rw [<- J];exact a_b w _
 obtain ⟨g0,g1⟩:W0.cell? ⟨w.heap.size,0,none⟩=some (.slice p n c)/\W0.cell? ⟨w.heap.size,1,none⟩=some (.slice M I c2):=by rw [<- J];simp [go_sem]
 clear J;refine (cS.out W0 aa.out).mono ?_;rintro e w1 ⟨ps,cs,rfl,O,H⟩;have L:Hid (Below w.heap.size w w1):=a_c aa.out H;replace g0:=a_h H g0;replace g1:=a_h H g1;by_cases h0:E=0
 ·subst h0;obtain ⟨S,hf,hs,ht⟩:=e_Z HE.out.1;obtain ⟨_,h4,h5⟩:=k_N hf hs ht;rw [HE.out.2.2.1] at h4;subst h4;obtain ⟨p',c',e',ab⟩:=O.rd;cases e';have cc:=c_g p M ps n c I c2 _ cs d ls V (NetOk.of hf hs) (by omega) w1 (HA.out.up L.out) ab;rw [<- h5,HE.out.2.1] at cc;clear O H hf hs ht h5 ab cS;go_wp2_with fail
  refine cc.mono ?_;rintro e w2 ⟨rfl,U⟩;have ad:Hid (Below w.heap.size w w2):=a_c L.out U;clear U cc;go_wp2;go_ret2;exact ⟨rfl,ad.out⟩
 ·have ae:(E != 0)=true:=by simpa using h0
  have eP:PN=0:=by rw [<- HE.out.2.1];exact (h_3 (by rw [HE.out.1];exact h0)).2
  subst eP;clear O H cS;go_wp2;go_ret2;exact ⟨rfl,L.out⟩
end Go.Proofs.YtjlofobnmjompaaGreatDoor.Wd
namespace Go.Proofs.YtjlofobnmjompaaGreatDoor.Wd
end Go.Proofs.YtjlofobnmjompaaGreatDoor.Wd
namespace Go.Proofs.YtjlofobnmjompaaGreatDoor.Wd
open Go.RowKit
theorem t_i {W:World} {b:Nat} {I D H:Value} {e:TypeId} (h:W.heap[b]?=some (.cells #[I,D,H] e (0,0))):(W.cell? ⟨b,0,none⟩=some I/\W.frozen? ⟨b,0,none⟩=false)/\(W.cell? ⟨b,1,none⟩=some D/\W.frozen? ⟨b,1,none⟩=false)/\(W.cell? ⟨b,2,none⟩=some H/\W.frozen? ⟨b,2,none⟩=false):=by
 simp [World.cell?,World.frozen?,h]
end Go.Proofs.YtjlofobnmjompaaGreatDoor.Wd
namespace Go.Proofs
end Go.Proofs
namespace Go.Proofs.YtjlofobnmjompaaGreatDoor.Wd
open Go.RowKit
def lyC (l:Ly):List Value:=[.string l.1,.int .i64 l.2.1,.int .i64 l.2.2]
theorem r_6 (ls:List Ly) (i k:Nat) (D:i < ls.length) (H:k < 3):(ls.flatMap lyC)[i*3+k]?=(lyC (lyA ls i))[k]?:=by
 induction ls generalizing i with
 | nil=>simp at D
 | cons l ls ih=>
  rw [List.flatMap_cons];cases i with
  | zero=>
   rw [Nat.zero_mul,Nat.zero_add,List.getElem?_append_left (by show k < 3;exact H)];rfl
  | succ i=>
   rw [List.getElem?_append_right (by show 3<=_;omega),show (i+1)*3+k - (lyC l).length=i*3+k by show (i+1)*3+k - 3=_;omega,ih i (by simpa using D)];rfl
/-- append of one element that a literal holds, as a run. -/
theorem r_7 {P:Program} {t e:TypeId} {s b:Nat} (T:GT P t e s b) (hb:b<=256) (R:0 < s) (U:TypeId) (W:World) (B:Nat) (v:Value) (n:Nat) (xs:List Value) (ho:W.ownsRow B e s v n xs) (g:Nat) (u:List Value) (hg:W.heap[g]?=some (.cells u.toArray e (0,0))) (hu:u.length=s) (h1:∀ x∈u,x.oneCell'=true) (hn:n+1<=1073741825) (hB:B<=W.heap.size):
  ∃ M D L,(Builtin.append_ #[t,t] U #[v,.slice (some ⟨g,0,none⟩) 1 1]).run P W = .ok (.slice (some ⟨M,0,none⟩) (n+1) D) L/\L.ownsRow B e s (.slice (some ⟨M,0,none⟩) (n+1) D) (n+1) (xs++u)/\W.grownBy L v.ownBlock:=by
 have I:=T.hi;cases h:P.info? e with
 | none=>rw [h] at I;cases I
 | some i=>
  rw [h] at I;simp only [Option.map_some,Option.some.injEq,Prod.mk.injEq] at I;obtain ⟨J,hs,O⟩:=I;cases H:i.zero with
  | none=>rw [H] at J;cases J
  | some z=>
   rw [H] at J;simp only [Option.map_some,Option.some.injEq] at J;have hm:(n+1)*b<=1073741825*256:=Nat.mul_le_mul hn hb
   obtain ⟨M,D,L,hr,h2,h3,_,_⟩:=run_append_lies (P:=P) W t U B e i z s b T.ht h H hs O J R v n xs ho ⟨g,0,none⟩ 1 1 u (by omega) (fun j x V=>by
    rw [a_u,Nat.zero_add];unfold World.cell?;simpa [hg] using V) h1 (by omega) (by unfold maxLen;omega) (by omega) hB _ rfl
   exact ⟨M,D,L,hr,h2,h3⟩
/-- A row of the call's own, told as a value. -/
def OwnG (e:TypeId) (s B n:Nat) (xs:List Value) (v:Value) (W:World):Prop:=∃ g c,v = .slice (some ⟨g,0,none⟩) n c/\W.ownsRow B e s v n xs
theorem OwnG.up {e:TypeId} {s B n:Nat} {xs:List Value} {v:Value} {W W':World} (h:OwnG e s B n xs v W) (D:Below W.heap.size W W'):OwnG e s B n xs v W':=by
 obtain ⟨g,c,e,h⟩:=h;exact ⟨g,c,e,a_A (S:=[]) h (Only.of D) (by simp)⟩
theorem g_r {e:TypeId} {s B n:Nat} {xs:List Value} {v:Value} {W W':World} (h:W.ownsRow B e s v n xs) (J:W.grownBy W' v.ownBlock):Only [e] W W':=Only.grown J fun k D=>by
 rcases h.2 with ⟨rfl,_⟩|⟨M,L,H,rfl,_,I,_⟩
 ·cases D
 ·cases D;exact ⟨_,_,_,I,by simp⟩
theorem e_n {W:World} {b:Nat} {H D:Value} {e:TypeId} (h:W.heap[b]?=some (.cells #[H,D] e (0,0))):(W.cell? ⟨b,0,none⟩=some H/\W.frozen? ⟨b,0,none⟩=false)/\(W.cell? ⟨b,1,none⟩=some D/\W.frozen? ⟨b,1,none⟩=false):=by
 simp [World.cell?,World.frozen?,h]
theorem q_N {W U:World} {b:Nat} {t:TypeId} {M L D H:Value} (h:W.heap[b]?=some (.cells #[M,L] t (0,0))) (e:(W.setCell ⟨b,0,none⟩ D).setCell ⟨b,1,none⟩ H=U):
  U.cell? ⟨b,0,none⟩=some D/\U.cell? ⟨b,1,none⟩=some H/\(∀ w B,B<=b->Below B w W->Below B w U)/\Only [t] W U:=by
 have I:U.heap[b]?=some (.cells #[D,H] t (0,0)):=by
  rw [<- e,a_m (a_m h)];rfl
 refine ⟨by simp [World.cell?,I],by simp [World.cell?,I],fun w B hb J=>?_,?_⟩
 ·rw [<- e];exact (J.setCell (p:=⟨b,0,none⟩) hb _).setCell (p:=⟨b,1,none⟩) hb _
 ·rw [<- e];exact (Only.set h (by simp)).trans (Only.set (a_m h) (by simp))
end Go.Proofs.YtjlofobnmjompaaGreatDoor.Wd
