/- The code's countParams and tooMuch. · Th -/
import Derived.Test.YtjlofobnmjompaaGreatDoorP24
import Derived.Lib.FieldsP
import Derived.Lib.Join
set_option linter.unusedVariables false
set_option linter.unusedSimpArgs false
set_option maxHeartbeats 16000000
set_option maxRecDepth 16000
namespace Go.Proofs.YtjlofobnmjompaaGreatDoor.Wd
open Go.RowKit
def d_W (P:List (List Int)):Nat->Int
 | 0=>0
 | j+1=>d_W P j+a_t (shA P j)
theorem e_0 {l:Ly} {d:List Int}:d_W (c_t l d) (c_t l d).length=psz l d:=by
 unfold c_t psz;by_cases E:a_s l.1=0
 ·rw [if_pos E,if_pos E];simp [d_W,shA,c_D,c_C]
 rw [if_neg E,if_neg E];by_cases D:a_s l.1=1
 ·rw [if_pos D,if_pos D];simp [d_W,shA,c_V]
 ·rw [if_neg D,if_neg D];rfl
theorem j_9 {l:Ly} {d:List Int} (L:a_S l) (M:InOk d):∀ j,j<=(c_t l d).length->0<=d_W (c_t l d) j/\d_W (c_t l d) j<=1049600:=by
 intro j D;have H:=e_D M L;rw [<- e_0] at H;have O:=M.prod;unfold c_t at D H ⊢;by_cases J:a_s l.1=0
 ·rw [if_pos J] at D H ⊢;rcases a_K L with ⟨-,k,E,I⟩|⟨-,k,E,I⟩|⟨-,k,E,I⟩|⟨-,k,E,I⟩|⟨-,k,E,I⟩ <;> rw [J] at k <;> try cases k
  have:=a_3 E O;rcases (show j=0∨j=1∨j=2 by simp at D;omega) with rfl|rfl|rfl <;> simp [d_W,shA,c_D,c_C] <;> omega
 rw [if_neg J] at D H ⊢;by_cases E:a_s l.1=1
 ·rw [if_pos E] at D H ⊢;rcases (show j=0∨j=1 by simp at D;omega) with rfl|rfl
  ·simp [d_W]
  ·exact H
 ·rw [if_neg E] at D H ⊢;obtain rfl:j=0:=by simp at D;omega
  simp [d_W]
theorem e_1 (l:Ly) (d:List Int):(c_t l d).length<=2:=by
 unfold c_t
 split
 ·simp
 split <;> simp
theorem c_g (p p2 ps:Option Addr) (n c H c2 ns cs:Nat) (d:List Int) (ls:List Ly) (S:List (List Int)) (ok:NetOk d ls S) (aw:H<=1073741824) (w:World) (hL:LyR 0 w p2 H ls) (hS:RdS w ps ns S):
  Calls Tryz.prog 37 #[.agg #[.slice p n c,.slice p2 H c2],.slice ps ns cs] w fun e w'=>e = .returned (.int .i64 (b_5 ls S ls.length))/\Below w.heap.size w w':=by
 haveI:Nonempty World:=⟨w⟩
 obtain ⟨r,er⟩:∃ r,b_5 ls S ls.length=r:=⟨_,rfl⟩
 have HR:Hid (b_5 ls S ls.length=r):=er;have L:Hid (NetOk d ls S/\LyR 0 w p2 H ls/\RdS w ps ns S):=⟨ok,hL,hS⟩
 have an:ns=H+1:=by rw [<- hS.1,ok.len,hL.1]
 subst an;rw [er];clear er ok hL hS;go_enter Tryz.func37,Tryz.ntmps37;go_wp2_with fail
 generalize ab:World.alloc _ _=W0;have ao:Hid (Below w.heap.size w W0):=by rw [<- ab];exact a_b w _
 clear ab
 go_loopg [5,13] H (fun gg u v wr=>∃ (k:Nat) (x:Int),k<=H/\gg=H - k/\u = .int .i64 x/\v = .int .i64 (k:Int)/\Hid (x=b_5 ls S k)/\Hid (Below w.heap.size w wr))
 case atStart=>exact ⟨0,0,by omega,by omega,rfl,rfl,rfl,ao⟩
 case round=>
  obtain ⟨k,x,hk,hg,rfl,rfl,Hx,HB⟩:=hrel;by_cases ac:k < H
  ·have az:(k:Int) < (H:Int):=by omega
   have aC:(k:Int) < ((H+1:Nat):Int):=by omega
   have aa:k < ls.length:=by rw [L.out.2.1.1];exact ac
   obtain ⟨q,o,rfl,c0,c1,c2⟩:=(L.out.2.1.up HB.out).2 k ac;obtain ⟨q3,o3,a3,b3,d3,rfl,s3,m3⟩:=(L.out.2.2.up HB.out).2 k (by omega);have hl:=L.out.1.lay k aa;have hi:=L.out.1.inn k aa;have I:=L.out.1.fit k aa;have ai:=g_3 (ls:=ls) (S:=S) (i:=k) (fun j hj=>L.out.1.inn j (by omega)) (fun j hj=>L.out.1.lay j (by omega));rw [<- Hx.out] at ai;have aB:0<=x/\x<=1127000000000000:=by omega
   obtain ⟨l,el⟩:∃ l,lyA ls k=l:=⟨_,rfl⟩
   obtain ⟨dd,ed⟩:∃ dd,shA S k=dd:=⟨_,rfl⟩
   have HN:Hid (x+psz l dd=b_5 ls S (k+1)):=by show _=_;rw [Hx.out,<- el,<- ed];rfl
   rw [el] at c0 c1 c2 hl I;rw [ed] at hi m3 I;obtain ⟨s,a,b⟩:=l;simp only [] at c0 c1 c2 I;have ax:=a_g c0;obtain ⟨PP,eP⟩:∃ PP,c_t (s,a,b) dd=PP:=⟨_,rfl⟩
   have U:Hid (d_W PP PP.length=psz (s,a,b) dd/\(∀ j,j<=PP.length->0<=d_W PP j/\d_W PP j<=1049600)/\(∀ j,j < PP.length->k_P (shA PP j))/\PP.length<=2):=by
    rw [<- eP];exact ⟨e_0,j_9 hl hi,f_O hl hi,e_1 _ _⟩
   have cp:Hid (∀ W,Below wr.heap.size wr W->Calls Tryz.prog 58 #[.agg #[.string s,.int .i64 a,.int .i64 b],.slice a3 b3 d3] W fun e w'=>∃ v',e = .returned v'/\ParR PP v' w'/\Below W.heap.size W w'):=fun W hW=>by
    rw [<- eP];exact d_k s a b dd hl hi I a3 b3 d3 W (m3.up hW)
   clear hl hi I ai m3 el ed eP;go_wp2;generalize O:World.alloc _ _=W1;have V:Hid (Below wr.heap.size wr W1):=by rw [<- O];exact a_b wr _
   obtain ⟨e0,e1,e2⟩:W1.cell? ⟨wr.heap.size,0,none⟩=some (.string s)/\W1.cell? ⟨wr.heap.size,1,none⟩=some (.int .i64 a)/\W1.cell? ⟨wr.heap.size,2,none⟩=some (.int .i64 b):=by rw [<- O];simp [go_sem]
   replace s3:=a_h V.out s3;have ar:=a_g e0;have au:=a_g s3;clear O c0 c1 c2;refine rel [⟨5,23,ParR PP⟩] 8 36 (by kernel_rfl) rfl rfl (by kernel_rfl) (by rfl) ?_ ?_
   ·intro e he v W W' h hb;simp only [List.mem_cons,List.not_mem_nil,or_false] at he;subst he;exact ParR.up h hb
   apply Exists.intro;refine ⟨fun x=>?_,?_,?_⟩
   ·simp only [List.take_succ_cons,List.take_zero]
    iterate 5
     refine a_l rfl rfl ?_;apply Exists.intro;refine ⟨fun F hF hf K hK=>?_,?_⟩
     ·have hFc:=hF.cell;have hFf:=hF.frozen
      go_big_quiet_op
      first|exact hK|(apply Exists.intro;refine ⟨fun _=>?_,?_⟩;(· fail);exact hK)
     (try simp only [Act.put,sA_,sB_,sC_])
    refine a_o rfl rfl ?_ ?_
    ·intro F hF hf d;have hFc:=hF.cell;have hFf:=hF.frozen;simp [a_j,a_f,go_sem,hFc,ar,au,e0,e1,e2,s3];refine (cp.out (F d) (a_c V.out (hF.below _))).mono ?_;rintro e' w8 ⟨v8,rfl,h8,am⟩;exact ⟨_,rfl,h8,am⟩
    (try simp only [Act.put,sA_,sB_,sC_])
    refine a_l rfl rfl ?_;apply Exists.intro;refine ⟨fun F hF hf K hK=>?_,?_⟩
    ·have hFc:=hF.cell;have hFf:=hF.frozen;obtain ⟨p9,c9,e9,-⟩:=hf _ List.mem_cons_self (by rfl) w;simp only [] at e9;rw [e9] at hK ⊢
     go_big_quiet_op
     first|exact hK|(apply Exists.intro;refine ⟨fun _=>?_,?_⟩;(· fail);exact hK)
    (try simp only [Act.put,sA_,sB_,sC_])
    refine a_l rfl rfl ?_;apply Exists.intro;refine ⟨fun F hF hf K hK=>?_,?_⟩
    ·have hFc:=hF.cell;have hFf:=hF.frozen
     go_big_quiet_op
     first|exact hK|(apply Exists.intro;refine ⟨fun _=>?_,?_⟩;(· fail);exact hK)
    (try simp only [Act.put,sA_,sB_,sC_])
    refine b_a ?_;exact rfl
   ·exact fun x=>rfl
   ·intro w9 xs ae hf;simp only [List.drop_succ_cons,List.drop_zero];obtain ⟨p7,c7,e7,h7⟩:=hf _ List.mem_cons_self;simp only [] at e7 h7;have H7:Hid (RdS w9 p7 PP.length PP/\Below w.heap.size w w9):=⟨h7.1,a_c HB.out (a_c V.out ae)⟩
    obtain ⟨v8,e8⟩:∃ v8,xs 5=v8:=⟨_,rfl⟩
    rw [e8] at e7 ⊢;subst e7;have ah:Hid (PP.length<=2):=U.out.2.2.2;obtain ⟨J,aj⟩:∃ J,PP.length=J:=⟨_,rfl⟩
    rw [aj] at H7 U ah ⊢;clear hf ae h7 e0 e1 e2 s3 cp e8 aj;have av:(J:Int)<=2:=by have:=ah.out;omega
    go_wp2_with fail
    go_loopg [5,25] J (fun gg u v wq=>∃ (j:Nat) (y:Int),j<=J/\gg=J - j/\u = .int .i64 y/\v = .int .i64 (j:Int)/\Hid (y=x+d_W PP j)/\wq=w9)
    case atStart=>exact ⟨0,x,by omega,by omega,rfl,rfl,by show x=x+0;omega,rfl⟩
    case round=>
     obtain ⟨j,y,hj,aA,rfl,rfl,Hy,rfl⟩:=hrel;by_cases R:j < J
     ·have ay:(j:Int) < (J:Int):=by omega
      obtain ⟨q5,o5,a5,b5,d5,rfl,s5,m5⟩:=H7.out.1.2 j R;obtain ⟨z,ez⟩:∃ z,a_t (shA PP j)=z:=⟨_,rfl⟩
      have cz:=d_j _ _ (U.out.2.2.1 j R) _ m5;rw [ez] at cz;have aq:=U.out.2.1 j (by omega);have af:=U.out.2.1 (j+1) R;rw [show d_W PP (j+1)=d_W PP j+z by rw [<- ez];rfl] at af;have ad:y+z=x+(d_W PP j+z):=by rw [Hy.out];omega
      have ap:0<=y+z/\y+z<=1128000000000000:=by omega
      have HY:Hid (y+z=x+d_W PP (j+1)):=by show _=_;rw [ad,<- ez];rfl
      obtain ⟨yz,ag⟩:∃ yz,y+z=yz:=⟨_,rfl⟩
      rw [ag] at ap HY;clear m5 ez aq af ad;go_wp2_with fail
      refine cz.mono ?_;rintro e w1 ⟨rfl,rfl⟩;clear cz;go_wp2;go_roundg (J - (j+1))
      case measure=>omega
      case rel=>exact ⟨j+1,yz,by omega,rfl,by first|rfl|simp [ag],by first|rfl|simp,HY,rfl⟩
     ·obtain rfl:j=J:=by omega
      have HY:Hid (y=b_5 ls S (k+1)):=by show _=_;rw [<- HN.out,<- U.out.1,Hy.out]
      have ak:Hid (Below w.heap.size w _):=H7.out.2;clear Hy HN U H7;go_wp2;go_roundg (H - (k+1))
      case measure=>omega
      case rel=>exact ⟨k+1,y,by omega,rfl,rfl,by first|rfl|simp,HY,ak⟩
  ·obtain rfl:k=H:=by omega
   have ex:x=r:=by rw [Hx.out,<- HR.out,L.out.2.1.1]
   subst ex;go_wp2;go_ret;exact ⟨rfl,HB.out⟩
theorem h_8 {ls:List Ly} {S:List (List Int)}:∀ {i n:Nat},l_a ls S i=true->i<=n->l_a ls S n=true
 | i,0,h,hi=>by
  obtain rfl:i=0:=by omega
  exact h
 | i,n+1,h,hi=>by
  rcases Nat.lt_or_ge i (n+1) with D|D
  ·simp only [l_a,Bool.or_eq_true];exact .inl (h_8 h (show i<=n by omega))
  ·obtain rfl:i=n+1:=by omega
   exact h
theorem i_V (p p2 ps:Option Addr) (n c E R ns cs:Nat) (d:List Int) (ls:List Ly) (S:List (List Int)) (ok:NetOk d ls S) (am:∀ k,k < ns->InOk (shA S k)) (V:E<=1073741824) (w:World) (hL:LyR 0 w p2 E ls) (hS:RdS w ps ns S):
  Calls Tryz.prog 57 #[.agg #[.slice p n c,.slice p2 E R],.slice ps ns cs] w fun e M=>e = .returned (.bool (e_N ls S))/\Below w.heap.size w M:=by
 haveI:Nonempty World:=⟨w⟩
 obtain ⟨r,er⟩:∃ r,e_N ls S=r:=⟨_,rfl⟩
 have HR:Hid (e_N ls S=r):=er;have O:Hid (NetOk d ls S/\LyR 0 w p2 E ls/\RdS w ps ns S):=⟨ok,hL,hS⟩
 have ar:ns=E+1:=by rw [<- hS.1,ok.len,hL.1]
 subst ar;rw [er];have cF:Hid (∀ W,Below w.heap.size w W->Calls Tryz.prog 78 #[.slice ps (E+1) cs,.func (.func 79) #[] #[]] W fun e M=>e = .returned (.bool (i_i S))/\M=W):=fun W hW=>e_m ps (E+1) cs S (fun i hi=>(am i hi).smal) (Nat.le_trans (Nat.add_le_add_right V 1) (by decide)) W (hS.up hW);have cc:Hid (∀ W,Below w.heap.size w W->Calls Tryz.prog 37 #[.agg #[.slice p n c,.slice p2 E R],.slice ps (E+1) cs] W fun e M=>e = .returned (.int .i64 (b_5 ls S ls.length))/\Below W.heap.size W M):=fun W hW=>c_g p p2 ps n c E R (E+1) cs d ls S ok V W (hL.up hW) (hS.up hW);clear er ok hL hS am;go_enter Tryz.func57,Tryz.ntmps57;by_cases ao:16 < E
 ·have ap:(16:Int) < (E:Int):=by omega
  have e:r=true:=by rw [<- HR.out];unfold e_N;rw [O.out.2.1.1,decide_eq_true ao];simp
  subst e;clear cF cc;go_wp2;go_ret;exact ⟨rfl,a_b w _⟩
 have ap:(E:Int)<=16:=by omega
 go_wp2_with fail
 generalize ac:World.alloc _ _=W0;have H:Hid (Below w.heap.size w W0):=by rw [<- ac];exact a_b w _
 obtain ⟨g0,g1⟩:W0.cell? ⟨w.heap.size,0,none⟩=some (.slice p n c)/\W0.cell? ⟨w.heap.size,1,none⟩=some (.slice p2 E R):=by rw [<- ac];simp [go_sem]
 clear ac;refine (cF.out W0 H.out).mono ?_;rintro e w1 ⟨rfl,rfl⟩;obtain ⟨qb,ae⟩:∃ q,i_i S=q:=⟨_,rfl⟩
 have HQ:Hid (i_i S=qb):=ae;rw [ae];clear ae;cases qb with
 | true=>
  have e:r=true:=by rw [<- HR.out];unfold e_N;rw [HQ.out];simp
  subst e;clear cF cc;go_wp2;go_ret;exact ⟨rfl,H.out⟩
 | false=>
 have HG:Hid (w1.cell? ⟨w.heap.size,0,none⟩=some (.slice p n c)/\w1.cell? ⟨w.heap.size,1,none⟩=some (.slice p2 E R)):=⟨g0,g1⟩
 go_wp2_with fail
 go_loopg [18] E (fun gg v wr=>∃ (k:Nat),k<=E/\gg=E - k/\v = .int .i64 (k:Int)/\Hid (l_a ls S k=false)/\Hid (Below w1.heap.size w1 wr))
 case atStart=>exact ⟨0,by omega,by omega,rfl,rfl,Below.refl _ _⟩
 case round=>
  obtain ⟨k,hk,hg,rfl,Hx,HB⟩:=hrel;by_cases ad:k < E
  ·have az:(k:Int) < (E:Int):=by omega
   have aA:(k:Int) < ((E+1:Nat):Int):=by omega
   have ah:k < ls.length:=by rw [O.out.2.1.1];exact ad
   have af:=a_c H.out HB.out;obtain ⟨q,o,rfl,c0,c1,R⟩:=(O.out.2.1.up af).2 k ad;obtain ⟨q3,o3,a3,b3,d3,rfl,s3,m3⟩:=(O.out.2.2.up af).2 k (by omega);have hl:=O.out.1.lay k ah;have hi:=O.out.1.inn k ah;have L:=O.out.1.fit k ah;obtain ⟨l,el⟩:∃ l,lyA ls k=l:=⟨_,rfl⟩
   obtain ⟨dd,ed⟩:∃ dd,shA S k=dd:=⟨_,rfl⟩
   have HN:Hid (l_a ls S (k+1)=r_4 l dd):=by show _=_;rw [<- el,<- ed];show (l_a ls S k || _)=_;rw [Hx.out];rfl
   rw [el] at c0 c1 R hl L;rw [ed] at hi m3 L;obtain ⟨s,a,b⟩:=l;simp only [] at c0 c1 R L;have ay:=a_g c0;obtain ⟨PP,eP⟩:∃ PP,c_t (s,a,b) dd=PP:=⟨_,rfl⟩
   obtain ⟨qq,aa⟩:∃ qq,i_i PP=qq:=⟨_,rfl⟩
   have HP:Hid (r_4 (s,a,b) dd=qq):=by show _=_;rw [<- aa,<- eP];rfl
   have cp:Hid (∀ W,Below wr.heap.size wr W->Calls Tryz.prog 58 #[.agg #[.string s,.int .i64 a,.int .i64 b],.slice a3 b3 d3] W fun e M=>∃ v',e = .returned v'/\ParR PP v' M/\Below W.heap.size W M):=fun W hW=>by
    rw [<- eP];exact d_k s a b dd hl hi L a3 b3 d3 W (m3.up hW)
   have cG:Hid (∀ W v,ParR PP v W->Calls Tryz.prog 78 #[v,.func (.func 79) #[] #[]] W fun e M=>e = .returned (.bool qq)/\M=W):=fun W v hv=>by
    obtain ⟨pv,cv,rfl,hv⟩:=hv;rw [<- aa,<- eP] at *;exact e_m pv _ cv _ (f_O hl hi) (by have:=e_1 (s,a,b) dd;omega) W hv.1
   clear hl hi L m3 el ed eP aa af;go_wp2;generalize ab:World.alloc _ _=W1;have ag:Hid (Below wr.heap.size wr W1):=by rw [<- ab];exact a_b wr _
   obtain ⟨e0,e1,e2⟩:W1.cell? ⟨wr.heap.size,0,none⟩=some (.string s)/\W1.cell? ⟨wr.heap.size,1,none⟩=some (.int .i64 a)/\W1.cell? ⟨wr.heap.size,2,none⟩=some (.int .i64 b):=by rw [<- ab];simp [go_sem]
   replace s3:=a_h ag.out s3;have au:=a_g e0;have av:=a_g s3;clear ab c0 c1 R;refine rel [⟨5,28,ParR PP⟩] 7 35 (by kernel_rfl) rfl rfl (by kernel_rfl) (by rfl) ?_ ?_
   ·intro e he v W W' h hb;simp only [List.mem_cons,List.not_mem_nil,or_false] at he;subst he;exact ParR.up h hb
   apply Exists.intro;refine ⟨fun x=>?_,?_,?_⟩
   ·simp only [List.take_succ_cons,List.take_zero]
    iterate 5
     refine a_l rfl rfl ?_;apply Exists.intro;refine ⟨fun F hF hf K hK=>?_,?_⟩
     ·have hFc:=hF.cell;have hFf:=hF.frozen
      go_big_quiet_op
      first|exact hK|(apply Exists.intro;refine ⟨fun _=>?_,?_⟩;(· fail);exact hK)
     (try simp only [Act.put,sA_,sB_,sC_])
    refine a_o rfl rfl ?_ ?_
    ·intro F hF hf d;have hFc:=hF.cell;have hFf:=hF.frozen;simp [a_j,a_f,go_sem,hFc,au,av,e0,e1,e2,s3];refine (cp.out (F d) (a_c ag.out (hF.below _))).mono ?_;rintro e' w8 ⟨v8,rfl,h8,aq⟩;exact ⟨_,rfl,h8,aq⟩
    (try simp only [Act.put,sA_,sB_,sC_])
    refine a_l rfl rfl ?_;apply Exists.intro;refine ⟨fun F hF hf K hK=>?_,?_⟩
    ·have hFc:=hF.cell;have hFf:=hF.frozen
     go_big_quiet_op
     first|exact hK|(apply Exists.intro;refine ⟨fun _=>?_,?_⟩;(· exact hF.same (cG.out _ _ (hf _ List.mem_cons_self (by rfl) _)));exact hK)
    (try simp only [Act.put,sA_,sB_,sC_])
    refine b_a ?_;exact rfl
   ·exact fun x=>rfl
   ·intro w9 xs an hf;simp only [List.drop_succ_cons,List.drop_zero];have aj:Hid (Below w1.heap.size w1 w9):=a_c HB.out (a_c ag.out an);clear hf an e0 e1 e2 s3 cp cG;cases qq with
    | true=>
     have e:r=true:=by rw [<- HR.out];unfold e_N;rw [h_8 (HN.out.trans HP.out) (show k+1<=ls.length by rw [O.out.2.1.1];exact ad)];simp
     subst e;clear cF cc;go_wp2;go_ret;exact ⟨rfl,a_c H.out aj.out⟩
    | false=>
     have ax:Hid (l_a ls S (k+1)=false):=HN.out.trans HP.out;clear HN HP;go_wp2;go_roundg (E - (k+1))
     case measure=>omega
     case rel=>exact ⟨k+1,by omega,rfl,by first|rfl|simp,ax,aj⟩
  ·obtain rfl:k=E:=by omega
   have g0:=a_h HB.out HG.out.1;have g1:=a_h HB.out HG.out.2;go_wp2_with fail
   refine (cc.out wr (a_c H.out HB.out)).mono ?_;rintro e w2 ⟨rfl,ak⟩;obtain ⟨cn,ai⟩:∃ cn,b_5 ls S ls.length=cn:=⟨_,rfl⟩
   have HC:Hid (decide (4096 < cn)=r):=by
    show _=_;rw [<- HR.out,<- ai];unfold e_N;rw [HQ.out,O.out.2.1.1,Hx.out,decide_eq_false ao];rfl
   have aw:Hid (Below w.heap.size w w2):=a_c (a_c H.out HB.out) ak;rw [ai];clear ai cF cc ak;go_wp2;go_ret;rw [<- HC.out];exact ⟨rfl,aw.out⟩
/-- A slice's type by its elements' cells and bytes. -/
structure GT (P:Program) (t e:TypeId) (s b:Nat):Prop where
 ht:P.underlying t=some (.slice e)
 hi:(P.info? e).map (fun i=>(i.zero.map fun z=>z.cells.size,i.size,i.bytes))=some (some s,s,b)
/-- append of one element that a literal holds, behind a row of the call's own. -/
theorem b_z {P:Program} {t e:TypeId} {s b:Nat} (T:GT P t e s b) (hb:b<=256) (aa:0 < s) {ops:Array Oper} {rest:List Oper} {o:Oper} {a:Act} {Q:Exit->Act->World->Prop} {w:World} (R:o.guard=none) (sx x:Operand)
  (ho:o.op = .call { callee:=.builtin .append,args:=#[sx,x],argTypes:=#[t,t] }) (B:Nat) (v:Value) (n:Nat) (V:List Value) (hs:a.eval sx=v) (D:w.ownsRow B e s v n V) (g:Nat) (u:List Value) (hx:a.eval x = .slice (some ⟨g,0,none⟩) 1 1)
  (hg:w.heap[g]?=some (.cells u.toArray e (0,0))) (hu:u.length=s) (h1:∀ y∈u,y.oneCell'=true) (hn:n+1<=1073741825) (hB:B<=w.heap.size)
  (h:∀ M H,Hid (H.ownsRow B e s M (n+1) (V++u))->Hid (Only [e] w H)->Hid (∀ w0,Below B w0 w->Below B w0 H)->wpList P ops Q rest (a.put o.dst M) H):wpList P ops Q (o :: rest) a w:=by
 have J:=T.hi;cases O:P.info? e with
 | none=>rw [O] at J;cases J
 | some i=>
  rw [O] at J;simp only [Option.map_some,Option.some.injEq,Prod.mk.injEq] at J;obtain ⟨I,ab,ac⟩:=J;cases E:i.zero with
  | none=>rw [E] at I;cases I
  | some z=>
   rw [E] at I;simp only [Option.map_some,Option.some.injEq] at I;have hm:(n+1)*b<=1073741825*256:=Nat.mul_le_mul hn hb
   refine wpList_append_own w R sx x t ho B e i z s b T.ht O E ab ac I aa v n V hs D ⟨g,0,none⟩ 1 1 u hx (by omega) (fun j y hj=>by
    rw [a_u,Nat.zero_add];unfold World.cell?;simpa [hg] using hj) h1 (by unfold maxLen;omega) (by omega) hB ?_
   intro M H h2 h3 _;have U:∀ k,v.ownBlock=some k->B<=k:=fun k L=>(World.ownsRow.lt D k L).1;refine h M H h2 (Only.grown h3 fun k L=>?_) fun w0 ad=>Below.grown ad h3 hB U;rcases D.2 with ⟨rfl,_⟩|⟨g',cap,ae,rfl,_,hc,_⟩
   ·cases L
   ·cases L;exact ⟨_,_,_,hc,by simp⟩
theorem OwnS.push {W W':World} {B:Nat} {H:Value} {S:List (List Int)} {a:Option Addr} {b c:Nat} {o:List Int} {vs:List Value} (h:W'.ownsRow B 30 1 H (S.length+1) (vs++[.slice a b c])) (O:vs.length=S.length) (I:∀ i,i < S.length->∃ a b c,vs[i]?=some (.slice a b c)/\OwnK .i64 3 W B (.slice a b c) (shA S i)) (L:OwnK .i64 3 W B (.slice a b c) o) (E:Only [30] W W'):OwnS W' B H (S++[o]):=by
 refine ⟨vs++[.slice a b c],by rw [List.length_append];exact h,fun i M=>?_⟩;simp only [List.length_append,List.length_cons,List.length_nil] at M;rcases Nat.lt_or_ge i S.length with D|D
 ·obtain ⟨a,b,c,e,J⟩:=I i D;rw [d_U _ D];exact ⟨a,b,c,by rw [List.getElem?_append_left (by omega)];exact e,J.only E (by decide)⟩
 ·obtain rfl:i=S.length:=by omega
  rw [g_2 S o _ rfl];exact ⟨a,b,c,by rw [List.getElem?_append_right (by omega),O];simp,L.only E (by decide)⟩
theorem shT:GT Tryz.prog 70 30 1 24:=⟨Tryz.underlying70,by kernel_rfl⟩
def OutV (x:Option (List Int)) (B:Nat) (v:Value) (W:World):Prop:=match x with
 | none=>v = .slice none 0 0
 | some o=>∃ p n c,v = .slice p n c/\OwnK .i64 3 W B (.slice p n c) o
theorem OutV.up {x:Option (List Int)} {B:Nat} {v:Value} {W W':World} (h:OutV x B v W) (D:Below W.heap.size W W'):OutV x B v W':=by
 cases x with
 | none=>exact h
 | some o=>
  obtain ⟨p,n,c,e,h⟩:=h;exact ⟨p,n,c,e,h.up D⟩
theorem OutR.tup {x:Option (List Int)} {B:Nat} {v:Value} {W:World} (h:OutR x B v W):∃ u,v = .tuple #[u,.bool x.isSome]/\OutV x B u W:=by
 cases x with
 | none=>exact ⟨_,h,rfl⟩
 | some o=>
  obtain ⟨p,n,c,e,h⟩:=h;exact ⟨_,e,p,n,c,rfl,h⟩
theorem OutR.low {x:Option (List Int)} {B D:Nat} {v:Value} {W:World} (h:OutR x B v W) (E:D<=B):OutR x D v W:=by
 cases x with
 | none=>exact h
 | some o=>
  obtain ⟨p,n,c,e,h⟩:=h;exact ⟨p,n,c,e,h.low E⟩
def t_L (x:Option (List (List Int))) (B:Nat) (v:Value) (W:World):Prop:=match x with
 | none=>v = .tuple #[.slice none 0 0,.bool false]
 | some S=>∃ u,v = .tuple #[u,.bool true]/\OwnS W B u S
theorem h_9 (p p2:Option Addr) (n c I c2:Nat) (d:List Int) (ls:List Ly) (hf:b_L d ls=true) (aV:I<=1073741823) (w:World) (h1:Nums .i64 w (.slice p n c) d) (hL:LyR 0 w p2 I ls):
  Calls Tryz.prog 56 #[.agg #[.slice p n c,.slice p2 I c2]] w fun e w'=>∃ v',e = .returned v'/\t_L (shN d ls ls.length) w.heap.size v' w'/\Below w.heap.size w w':=by
 haveI:Nonempty World:=⟨w⟩
 obtain ⟨r,er⟩:∃ r,shN d ls ls.length=r:=⟨_,rfl⟩
 obtain ⟨hd,aN⟩:=(c_f d ls).1 hf;have HK:Hid (shN d ls ls.length=r/\LyR 0 w p2 I ls/\InOk d/\∀ l∈ls,a_S l):=⟨er,hL,hd,aN⟩
 have cI:Hid (∀ W,Below w.heap.size w W->Calls Tryz.prog 75 #[.slice p n c] W fun e w'=>∃ v',e = .returned v'/\OwnK .i64 3 w' W.heap.size v' d/\Below W.heap.size W w'):=fun W hW=>b_i _ d (by have:=hd.smal.1;omega) W (h1.up hW);rw [er];clear er hd aN hf h1 hL;go_enter Tryz.func56,Tryz.ntmps56;go_wp2_with fail
 generalize aA:World.alloc _ _=W0;have ar:Hid (Below w.heap.size w W0):=by rw [<- aA];exact a_b w _
 have aK:Hid (W0.heap[w.heap.size]?=some (.cells #[.slice p n c,.slice p2 I c2] 33 (0,0))/\w.heap.size < W0.heap.size):=by
  show _/\_;rw [<- aA];exact ⟨Array.getElem?_push_size,by simp⟩
 clear aA;refine (cI.out W0 ar.out).mono ?_;rintro e w1 ⟨v1,rfl,aD,aG⟩;obtain ⟨pa,na,ca,rfl,_⟩:=aD.nums.lst;have aH:Hid (w1.heap[w.heap.size]?=some (.cells #[.slice p n c,.slice p2 I c2] 33 (0,0))):=(aG.block _ aK.out.2).trans aK.out.1;have aq:Hid (OwnK .i64 3 w1 w.heap.size (.slice pa na ca) d/\Below w.heap.size w w1):=⟨aD.low ar.out.size,a_c ar.out aG⟩
 clear aD aG cI ar aK;have g1:w1.cell? ⟨w.heap.size,1,none⟩=some (.slice p2 I c2):=by unfold World.cell?;rw [aH.out];rfl
 have am:=a_g g1;go_wp2_with fail
 generalize aw:World.alloc _ _=W2
 have aT:Hid (W2.heap[w.heap.size]?=some (.cells #[.slice p n c,.slice p2 I c2] 33 (0,0))):=by
  show _=_;rw [<- aw];exact ((a_b w1 _).block _ am).trans aH.out
 have aU:Hid (OwnS W2 w.heap.size (.slice (some ⟨w1.heap.size,0,none⟩) 1 1) [d]/\Below w.heap.size w W2):=by
  show _/\_;have hb:Below w1.heap.size w1 W2:=by rw [<- aw];exact a_b w1 _
  refine ⟨⟨[.slice pa na ca],⟨rfl,.inr ⟨w1.heap.size,1,#[.slice pa na ca],rfl,aq.out.2.size,?_,Nat.le_refl _,by unfold maxLen;omega,rfl,rfl⟩⟩,fun i hi=>?_⟩,a_c aq.out.2 hb⟩
  ·rw [<- aw];exact Array.getElem?_push_size
  ·obtain rfl:i=0:=by simp at hi;omega
   exact ⟨_,_,_,rfl,aq.out.1.up hb⟩
 clear aw g1 aq aH am
 go_loopg [4,16] I (fun gg u v wr=>∃ (k:Nat) (S:List (List Int)),k<=I/\gg=I - k/\v = .int .i64 (k:Int)/\Hid (OwnS wr w.heap.size u S/\Below w.heap.size w wr)/\Hid (shN d ls k=some S)/\Hid (wr.heap[w.heap.size]?=some (.cells #[.slice p n c,.slice p2 I c2] 33 (0,0))))
 case atStart=>exact ⟨0,[d],by omega,by omega,rfl,aU,rfl,aT⟩
 case round=>
  obtain ⟨k,S,hk,hg,rfl,HO,HS,HX⟩:=hrel;obtain ⟨ps,cs,rfl,ax⟩:=HO.out.1.rd;have aO:=c_U HS.out;obtain ⟨sl,aM⟩:∃ sl,S.length=sl:=⟨_,rfl⟩
  rw [aM] at ax aO HO ⊢;have ai:Hid (RdS wr ps sl S):=ax;have au:Hid (S.length=sl):=aM;subst aO;clear aM ax;by_cases aC:k < I
  ·have aX:(k:Int) < (I:Int):=by omega
   have aY:(k:Int) < ((k+1:Nat):Int):=by omega
   have av:k < ls.length:=by rw [HK.out.2.1.1];exact aC
   obtain ⟨q,o,rfl,y0,y1,y2⟩:=(HK.out.2.1.up HO.out.2).2 k aC;have hl:=HK.out.2.2.2 _ (d_T av);have aL:=e_l HK.out.2.2.1 HK.out.2.2.2 (show k<=ls.length by omega) HS.out;obtain ⟨l,el⟩:∃ l,lyA ls k=l:=⟨_,rfl⟩
   have aS:Hid (lyA ls k=l):=el;rw [el] at y0 y1 y2 hl;obtain ⟨s,a,b⟩:=l;simp only [] at y0 y1 y2;have aW:=a_g y0;have g1:wr.cell? ⟨w.heap.size,1,none⟩=some (.slice (some ⟨q,o,none⟩) I c2):=by unfold World.cell?;rw [HX.out];rfl
   have am:=a_g g1;have HN:Hid (∀ x,shN d ls (k+1)=x->f_2 ls k S=x):=fun x hx=>(a_G HS.out).symm.trans hx;have aa:Hid (f_2 ls k S=if s=e_j/\¬ c_Z ls S k then none else (d_C (s,a,b) (shA S k)).map fun o=>S++[o]):=by show _=_;unfold f_2;rw [aS.out]
   have cO:Hid (∀ W a3 b3 d3,Nums .i64 W (.slice a3 b3 d3) (shA S k)->Calls Tryz.prog 77 #[.agg #[.string s,.int .i64 a,.int .i64 b],.slice a3 b3 d3] W fun e w'=>∃ v',e = .returned v'/\OutR (d_C (s,a,b) (shA S k)) W.heap.size v' w'/\Below W.heap.size W w'):=fun W a3 b3 d3 hv=>m_W s a b _ hl (aL k (by omega)) a3 b3 d3 W hv;have cK:Hid (∀ W,Below wr.heap.size wr W->Calls Tryz.prog 76 #[.slice (some ⟨q,o,none⟩) I c2,.slice ps (k+1) cs,.int .i64 (k:Int)] W fun e w'=>e = .returned (.bool (decide (c_Z ls S k)))/\∃ m,w'=W.drewN m):=fun W hW=>i_T _ ps I c2 (k+1) cs ls S k (by omega) aC (by omega) (fun j hj=>(aL j hj).smal.1) W ((HK.out.2.1.up HO.out.2).up hW) (ai.out.up hW);obtain ⟨xo,aP⟩:∃ xo,d_C (s,a,b) (shA S k)=xo:=⟨_,rfl⟩
   rw [aP] at cO aa;obtain ⟨-,-,-,-,t4⟩:=kts s;clear hl aL el aP;by_cases ae:a_s s=4
   ·replace t4:=t4.trans (decide_eq_true ae);go_wp2_with fail
    generalize ag:World.alloc _ _=W3;have aJ:Hid (Below wr.heap.size wr W3):=by rw [<- ag];exact a_b wr _
    obtain ⟨e0,e1,e2⟩:W3.cell? ⟨wr.heap.size,0,none⟩=some (.string s)/\W3.cell? ⟨wr.heap.size,1,none⟩=some (.int .i64 a)/\W3.cell? ⟨wr.heap.size,2,none⟩=some (.int .i64 b):=by rw [<- ag];simp [go_sem]
    clear ag;refine (cK.out W3 aJ.out).mono ?_;rintro e w4 ⟨rfl,m,aj⟩;have V:Hid (Below wr.heap.size wr w4):=by rw [aj];exact a_m aJ.out _
    replace e0:w4.cell? ⟨wr.heap.size,0,none⟩=some (.string s):=by rw [aj];exact e0
    replace e1:w4.cell? ⟨wr.heap.size,1,none⟩=some (.int .i64 a):=by rw [aj];exact e1
    replace e2:w4.cell? ⟨wr.heap.size,2,none⟩=some (.int .i64 b):=by rw [aj];exact e2
    clear aj aJ;by_cases ah:c_Z ls S k
    ·rw [decide_eq_true ah];have aR:Hid (c_Z ls S k):=ah;clear ah ae;obtain ⟨q3,o3,a3,b3,d3,rfl,s3,ao⟩:=ai.out.2 k (by omega);have m3:Hid (Nums .i64 wr (.slice a3 b3 d3) (shA S k)):=ao;replace s3:=a_h V.out s3;have ay:=a_g e0;have aB:=a_g s3;clear ao y0 y1 y2 g1;go_wp2;refine l_A [⟨5,38,OutR xo w.heap.size⟩,⟨6,32,OutR xo w.heap.size⟩,⟨7,39,OutV xo w.heap.size⟩] 9 49 (by kernel_rfl) rfl rfl 8 _ rfl (by decide) rfl (by kernel_rfl) (by kernel_rfl) (fun _ _ _ _ h=>h) (by rfl) ?_ ?_
     ·intro e he v W W' h hb;simp only [List.mem_cons,List.not_mem_nil,or_false] at he;rcases he with rfl|rfl|rfl
      ·exact OutR.up h hb
      ·exact OutR.up h hb
      ·exact OutV.up h hb
     apply Exists.intro;refine ⟨?yl1,?wk1,?pk1,?rest1⟩
     case wk1=>
      intro x;simp only [List.take_succ_cons,List.take_zero]
      iterate 5
       refine a_l rfl rfl ?_;apply Exists.intro;refine ⟨fun F hF hf K hK=>?_,?_⟩
       ·have hFc:=hF.cell;have hFf:=hF.frozen
        go_big_quiet_op
        first|exact hK|(apply Exists.intro;refine ⟨fun _=>?_,?_⟩;(· fail);exact hK)
       (try simp only [Act.put,sA_,sB_,sC_])
      refine a_o rfl rfl ?_ ?_
      ·intro F hF hf d;have hFc:=hF.cell;have hFf:=hF.frozen;simp [a_j,a_f,go_sem,hFc,ay,aB,e0,e1,e2,s3];have R:=a_c V.out (hF.below d);refine (cO.out (F d) a3 b3 d3 (m3.out.up R)).mono ?_;rintro e' w8 ⟨v8,rfl,h8,az⟩;exact ⟨_,rfl,h8.low (Nat.le_trans HO.out.2.size R.size),az⟩
      (try simp only [Act.put,sA_,sB_,sC_])
      refine a_o rfl rfl ?_ ?_
      ·intro F hF hf d;have hFc:=hF.cell;have hFf:=hF.frozen;simp [a_j,a_f,go_sem];exact ⟨hf _ List.mem_cons_self (by rfl) d,Below.refl _ _⟩
      (try simp only [Act.put,sA_,sB_,sC_])
      refine a_o rfl rfl ?_ ?_
      ·intro F hF hf d;have hFc:=hF.cell;have hFf:=hF.frozen;obtain ⟨u9,e9,h9⟩:=(hf _ (List.mem_cons_of_mem _ List.mem_cons_self) (by rfl) d).tup;simp only [] at e9;simp [a_j,a_f,go_sem,e9];exact ⟨h9,Below.refl _ _⟩
      (try simp only [Act.put,sA_,sB_,sC_])
      refine a_l rfl rfl ?_;apply Exists.intro;refine ⟨fun F hF hf K hK=>?_,?_⟩
      ·have hFc:=hF.cell;have hFf:=hF.frozen;obtain ⟨u9,e9,-⟩:=(hf _ (List.mem_cons_of_mem _ List.mem_cons_self) (by rfl) w).tup;simp only [] at e9;rw [e9] at hK ⊢
       go_big_quiet_op
       first|exact hK|(apply Exists.intro;refine ⟨fun _=>?_,?_⟩;(· fail);exact hK)
      (try simp only [Act.put,sA_,sB_,sC_])
      refine b_a ?_;exact rfl
     case pk1=>
      intro x;simp only [b_k,List.foldl_cons,List.foldl_nil,Act.put,sA_,sB_,sC_]
     case yl1=>
      intro x hx;obtain ⟨W9,h9⟩:=hx _ (List.mem_cons_of_mem _ List.mem_cons_self) (by rfl);obtain ⟨u9,e9,-⟩:=OutR.tup h9;simp only [] at e9;refine ⟨.bool xo.isSome,fun t ht=>?_,.inl ⟨by rfl,fun w=>?_⟩⟩
      ·cases ht;rfl
      ·simp [execOp,Act.eval,e9,go_sem]
     intro E xs R hf;simp only [List.drop_succ_cons,List.drop_zero];have h7:=hf _ (List.mem_cons_of_mem _ (List.mem_cons_of_mem _ List.mem_cons_self));simp only [] at h7;have H:=a_c V.out R;have U:Hid (OwnS E w.heap.size (.slice (some ⟨q3,o3,none⟩) (k+1) cs) S/\Below w.heap.size w E):=⟨HO.out.1.up H,a_c HO.out.2 H⟩
     have af:Hid (E.heap[w.heap.size]?=some (.cells #[.slice p n c,.slice (some ⟨q,o,none⟩) I c2] 33 (0,0))):=(H.block _ am).trans HX.out;clear hf R H e0 e1 e2 s3 m3 cO cK V;cases xo with
     | none=>
      have er:r=none:=by
       rw [<- HK.out.1];refine b_o (i:=k+1) ?_ av;rw [a_G HS.out,aa.out]
       (try (split <;> rfl))
      subst er;obtain ⟨v7,e7⟩:∃ v7,xs 7=v7:=⟨_,rfl⟩
      rw [e7];clear h7 e7;go_wp2;go_ret2;exact ⟨_,rfl,rfl,U.out.2⟩
     | some oo=>
      obtain ⟨O,L,M,e7,h7⟩:=h7;rw [e7]
      have aI:Hid (shN d ls (k+1)=some (S++[oo])):=by
       show _=_;rw [a_G HS.out,aa.out,if_neg fun h=>h.2 aR.out];rfl
      obtain ⟨vs,ac,ak⟩:=U.out.1;have an:vs.length=S.length:=by have:=ac.1;omega
      have HV:Hid (OwnK .i64 3 E w.heap.size (.slice O L M) oo/\E.ownsRow w.heap.size 30 1 (.slice (some ⟨q3,o3,none⟩) (k+1) cs) (k+1) vs/\vs.length=S.length/\∀ i,i < S.length->∃ a b c,vs[i]?=some (.slice a b c)/\OwnK .i64 3 E w.heap.size (.slice a b c) (shA S i)):=⟨h7,by rw [au.out] at ac;exact ac,an,ak⟩
      have aE:k+1+1<=1073741825:=by omega
      clear h7 e7 ac ak an aa HN;have H5:Hid ((E.alloc (.cells #[.slice O L M] 30)).ownsRow w.heap.size 30 1 (.slice (some ⟨q3,o3,none⟩) (k+1) cs) (k+1) vs):=a_z (S:=[]) HV.out.2.1 (Only.of (a_b E _)) (by simp);have H6:Hid ((E.alloc (.cells #[.slice O L M] 30)).heap[E.heap.size]?=some (.cells [.slice O L M].toArray 30 (0,0))):=Array.getElem?_push_size;have H7:Hid (∀ y∈[Value.slice O L M],y.oneCell'=true):=fun y hy=>by simp at hy;subst hy;rfl
      have H8:Hid (w.heap.size<=(E.alloc (.cells #[.slice O L M] 30)).heap.size):=by show _<=_;have:=U.out.2.size;simp;omega
      have H9:Hid (∀ v0 J,J.ownsRow w.heap.size 30 1 v0 (k+1+1) (vs++[.slice O L M])->Only [30] (E.alloc (.cells #[.slice O L M] 30)) J->(∀ w',Below w.heap.size w' (E.alloc (.cells #[.slice O L M] 30))->Below w.heap.size w' J)->(OwnS J w.heap.size v0 (S++[oo])/\Below w.heap.size w J)/\J.heap[w.heap.size]?=some (.cells #[.slice p n c,.slice (some ⟨q,o,none⟩) I c2] 33 (0,0))):=fun v0 J g1 g2 g3=>by
       have hb:=a_b E (.cells #[.slice O L M] 30);refine ⟨⟨OwnS.push (W:=E.alloc (.cells #[.slice O L M] 30)) (vs:=vs) (by rw [au.out];exact g1) HV.out.2.2.1 (fun i hi=>?_) (HV.out.1.up hb) g2,g3 w (a_c U.out.2 hb)⟩,g2.keep ((hb.block _ (a_i af.out)).trans af.out) (by decide)⟩;obtain ⟨a',b',c',e',h'⟩:=HV.out.2.2.2 i hi;exact ⟨a',b',c',e',h'.up hb⟩
      clear HV U af ai HO HX;go_wp2_with (at_builtin;refine b_z shT (by decide) (by decide) rfl (.tmp 43) (.tmp 45) rfl w.heap.size _ (k+1) vs rfl H5.out _ [.slice O L M] rfl H6.out rfl H7.out aE H8.out ?_;intro v0 J H0 O0 B0)
      obtain ⟨hA,hX⟩:=H9.out v0 J H0.out O0.out B0.out;have HA:Hid (OwnS J w.heap.size v0 (S++[oo])/\Below w.heap.size w J):=hA;have aF:Hid (J.heap[w.heap.size]?=some (.cells #[.slice p n c,.slice (some ⟨q,o,none⟩) I c2] 33 (0,0))):=hX;clear hA hX H0 O0 B0 H5 H6 H7 H8 H9;go_wp2;go_roundg (I - (k+1))
      case measure=>omega
      case rel=>exact ⟨k+1,S++[oo],by omega,rfl,by first|rfl|simp,HA,aI,aF⟩
    ·rw [decide_eq_false ah]
     have er:r=none:=by
      rw [<- HK.out.1];refine b_o (i:=k+1) ?_ av;rw [a_G HS.out,aa.out,if_pos ⟨(c_W s).2 ae,ah⟩]
     subst er;clear ah ae cO cK aa HN;go_wp2;go_ret2;exact ⟨_,rfl,rfl,a_c HO.out.2 V.out⟩
   ·replace t4:=t4.trans (decide_eq_false ae);have aQ:Hid (¬ s=e_j):=fun h=>ae ((c_W s).1 h);clear ae;obtain ⟨q3,o3,a3,b3,d3,rfl,s3,ao⟩:=ai.out.2 k (by omega);have m3:Hid (Nums .i64 wr (.slice a3 b3 d3) (shA S k)):=ao;clear ao g1;go_wp2;generalize ag:World.alloc _ _=W3;have V:Hid (Below wr.heap.size wr W3):=by rw [<- ag];exact a_b wr _
    obtain ⟨e0,e1,e2⟩:W3.cell? ⟨wr.heap.size,0,none⟩=some (.string s)/\W3.cell? ⟨wr.heap.size,1,none⟩=some (.int .i64 a)/\W3.cell? ⟨wr.heap.size,2,none⟩=some (.int .i64 b):=by rw [<- ag];simp [go_sem]
    replace s3:=a_h V.out s3;have ay:=a_g e0;have aB:=a_g s3;clear ag y0 y1 y2;refine l_A [⟨5,38,OutR xo w.heap.size⟩,⟨6,32,OutR xo w.heap.size⟩,⟨7,39,OutV xo w.heap.size⟩] 9 49 (by kernel_rfl) rfl rfl 8 _ rfl (by decide) rfl (by kernel_rfl) (by kernel_rfl) (fun _ _ _ _ h=>h) (by rfl) ?_ ?_
    ·intro e he v W W' h hb;simp only [List.mem_cons,List.not_mem_nil,or_false] at he;rcases he with rfl|rfl|rfl
     ·exact OutR.up h hb
     ·exact OutR.up h hb
     ·exact OutV.up h hb
    apply Exists.intro;refine ⟨?yl2,?wk2,?pk2,?rest2⟩
    case wk2=>
     intro x;simp only [List.take_succ_cons,List.take_zero]
     iterate 5
      refine a_l rfl rfl ?_;apply Exists.intro;refine ⟨fun F hF hf K hK=>?_,?_⟩
      ·have hFc:=hF.cell;have hFf:=hF.frozen
       go_big_quiet_op
       first|exact hK|(apply Exists.intro;refine ⟨fun _=>?_,?_⟩;(· fail);exact hK)
      (try simp only [Act.put,sA_,sB_,sC_])
     refine a_o rfl rfl ?_ ?_
     ·intro F hF hf d;have hFc:=hF.cell;have hFf:=hF.frozen;simp [a_j,a_f,go_sem,hFc,ay,aB,e0,e1,e2,s3];have R:=a_c V.out (hF.below d);refine (cO.out (F d) a3 b3 d3 (m3.out.up R)).mono ?_;rintro e' w8 ⟨v8,rfl,h8,az⟩;exact ⟨_,rfl,h8.low (Nat.le_trans HO.out.2.size R.size),az⟩
     (try simp only [Act.put,sA_,sB_,sC_])
     refine a_o rfl rfl ?_ ?_
     ·intro F hF hf d;have hFc:=hF.cell;have hFf:=hF.frozen;simp [a_j,a_f,go_sem];exact ⟨hf _ List.mem_cons_self (by rfl) d,Below.refl _ _⟩
     (try simp only [Act.put,sA_,sB_,sC_])
     refine a_o rfl rfl ?_ ?_
     ·intro F hF hf d;have hFc:=hF.cell;have hFf:=hF.frozen;obtain ⟨u9,e9,h9⟩:=(hf _ (List.mem_cons_of_mem _ List.mem_cons_self) (by rfl) d).tup;simp only [] at e9;simp [a_j,a_f,go_sem,e9];exact ⟨h9,Below.refl _ _⟩
     (try simp only [Act.put,sA_,sB_,sC_])
     refine a_l rfl rfl ?_;apply Exists.intro;refine ⟨fun F hF hf K hK=>?_,?_⟩
     ·have hFc:=hF.cell;have hFf:=hF.frozen;obtain ⟨u9,e9,-⟩:=(hf _ (List.mem_cons_of_mem _ List.mem_cons_self) (by rfl) w).tup;simp only [] at e9;rw [e9] at hK ⊢
      go_big_quiet_op
      first|exact hK|(apply Exists.intro;refine ⟨fun _=>?_,?_⟩;(· fail);exact hK)
     (try simp only [Act.put,sA_,sB_,sC_])
     refine b_a ?_;exact rfl
    case pk2=>
     intro x;simp only [b_k,List.foldl_cons,List.foldl_nil,Act.put,sA_,sB_,sC_]
    case yl2=>
     intro x hx;obtain ⟨W9,h9⟩:=hx _ (List.mem_cons_of_mem _ List.mem_cons_self) (by rfl);obtain ⟨u9,e9,-⟩:=OutR.tup h9;simp only [] at e9;refine ⟨.bool xo.isSome,fun t ht=>?_,.inl ⟨by rfl,fun w=>?_⟩⟩
     ·cases ht;rfl
     ·simp [execOp,Act.eval,e9,go_sem]
    intro E xs R hf;simp only [List.drop_succ_cons,List.drop_zero];have h7:=hf _ (List.mem_cons_of_mem _ (List.mem_cons_of_mem _ List.mem_cons_self));simp only [] at h7;have H:=a_c V.out R;have U:Hid (OwnS E w.heap.size (.slice (some ⟨q3,o3,none⟩) (k+1) cs) S/\Below w.heap.size w E):=⟨HO.out.1.up H,a_c HO.out.2 H⟩
    have af:Hid (E.heap[w.heap.size]?=some (.cells #[.slice p n c,.slice (some ⟨q,o,none⟩) I c2] 33 (0,0))):=(H.block _ am).trans HX.out;clear hf R H e0 e1 e2 s3 m3 cO cK V;cases xo with
    | none=>
     have er:r=none:=by
      rw [<- HK.out.1];refine b_o (i:=k+1) ?_ av;rw [a_G HS.out,aa.out]
      (try (split <;> rfl))
     subst er;obtain ⟨v7,e7⟩:∃ v7,xs 7=v7:=⟨_,rfl⟩
     rw [e7];clear h7 e7;go_wp2;go_ret2;exact ⟨_,rfl,rfl,U.out.2⟩
    | some oo=>
     obtain ⟨O,L,M,e7,h7⟩:=h7;rw [e7]
     have aI:Hid (shN d ls (k+1)=some (S++[oo])):=by
      show _=_;rw [a_G HS.out,aa.out,if_neg fun h=>aQ.out h.1];rfl
     obtain ⟨vs,ac,ak⟩:=U.out.1;have an:vs.length=S.length:=by have:=ac.1;omega
     have HV:Hid (OwnK .i64 3 E w.heap.size (.slice O L M) oo/\E.ownsRow w.heap.size 30 1 (.slice (some ⟨q3,o3,none⟩) (k+1) cs) (k+1) vs/\vs.length=S.length/\∀ i,i < S.length->∃ a b c,vs[i]?=some (.slice a b c)/\OwnK .i64 3 E w.heap.size (.slice a b c) (shA S i)):=⟨h7,by rw [au.out] at ac;exact ac,an,ak⟩
     have aE:k+1+1<=1073741825:=by omega
     clear h7 e7 ac ak an aa HN;have H5:Hid ((E.alloc (.cells #[.slice O L M] 30)).ownsRow w.heap.size 30 1 (.slice (some ⟨q3,o3,none⟩) (k+1) cs) (k+1) vs):=a_z (S:=[]) HV.out.2.1 (Only.of (a_b E _)) (by simp);have H6:Hid ((E.alloc (.cells #[.slice O L M] 30)).heap[E.heap.size]?=some (.cells [.slice O L M].toArray 30 (0,0))):=Array.getElem?_push_size;have H7:Hid (∀ y∈[Value.slice O L M],y.oneCell'=true):=fun y hy=>by simp at hy;subst hy;rfl
     have H8:Hid (w.heap.size<=(E.alloc (.cells #[.slice O L M] 30)).heap.size):=by show _<=_;have:=U.out.2.size;simp;omega
     have H9:Hid (∀ v0 J,J.ownsRow w.heap.size 30 1 v0 (k+1+1) (vs++[.slice O L M])->Only [30] (E.alloc (.cells #[.slice O L M] 30)) J->(∀ w',Below w.heap.size w' (E.alloc (.cells #[.slice O L M] 30))->Below w.heap.size w' J)->(OwnS J w.heap.size v0 (S++[oo])/\Below w.heap.size w J)/\J.heap[w.heap.size]?=some (.cells #[.slice p n c,.slice (some ⟨q,o,none⟩) I c2] 33 (0,0))):=fun v0 J g1 g2 g3=>by
      have hb:=a_b E (.cells #[.slice O L M] 30);refine ⟨⟨OwnS.push (W:=E.alloc (.cells #[.slice O L M] 30)) (vs:=vs) (by rw [au.out];exact g1) HV.out.2.2.1 (fun i hi=>?_) (HV.out.1.up hb) g2,g3 w (a_c U.out.2 hb)⟩,g2.keep ((hb.block _ (a_i af.out)).trans af.out) (by decide)⟩;obtain ⟨a',b',c',e',h'⟩:=HV.out.2.2.2 i hi;exact ⟨a',b',c',e',h'.up hb⟩
     clear HV U af ai HO HX;go_wp2_with (at_builtin;refine b_z shT (by decide) (by decide) rfl (.tmp 43) (.tmp 45) rfl w.heap.size _ (k+1) vs rfl H5.out _ [.slice O L M] rfl H6.out rfl H7.out aE H8.out ?_;intro v0 J H0 O0 B0)
     obtain ⟨hA,hX⟩:=H9.out v0 J H0.out O0.out B0.out;have HA:Hid (OwnS J w.heap.size v0 (S++[oo])/\Below w.heap.size w J):=hA;have aF:Hid (J.heap[w.heap.size]?=some (.cells #[.slice p n c,.slice (some ⟨q,o,none⟩) I c2] 33 (0,0))):=hX;clear hA hX H0 O0 B0 H5 H6 H7 H8 H9;go_wp2;go_roundg (I - (k+1))
     case measure=>omega
     case rel=>exact ⟨k+1,S++[oo],by omega,rfl,by first|rfl|simp,HA,aI,aF⟩
  ·obtain rfl:k=I:=by omega
   have er:r=some S:=by rw [<- HK.out.1,HK.out.2.1.1];exact HS.out
   subst er;go_wp2;go_ret2;exact ⟨_,rfl,⟨_,rfl,by have:=HO.out.1;exact this⟩,HO.out.2⟩
theorem g_q (p p2:Option Addr) (n c M c2:Nat) (d:List Int) (ls:List Ly) (ai:M<=1073741823) (w:World) (hK:Hid (Kz w)) (h1:Nums .i64 w (.slice p n c) d) (hL:LyR 0 w p2 M ls):
  Calls Tryz.prog 36 #[.agg #[.slice p n c,.slice p2 M c2]] w fun e w'=>∃ ps cs,e = .returned (.tuple #[.slice ps (nS d ls).length cs,.int .i64 (nE d ls)])/\OwnS w' w.heap.size (.slice ps (nS d ls).length cs) (nS d ls)/\Below w.heap.size w w':=by
 obtain ⟨E,eE⟩:∃ E,nE d ls=E:=⟨_,rfl⟩
 obtain ⟨SS,eS⟩:∃ S,nS d ls=S:=⟨_,rfl⟩
 have J:Hid (nE d ls=E/\nS d ls=SS):=⟨eE,eS⟩
 rw [eE,eS];clear eE eS;obtain ⟨fb,ac⟩:∃ f,b_L d ls=f:=⟨_,rfl⟩
 have cN:Hid (∀ W,Below w.heap.size w W->Calls Tryz.prog 55 #[.agg #[.slice p n c,.slice p2 M c2]] W fun e w'=>e = .returned (.bool fb)/\Below W.heap.size W w'):=fun W hW=>by
  rw [<- ac];exact f_3 p p2 n c M c2 d ls (by omega) W (Hid.up_kz hK hW) (h1.up hW) (hL.up hW)
 have HF:Hid (b_L d ls=fb):=ac;have HA:Hid (Nums .i64 w (.slice p n c) d/\LyR 0 w p2 M ls):=⟨h1,hL⟩
 clear ac h1 hL;go_enter Tryz.func36,Tryz.ntmps36;go_wp2_with fail
 generalize ab:World.alloc _ _=W0;have af:Hid (Below w.heap.size w W0):=by rw [<- ab];exact a_b w _
 obtain ⟨g0,g1⟩:W0.cell? ⟨w.heap.size,0,none⟩=some (.slice p n c)/\W0.cell? ⟨w.heap.size,1,none⟩=some (.slice p2 M c2):=by rw [<- ab];simp [go_sem]
 clear ab;refine (cN.out W0 af.out).mono ?_;rintro e w1 ⟨rfl,V⟩;have I:Hid (Below w.heap.size w w1):=a_c af.out V;replace g0:=a_h V g0;replace g1:=a_h V g1;clear V cN af;cases fb with
 | false=>
  have L:E=1:=by rw [<- J.out.1];exact m_S (by rw [HF.out];simp)
  have e2:SS = []:=by rw [<- J.out.2];exact (h_6 (by rw [J.out.1,L];decide)).1
  subst L e2;go_wp2;go_ret2;exact ⟨_,_,rfl,OwnS.nil _ _,I.out⟩
 | true=>
 go_wp2_with fail
 refine (h_9 p p2 n c M c2 d ls HF.out ai w1 (HA.out.1.up I.out) (HA.out.2.up I.out)).mono ?_;rintro e w2 ⟨v2,rfl,U,H⟩;have ae:Hid (Below w.heap.size w w2):=a_c I.out H;replace g0:=a_h H g0;replace g1:=a_h H g1;obtain ⟨x,ex⟩:∃ x,shN d ls ls.length=x:=⟨_,rfl⟩
 rw [ex] at U;cases x with
 | none=>
  have L:E=4:=by rw [<- J.out.1];exact d_i HF.out ex
  have e2:SS = []:=by rw [<- J.out.2];exact (h_6 (by rw [J.out.1,L];decide)).1
  have hr:v2 = .tuple #[.slice none 0 0,.bool false]:=U;subst L e2 hr;clear U ex H;go_wp2;go_ret2;exact ⟨_,_,rfl,OwnS.nil _ _,ae.out⟩
 | some S=>
  obtain ⟨u,rfl,O⟩:=U;obtain ⟨ps,cs,rfl,aa⟩:=O.rd;obtain ⟨sl,R⟩:∃ sl,S.length=sl:=⟨_,rfl⟩
  rw [R] at aa O ⊢;have HS:Hid (OwnS w2 w.heap.size (.slice ps sl cs) S/\S.length=sl):=⟨O.low I.out.size,R⟩
  obtain ⟨ag,aj⟩:=(c_f d ls).1 HF.out;have cT:=i_V p p2 ps n c M c2 sl cs d ls S (NetOk.of HF.out ex) (fun k hk=>e_l ag aj (Nat.le_refl _) ex k (by rw [<- c_U ex,R];exact hk)) (by omega) w2 (HA.out.2.up ae.out) aa;obtain ⟨q,eq⟩:∃ q,e_N ls S=q:=⟨_,rfl⟩
  rw [eq] at cT;have HQ:Hid (e_N ls S=q/\shN d ls ls.length=some S):=⟨eq,ex⟩
  clear O aa R ex H eq ag aj;go_wp2_with fail
  refine cT.mono ?_;rintro e w3 ⟨rfl,ad⟩;have ah:Hid (Below w.heap.size w w3):=a_c ae.out ad;have ak:Hid (OwnS w3 w.heap.size (.slice ps sl cs) S):=HS.out.1.up ad;clear ad cT;cases q with
  | true=>
   have L:E=2:=by rw [<- J.out.1];exact m_T HF.out HQ.out.2 HQ.out.1
   have e2:SS = []:=by rw [<- J.out.2];exact (h_6 (by rw [J.out.1,L];decide)).1
   subst L e2;go_wp2;go_ret2;exact ⟨_,_,rfl,OwnS.nil _ _,ah.out⟩
  | false=>
   have h3:=k_O HF.out HQ.out.2 HQ.out.1;have L:E=0:=by rw [<- J.out.1];exact h3.1
   have e2:SS=S:=by rw [<- J.out.2];exact h3.2.1
   subst L e2;clear h3;go_wp2;go_ret2;rw [HS.out.2];exact ⟨_,_,rfl,ak.out,ah.out⟩
theorem k_T (p L:Option Addr) (n c I V:Nat) (d:List Int) (ls:List Ly) (ab:I<=1073741823) (w:World) (hK:Hid (Kz w)) (h1:Nums .i64 w (.slice p n c) d) (hL:LyR 0 w L I ls):
  Calls Tryz.prog 51 #[.agg #[.slice p n c,.slice L I V]] w fun e w'=>e = .returned (.tuple #[.int .i64 (nP d ls),.int .i64 (nE d ls)])/\Below w.heap.size w w':=by
 obtain ⟨E,eE⟩:∃ E,nE d ls=E:=⟨_,rfl⟩
 obtain ⟨PN,eP⟩:∃ P,nP d ls=P:=⟨_,rfl⟩
 obtain ⟨SS,eS⟩:∃ S,nS d ls=S:=⟨_,rfl⟩
 obtain ⟨sl,R⟩:∃ sl,SS.length=sl:=⟨_,rfl⟩
 have HE:Hid (nE d ls=E/\nP d ls=PN/\nS d ls=SS/\SS.length=sl):=⟨eE,eP,eS,R⟩
 have cS:Hid (∀ W,Below w.heap.size w W->Calls Tryz.prog 36 #[.agg #[.slice p n c,.slice L I V]] W fun e w'=>∃ ps cs,e = .returned (.tuple #[.slice ps sl cs,.int .i64 E])/\OwnS w' W.heap.size (.slice ps sl cs) SS/\Below W.heap.size W w'):=fun W hW=>by
  have:=g_q p L n c I V d ls ab W (Hid.up_kz hK hW) (h1.up hW) (hL.up hW);rw [eE,eS,R] at this;exact this
 have HA:Hid (LyR 0 w L I ls):=hL;rw [eE,eP];clear eE eP eS R h1 hL;go_enter Tryz.func51,Tryz.ntmps51;go_wp2_with fail
 generalize J:World.alloc _ _=W0;have ac:Hid (Below w.heap.size w W0):=by rw [<- J];exact a_b w _
 obtain ⟨g0,g1⟩:W0.cell? ⟨w.heap.size,0,none⟩=some (.slice p n c)/\W0.cell? ⟨w.heap.size,1,none⟩=some (.slice L I V):=by rw [<- J];simp [go_sem]
 clear J;refine (cS.out W0 ac.out).mono ?_;rintro e w1 ⟨ps,cs,rfl,O,H⟩;have M:Hid (Below w.heap.size w w1):=a_c ac.out H;replace g0:=a_h H g0;replace g1:=a_h H g1;by_cases h0:E=0
 ·subst h0;obtain ⟨S,hf,hs,ht⟩:=e_Z HE.out.1;obtain ⟨_,h4,h5⟩:=k_O hf hs ht;rw [HE.out.2.2.1] at h4;subst h4;obtain ⟨p',c',e',U⟩:=O.rd;cases e';have cc:=c_g p L ps n c I V _ cs d ls SS (NetOk.of hf hs) (by omega) w1 (HA.out.up M.out) U;rw [<- h5,HE.out.2.1] at cc;clear O H hf hs ht h5 U cS;go_wp2_with fail
  refine cc.mono ?_;rintro e w2 ⟨rfl,aa⟩;have ad:Hid (Below w.heap.size w w2):=a_c M.out aa;clear aa cc;go_wp2;go_ret2;exact ⟨rfl,ad.out⟩
 ·have ae:(E != 0)=true:=by simpa using h0
  have eP:PN=0:=by rw [<- HE.out.2.1];exact (h_6 (by rw [HE.out.1];exact h0)).2
  subst eP;clear O H cS;go_wp2;go_ret2;exact ⟨rfl,M.out⟩
end Go.Proofs.YtjlofobnmjompaaGreatDoor.Wd
namespace Go.Proofs.YtjlofobnmjompaaGreatDoor.Wd
end Go.Proofs.YtjlofobnmjompaaGreatDoor.Wd
namespace Go.Proofs.YtjlofobnmjompaaGreatDoor.Wd
open Go.RowKit
def wdA (ws:List ByteArray) (i:Nat):ByteArray:=ws.getD i ⟨#[]⟩
/-- A slice of words. -/
def StrV (W:World) (v:Value) (ws:List ByteArray):Prop:=∃ p c,v = .slice p ws.length c/\ws.length<=c/\∀ i,i < ws.length->∃ q o,p=some ⟨q,o,none⟩/\W.cell? ⟨q,o+i,none⟩=some (.string (wdA ws i))
theorem StrV.up {W W':World} {v:Value} {D:List ByteArray} (h:StrV W v D) (E:Below W.heap.size W W'):StrV W' v D:=by
 obtain ⟨p,c,e,I,h⟩:=h
 exact ⟨p,c,e,I,fun i H=>by
  obtain ⟨q,o,e,h⟩:=h i H;exact ⟨q,o,e,a_h E h⟩⟩
theorem t_c {W:World} {b:Nat} {E D H:Value} {e:TypeId} (h:W.heap[b]?=some (.cells #[E,D,H] e (0,0))):(W.cell? ⟨b,0,none⟩=some E/\W.frozen? ⟨b,0,none⟩=false)/\(W.cell? ⟨b,1,none⟩=some D/\W.frozen? ⟨b,1,none⟩=false)/\(W.cell? ⟨b,2,none⟩=some H/\W.frozen? ⟨b,2,none⟩=false):=by
 simp [World.cell?,World.frozen?,h]
end Go.Proofs.YtjlofobnmjompaaGreatDoor.Wd
namespace Go.Proofs
end Go.Proofs
namespace Go.Proofs.YtjlofobnmjompaaGreatDoor.Wd
open Go.RowKit
def lyC (l:Ly):List Value:=[.string l.1,.int .i64 l.2.1,.int .i64 l.2.2]
theorem r_5 (ls:List Ly) (i k:Nat) (D:i < ls.length) (E:k < 3):(ls.flatMap lyC)[i*3+k]?=(lyC (lyA ls i))[k]?:=by
 induction ls generalizing i with
 | nil=>simp at D
 | cons l ls ih=>
  rw [List.flatMap_cons];cases i with
  | zero=>
   rw [Nat.zero_mul,Nat.zero_add,List.getElem?_append_left (by show k < 3;exact E)];rfl
  | succ i=>
   rw [List.getElem?_append_right (by show 3<=_;omega),show (i+1)*3+k - (lyC l).length=i*3+k by show (i+1)*3+k - 3=_;omega,ih i (by simpa using D)];rfl
/-- A slice of layers of the call's own. -/
def LyO (W:World) (B:Nat) (v:Value) (ls:List Ly):Prop:=W.ownsRow B 69 3 v ls.length (ls.flatMap lyC)
theorem LyO.only {Q:List TypeId} {W W':World} {B:Nat} {v:Value} {ls:List Ly} (h:LyO W B v ls) (D:Only Q W W') (E:69∉Q):LyO W' B v ls:=a_z h D E
theorem LyO.up {W W':World} {B:Nat} {v:Value} {ls:List Ly} (h:LyO W B v ls) (D:Below W.heap.size W W'):LyO W' B v ls:=h.only (Q:=[]) (Only.of D) (by simp)
/-- append of one element that a literal holds, as a run. -/
theorem r_6 {P:Program} {t e:TypeId} {s b:Nat} (T:GT P t e s b) (hb:b<=256) (M:0 < s) (R:TypeId) (W:World) (B:Nat) (v:Value) (n:Nat) (L:List Value) (ho:W.ownsRow B e s v n L) (g:Nat) (u:List Value) (hg:W.heap[g]?=some (.cells u.toArray e (0,0))) (hu:u.length=s) (h1:∀ x∈u,x.oneCell'=true) (hn:n+1<=1073741825) (U:B<=W.heap.size):
  ∃ J cap I,(Builtin.append_ #[t,t] R #[v,.slice (some ⟨g,0,none⟩) 1 1]).run P W = .ok (.slice (some ⟨J,0,none⟩) (n+1) cap) I/\I.ownsRow B e s (.slice (some ⟨J,0,none⟩) (n+1) cap) (n+1) (L++u)/\W.grownBy I v.ownBlock:=by
 have E:=T.hi;cases h:P.info? e with
 | none=>rw [h] at E;cases E
 | some i=>
  rw [h] at E;simp only [Option.map_some,Option.some.injEq,Prod.mk.injEq] at E;obtain ⟨H,hs,O⟩:=E;cases D:i.zero with
  | none=>rw [D] at H;cases H
  | some z=>
   rw [D] at H;simp only [Option.map_some,Option.some.injEq] at H;have hm:(n+1)*b<=1073741825*256:=Nat.mul_le_mul hn hb
   obtain ⟨J,cap,I,hr,V,h3,_,_⟩:=run_append_lies (P:=P) W t R B e i z s b T.ht h D hs O H M v n L ho ⟨g,0,none⟩ 1 1 u (by omega) (fun j x hj=>by
    rw [a_u,Nat.zero_add];unfold World.cell?;simpa [hg] using hj) h1 (by omega) (by unfold maxLen;omega) (by omega) U _ rfl
   exact ⟨J,cap,I,hr,V,h3⟩
/-- A row of the call's own, told as a value. -/
def OwnG (e:TypeId) (s B n:Nat) (xs:List Value) (v:Value) (W:World):Prop:=∃ g c,v = .slice (some ⟨g,0,none⟩) n c/\W.ownsRow B e s v n xs
theorem OwnG.up {e:TypeId} {s B n:Nat} {D:List Value} {v:Value} {W W':World} (h:OwnG e s B n D v W) (E:Below W.heap.size W W'):OwnG e s B n D v W':=by
 obtain ⟨g,c,e,h⟩:=h;exact ⟨g,c,e,a_z (S:=[]) h (Only.of E) (by simp)⟩
theorem g_r {e:TypeId} {s B n:Nat} {E:List Value} {v:Value} {W W':World} (h:W.ownsRow B e s v n E) (J:W.grownBy W' v.ownBlock):Only [e] W W':=Only.grown J fun k D=>by
 rcases h.2 with ⟨rfl,_⟩|⟨L,cap,H,rfl,_,I,_⟩
 ·cases D
 ·cases D;exact ⟨_,_,_,I,by simp⟩
theorem e_n {W:World} {b:Nat} {E D:Value} {e:TypeId} (h:W.heap[b]?=some (.cells #[E,D] e (0,0))):(W.cell? ⟨b,0,none⟩=some E/\W.frozen? ⟨b,0,none⟩=false)/\(W.cell? ⟨b,1,none⟩=some D/\W.frozen? ⟨b,1,none⟩=false):=by
 simp [World.cell?,World.frozen?,h]
theorem q_P {W U:World} {b:Nat} {t:TypeId} {I L E D:Value} (h:W.heap[b]?=some (.cells #[I,L] t (0,0))) (e:(W.setCell ⟨b,0,none⟩ E).setCell ⟨b,1,none⟩ D=U):
  U.cell? ⟨b,0,none⟩=some E/\U.cell? ⟨b,1,none⟩=some D/\(∀ w B,B<=b->Below B w W->Below B w U)/\Only [t] W U:=by
 have H:U.heap[b]?=some (.cells #[E,D] t (0,0)):=by
  rw [<- e,a_n (a_n h)];rfl
 refine ⟨by simp [World.cell?,H],by simp [World.cell?,H],fun w B hb J=>?_,?_⟩
 ·rw [<- e];exact (J.setCell (p:=⟨b,0,none⟩) hb _).setCell (p:=⟨b,1,none⟩) hb _
 ·rw [<- e];exact (Only.set h (by simp)).trans (Only.set (a_n h) (by simp))
/-- What numbersAhead hands back. -/
def NumP (W0:World) (B:Nat) (X:List Int×List ByteArray) (v:Value) (W:World):Prop:=∃ v1 v2,v = .tuple #[v1,v2]/\OwnK .i64 3 W B v1 X.1/\StrV W0 v2 X.2
theorem NumP.up {D:World} {B:Nat} {X:List Int×List ByteArray} {v:Value} {W W':World} (h:NumP D B X v W) (J:Below W.heap.size W W'):NumP D B X v W':=by
 obtain ⟨E,L,e,H,I⟩:=h;exact ⟨E,L,e,H.up J,I⟩
end Go.Proofs.YtjlofobnmjompaaGreatDoor.Wd
