/- The code's giveA and giveB: the document -/
import Derived.Test.YtjlofobnmjompaaGreatDoorP20
set_option linter.unusedVariables false
set_option linter.unusedSimpArgs false
set_option maxHeartbeats 4000000
set_option maxRecDepth 8000
namespace Go.Proofs.YtjlofobnmjompaaGreatDoor.Wd
open Go.RowKit Fx
/-- What giveA, giveB tell at one Op. -/
def GvP (f:Nat) (h:Int->Int->Ten->Ten->Ten->Ten) (op:Int):Prop:=∀ (ps pt p p2 p3 p4 p5 p6:Option Addr) (ns cs nt ct n c n2 c2 n3 c3 n4 c4 n5 c5 n6 c6:Nat) (A B K:Int) (a b g:Ten) (hK:InR K) (ok:OkP op K a b g) (hc2:n2<=c2) (hc4:n4<=c4) (hc6:n6<=c6) (w:World) (hT:Hid (Tz w)) (h1:Nums .i64 w (.slice p n c) a.1) (h2:Nums .i64 w (.slice p2 n2 c2) a.2) (h3:Nums .i64 w (.slice p3 n3 c3) b.1) (h4:Nums .i64 w (.slice p4 n4 c4) b.2) (h5:Nums .i64 w (.slice p5 n5 c5) g.1) (h6:Nums .i64 w (.slice p6 n6 c6) g.2),
  Calls Tryz.prog f #[.agg #[.int .i64 op,.int .i64 A,.int .i64 B,.int .i64 K,.slice ps ns cs,.slice pt nt ct],.agg #[.slice p n c,.slice p2 n2 c2],.agg #[.slice p3 n3 c3,.slice p4 n4 c4],.agg #[.slice p5 n5 c5,.slice p6 n6 c6]] w fun e w'=>∃ v',e = .returned (.tuple #[v',.int .i64 0])/\TRes w' w.heap.size v' (h op K a b g).1 (h op K a b g).2/\Below w.heap.size w w'
/-- What a callee tells; what it tells in whatever world comes. -/
abbrev RC (f:Nat) (vs:Array Value) (R:Ten) (w:World):Prop:=Calls Tryz.prog f vs w fun e w'=>∃ v',e = .returned (.tuple #[v',.int .i64 0])/\TRes w' w.heap.size v' R.1 R.2/\Below w.heap.size w w'
def RT (f:Nat) (vs:Array Value) (R:Ten) (w:World):Prop:=∀ W,Below w.heap.size w W->RC f vs R W
theorem d_L (ps pt p p2 O p4 E I:Option Addr) (ns cs nt ct n c n2 c2 V U n4 c4 J H D L:Nat) (A B K:Int) (R:Ten) (w:World) (X:Int->Array Value) (hX:∀ op,X op=#[.agg #[.int .i64 op,.int .i64 A,.int .i64 B,.int .i64 K,.slice ps ns cs,.slice pt nt ct],.agg #[.slice p n c,.slice p2 n2 c2],.agg #[.slice O V U,.slice p4 n4 c4],.agg #[.slice E J H,.slice I D L]]):(Hid (RT 103 #[.agg #[.slice E J H,.slice I D L],.slice p n c] R w)->RC 88 (X 2) R w)/\(Hid (RT 103 #[.agg #[.slice E J H,.slice I D L],.slice p n c] R w)->RC 88 (X 3) R w)/\(Hid (RT 104 #[.agg #[.slice E J H,.slice I D L],.agg #[.slice O V U,.slice p4 n4 c4],.slice p n c] R w)->RC 88 (X 4) R w)/\(Hid (RT 105 #[.agg #[.slice E J H,.slice I D L],.int .i64 K] R w)->RC 88 (X 5) R w)/\(Hid (RT 106 #[.agg #[.slice E J H,.slice I D L],.agg #[.slice O V U,.slice p4 n4 c4]] R w)->RC 88 (X 6) R w)/\(Hid (RT 107 #[.agg #[.slice E J H,.slice I D L]] R w)->RC 88 (X 7) R w)/\(Hid (RT 108 #[.agg #[.slice E J H,.slice I D L],.slice p n c,.int .i64 K] R w)->RC 88 (X 8) R w)/\(Hid (RT 110 #[.int .i64 K,.agg #[.slice p n c,.slice p2 n2 c2],.agg #[.slice E J H,.slice I D L]] R w)->RC 88 (X 11) R w)/\(Hid (RT 113 #[.agg #[.slice E J H,.slice I D L],.slice p n c] R w)->RC 88 (X 14) R w)/\(Hid (RT 112 #[.agg #[.slice E J H,.slice I D L],.agg #[.slice p n c,.slice p2 n2 c2],.int .i64 K] R w)->RC 88 (X 13) R w)/\(Hid (RT 103 #[.agg #[.slice E J H,.slice I D L],.slice O V U] R w)->RC 89 (X 2) R w)/\(Hid (RT 114 #[.agg #[.slice E J H,.slice I D L],.slice O V U] R w)->RC 89 (X 3) R w)/\(Hid (RT 104 #[.agg #[.slice E J H,.slice I D L],.agg #[.slice p n c,.slice p2 n2 c2],.slice O V U] R w)->RC 89 (X 4) R w)/\(Hid (RT 115 #[.agg #[.slice p n c,.slice p2 n2 c2],.agg #[.slice E J H,.slice I D L]] R w)->RC 89 (X 6) R w):=by
 refine ⟨?_,?_,?_,?_,?_,?_,?_,?_,?_,?_,?_,?_,?_,?_⟩
 all_goals
  intro cc;rw [hX];clear hX;unfold RC
  first|go_enter Tryz.func88,Tryz.ntmps88|go_enter Tryz.func89,Tryz.ntmps89
  go_wp2_with fail
  generalize M:World.alloc _ _=W0;have aa:=b_W (w:=w) M (by go_grown);have XR:Hid (Cel W0 (w.heap.size+4) (.slice none 0 0) (.slice none 0 0)):=a_F M (by simp [go_sem]);clear M;refine (cc.out W0 aa.out).mono ?_;rintro e w1 ⟨v1,rfl,⟨s1,t1,rfl,hs,ht⟩,ab⟩;obtain ⟨pa,na,ca,rfl⟩:=hs.form_;obtain ⟨pb,nb,cb,rfl⟩:=ht.form_;clear cc;obtain ⟨HF,r0,r1,r2,r3,z0,z1⟩:=h_m XR aa ab hs ht (by omega);clear hs ht;go_wp2;exact bodyPost_ret (v:=.tuple #[.agg #[.slice pa na ca,.slice pb nb cb],.int .i64 0]) (by simp [results,Tryz.results88,Tryz.results89,go_sem,z0,z1]) rfl ⟨_,rfl,HF.out⟩
theorem ga2:GvP 88 onA 2:=by
 intro ps pt p p2 p3 p4 L O ns V nt ct n c n2 c2 n3 c3 n4 c4 R M J U A B K a b g hK ok aa ab ac w hT h1 h2 h3 h4 h5 h6;obtain ⟨I,E,H,hE,eg⟩:=ok;refine (d_L ps pt p p2 p3 p4 L O ns V nt ct n c n2 c2 n3 c3 n4 c4 R M J U A B K _ w _ (fun _=>rfl)).1 (show Hid _ from fun W D=>?_);have o:=e_C I (H (by decide)) hE E eg;have:=e_g L O p R M J U n c g.1 g.2 a.1 E.2.1 E.2.2 I.2.1 o.1.1 W (h5.up D) (h6.up D) (h1.up D);rw [o.1.1] at this;exact this
theorem ga3:GvP 88 onA 3:=by
 intro ps pt p p2 p3 p4 L O ns V nt ct n c n2 c2 n3 c3 n4 c4 R M J U A B K a b g hK ok aa ab ac w hT h1 h2 h3 h4 h5 h6;obtain ⟨I,E,H,hE,eg⟩:=ok;refine (d_L ps pt p p2 p3 p4 L O ns V nt ct n c n2 c2 n3 c3 n4 c4 R M J U A B K _ w _ (fun _=>rfl)).2.1 (show Hid _ from fun W D=>?_);have o:=e_C I (H (by decide)) hE E eg;have:=e_g L O p R M J U n c g.1 g.2 a.1 E.2.1 E.2.2 I.2.1 o.1.1 W (h5.up D) (h6.up D) (h1.up D);rw [o.1.1] at this;exact this
theorem ga4:GvP 88 onA 4:=by
 intro ps pt p p2 O J U p6 ns cs nt ct n c n2 c2 n3 c3 n4 L n5 c5 R c6 A B K a b g hK ok aa H I w hT h1 h2 h3 h4 h5 h6;obtain ⟨M,V,E,hE,eg⟩:=ok;refine (d_L ps pt p p2 O J U p6 ns cs nt ct n c n2 c2 n3 c3 n4 L n5 c5 R c6 A B K _ w _ (fun _=>rfl)).2.2.1 (show Hid _ from fun W D=>?_);have o:=e_C M (E (by decide)) hE V eg;exact f_N U p6 n5 c5 R c6 O J n3 c3 n4 L p n c g b a.1 V (E (by decide)) M.2.1 o.2.2.1.1 o.2.2.1.2.2 o.2.2.1.2.1 W (h5.up D) (h6.up D) I (h3.up D) (h4.up D) H (h1.up D)
theorem ga8:GvP 88 onA 8:=by
 intro ps pt p p2 p3 p4 I M ns U nt ct n c n2 c2 n3 c3 n4 c4 O L H R A B K a b g hK ok ab ac ad w hT h1 h2 h3 h4 h5 h6;obtain ⟨E,J,aa,hE,eg⟩:=ok;refine (d_L ps pt p p2 p3 p4 I M ns U nt ct n c n2 c2 n3 c3 n4 c4 O L H R A B K _ w _ (fun _=>rfl)).2.2.2.2.2.2.1 (show Hid _ from fun W D=>?_);obtain ⟨s,rfl,hs,V,o2,o3⟩:=o_z E hE J eg;exact i_M I M O L H R p n c g a.1 _ s J E.1.1 hs V o2 o3 W (h5.up D) (h6.up D) (h1.up D)
theorem t_v:GvP 88 onA 11:=by
 intro ps pt p V p3 p4 L R ns cs nt ct n c M I n3 c3 n4 c4 n5 O J c6 A B K a b g hK ok ab ac ad w hT h1 h2 h3 h4 h5 h6;obtain ⟨D,H,aa,U,eg⟩:=ok;refine (d_L ps pt p V p3 p4 L R ns cs nt ct n c M I n3 c3 n4 c4 n5 O J c6 A B K _ w _ (fun _=>rfl)).2.2.2.2.2.2.2.1 (show Hid _ from fun W E=>?_);have:=o_w K p V L R n c M I n5 O J c6 a.1 a.2 g.1 g.2 D.2.1 D.2.2 H.2.1 H.2.2 (m_F D U H eg) W (h1.up E) (h2.up E) (h5.up E) (h6.up E);rw [m_F D U H eg] at this;exact this
theorem t_G:GvP 88 onA 14:=by
 intro ps pt p p2 p3 p4 I M ns U nt ct n c n2 c2 n3 c3 n4 c4 O L H R A B K a b g hK ok ab ac ad w hT h1 h2 h3 h4 h5 V;obtain ⟨E,J,aa,hE,eg⟩:=ok;refine (d_L ps pt p p2 p3 p4 I M ns U nt ct n c n2 c2 n3 c3 n4 c4 O L H R A B K _ w _ (fun _=>rfl)).2.2.2.2.2.2.2.2.1 (show Hid _ from fun W D=>?_);have:=c_8 I M p O L H R n c g.1 g.2 a.1 J.2.1 E.2.1 W (h5.up D) (V.up D) (h1.up D);rw [q_D E hE J eg] at this;exact this
theorem t_H:GvP 88 onA 13:=by
 intro ps pt p p2 p3 p4 L U ns cs nt ct n c O H n3 c3 n4 c4 n5 R J c6 A B K a b g hK ok E ab ac w hT h1 h2 h3 h4 h5 h6;obtain ⟨I,M,aa,V,eg⟩:=ok;refine (d_L ps pt p p2 p3 p4 L U ns cs nt ct n c O H n3 c3 n4 c4 n5 R J c6 A B K _ w _ (fun _=>rfl)).2.2.2.2.2.2.2.2.2.1 (show Hid _ from fun W D=>?_);obtain ⟨o1,o2,o3⟩:=q_E I V M eg;exact i_O L U n5 R J c6 p p2 n c O H g a K M I V o1 o2 o3 W (h5.up D) (h6.up D) (h1.up D) (h2.up D) E
theorem gb2:GvP 89 onB 2:=by
 intro ps pt p p2 I p4 L U ns cs nt ct n c n2 c2 R M n4 c4 V O J c6 A B K a b g hK ok aa ab ac w hT h1 h2 h3 h4 h5 h6;obtain ⟨ga,H,D,hE,eg⟩:=ok;refine (d_L ps pt p p2 I p4 L U ns cs nt ct n c n2 c2 R M n4 c4 V O J c6 A B K _ w _ (fun _=>rfl)).2.2.2.2.2.2.2.2.2.2.1 (show Hid _ from fun W E=>?_);have o:=e_C ga (D (by decide)) hE H eg;have:=e_g L U I V O J c6 R M g.1 g.2 b.1 H.2.1 H.2.2 (D (by decide)).2.1 o.1.2 W (h5.up E) (h6.up E) (h3.up E);rw [o.1.2] at this;exact this
theorem gb3:GvP 89 onB 3:=by
 intro ps pt p p2 I p4 L V ns cs nt ct n c n2 c2 U O n4 c4 n5 R J c6 A B K a b g hK ok aa ab H w hT h1 h2 h3 h4 h5 h6;obtain ⟨ga,M,D,hE,eg⟩:=ok;refine (d_L ps pt p p2 I p4 L V ns cs nt ct n c n2 c2 U O n4 c4 n5 R J c6 A B K _ w _ (fun _=>rfl)).2.2.2.2.2.2.2.2.2.2.2.1 (show Hid _ from fun W E=>?_);have o:=e_C ga (D (by decide)) hE M eg;exact k_N L V n5 R J c6 I U O g b.1 M (D (by decide)).2.1 o.2.1.2 o.2.1.1 W (h5.up E) (h6.up E) H (h3.up E)
theorem gb4:GvP 89 onB 4:=by
 intro ps pt p p2 M p4 R p6 ns cs nt ct n c n2 J n3 V n4 c4 n5 c5 O c6 A B K a b g hK ok H aa I w hT h1 h2 h3 h4 h5 h6;obtain ⟨L,U,E,hE,eg⟩:=ok;refine (d_L ps pt p p2 M p4 R p6 ns cs nt ct n c n2 J n3 V n4 c4 n5 c5 O c6 A B K _ w _ (fun _=>rfl)).2.2.2.2.2.2.2.2.2.2.2.2.1 (show Hid _ from fun W D=>?_);have o:=e_C L (E (by decide)) hE U eg;exact f_N R p6 n5 c5 O c6 p p2 n c n2 J M n3 V g a b.1 U L (E (by decide)).2.1 o.2.2.2.1 o.2.2.2.2.2 o.2.2.2.2.1 W (h5.up D) (h6.up D) I (h1.up D) (h2.up D) H (h3.up D)
theorem m_L (ps pt p p2 p3 p4 p5:Option Addr) (ns cs nt ct n c n2 c2 n3 c3 n4 c4 n5 c5 O c6:Nat) (A B K:Int) (q6 V:Nat) (G:Int) (R:Ten) (w:World) (ae:0 < O) (d6:w.cell? ⟨q6,V,none⟩=some (.int .i64 G)) (X:Int->Array Value) (hX:∀ op,X op=#[.agg #[.int .i64 op,.int .i64 A,.int .i64 B,.int .i64 K,.slice ps ns cs,.slice pt nt ct],.agg #[.slice p n c,.slice p2 n2 c2],.agg #[.slice p3 n3 c3,.slice p4 n4 c4],.agg #[.slice p5 n5 c5,.slice (some ⟨q6,V,none⟩) O c6]]):(Hid (RT 67 #[.slice p n c,.int .i64 G] R w)->RC 88 (X 9) R w)/\(Hid (RT 109 #[.int .i64 G,.slice p n c] R w)->RC 88 (X 10) R w):=by
 have ad:(0:Int) < (O:Int):=by omega
 refine ⟨?_,?_⟩
 all_goals
  intro cc;rw [hX];clear hX;unfold RC;go_enter Tryz.func88,Tryz.ntmps88;go_wp2_with fail
  generalize D:World.alloc _ _=W0;have I:=b_W (w:=w) D (by go_grown);have XR:Hid (Cel W0 (w.heap.size+4) (.slice none 0 0) (.slice none 0 0)):=a_F D (by simp [go_sem]);have XA:Cel W0 (w.heap.size+1) (.slice p n c) (.slice p2 n2 c2):=(a_F D (by simp [go_sem])).out;obtain ⟨M,aa,_,_⟩:=XA;have ka:=a_a M;have XG:Cel W0 (w.heap.size+3) (.slice p5 n5 c5) (.slice (some ⟨q6,V,none⟩) O c6):=(a_F D (by simp [go_sem])).out;obtain ⟨L,ac,_,_⟩:=XG;have kg:=a_a L;have J:=a_d d6 I.out;have k6:=a_a J;clear D
  first|refine l_A [⟨6,69,TupP W0.heap.size R.1 R.2 0⟩,⟨7,70,OwnT W0.heap.size R.1 R.2⟩] 9 123 (by kernel_rfl) rfl rfl 8 _ rfl (by decide) rfl (by kernel_rfl) (by kernel_rfl) (fun _ _ _ _ h=>h) (by rfl) ?_ ?_|refine l_A [⟨6,80,TupP W0.heap.size R.1 R.2 0⟩,⟨7,81,OwnT W0.heap.size R.1 R.2⟩] 9 123 (by kernel_rfl) rfl rfl 8 _ rfl (by decide) rfl (by kernel_rfl) (by kernel_rfl) (fun _ _ _ _ h=>h) (by rfl) ?_ ?_
  ·intro e he v W W' h hb;simp only [List.mem_cons,List.not_mem_nil,or_false] at he;rcases he with rfl|rfl
   ·exact TupP.up h hb
   ·exact OwnT.up h hb
  apply Exists.intro;refine ⟨?_,?_,?_,?_⟩;rotate_left
  ·intro x;simp only [List.take_succ_cons,List.take_zero]
   iterate 6
    refine a_l rfl rfl ?_;apply Exists.intro;refine ⟨fun F hF hf K hK=>?_,?_⟩
    ·have hFc:=hF.cell;have hFf:=hF.frozen
     go_big_quiet_op
     first|exact hK|(apply Exists.intro;refine ⟨fun _=>?_,?_⟩;(· fail);exact hK)
    (try simp only [Act.put,sA_,sB_,sC_])
   refine a_o rfl rfl ?_ ?_
   ·intro F hF hf d;have hFc:=hF.cell;have hFf:=hF.frozen;simp [a_j,a_f,go_sem];refine (cc.out (F d) (a_c I.out (hF.below d))).mono ?_;rintro e' w8 ⟨v8,rfl,h8,ab⟩;exact ⟨_,rfl,⟨v8,rfl,(h8.low (hF.below d).size).own⟩,ab⟩
   (try simp only [Act.put,sA_,sB_,sC_])
   refine a_o rfl rfl ?_ ?_
   ·intro F hF hf d;have hFc:=hF.cell;have hFf:=hF.frozen;have h9:=hf _ List.mem_cons_self (by rfl) d;obtain ⟨u9,H,n9⟩:=h9;simp only [] at H n9;simp [a_j,a_f,go_sem,H];exact ⟨n9,Below.refl _ _⟩
   (try simp only [Act.put,sA_,sB_,sC_])
   refine a_l rfl rfl ?_;apply Exists.intro;refine ⟨fun F hF hf K hK=>?_,?_⟩
   ·have hFc:=hF.cell;have hFf:=hF.frozen;have h9:=hf _ List.mem_cons_self (by rfl);obtain ⟨u9,H,_⟩:=h9 W0;simp only [] at H
    go_big_quiet_op
    first|exact hK|(apply Exists.intro;refine ⟨fun _=>?_,?_⟩;(· fail);exact hK)
   (try simp only [Act.put,sA_,sB_,sC_])
   refine b_a ?_;exact rfl
  ·intro x;simp only [b_k,List.foldl_cons,List.foldl_nil,Act.put,sA_,sB_,sC_]
  rotate_left
  ·intro x hx;obtain ⟨W9,u9,H,_⟩:=hx _ List.mem_cons_self (by rfl);simp only [] at H;refine ⟨.int .i64 0,fun t U=>?_,.inl ⟨by rfl,fun w=>?_⟩⟩
   ·cases U;rfl
   ·simp [execOp,Act.eval,H,go_sem]
  intro zz xs E hf;simp only [List.drop_succ_cons,List.drop_zero];obtain ⟨pa,na,ca,pb,nb,cb,ev,hs,U⟩:=hf _ (List.mem_cons_of_mem _ List.mem_cons_self);simp only [] at ev;obtain ⟨x4,e4⟩:∃ q,xs 6=q:=⟨_,rfl⟩
  simp only [ev,e4];obtain ⟨HF,r0,r1,r2,r3,z0,z1⟩:=h_m XR I E hs U (by omega);have rk:=a_a r0;clear hs U E hf cc M aa L ac J;go_wp2;exact bodyPost_ret (v:=.tuple #[.agg #[.slice pa na ca,.slice pb nb cb],.int .i64 0]) (by simp [results,Tryz.results88,go_sem,z0,z1]) rfl ⟨_,rfl,HF.out⟩
theorem ga9:GvP 88 onA 9:=by
 intro ps pt p p2 p3 p4 p5 p6 ns cs nt ct n c n2 c2 n3 c3 n4 c4 n5 c5 L c6 A B K a b g hK ok aa ac ad w hT D h2 h3 h4 h5 h6;obtain ⟨E,M,ab,hE,eg⟩:=ok;obtain ⟨R,O⟩:∃ R,onA 9 K a b g=R:=⟨_,rfl⟩
 rw [O];obtain ⟨G,I⟩:∃ G,g.2.getD 0 0=G:=⟨_,rfl⟩
 have J:Hid (∃ q o,p6=some ⟨q,o,none⟩/\w.cell? ⟨q,o,none⟩=some (.int .i64 G)/\0 < L):=by
  have D:0 < g.2.length:=by rw [M.1.2];exact a_B M.1.1.2.1
  obtain ⟨p_,c_,e_,hv⟩:=h6.view;cases e_;obtain ⟨q',o',e1,U⟩:=hv 0 D;rw [I,Nat.add_zero] at U;exact ⟨q',o',e1,U,D⟩
 have cc:Hid (∀ W,Below w.heap.size w W->Calls Tryz.prog 67 #[.slice p n c,.int .i64 G] W fun e V=>∃ v',e = .returned (.tuple #[v',.int .i64 0])/\TRes V W.heap.size v' R.1 R.2/\Below W.heap.size W V):=fun W hW=>by
  rw [<- O];have:=c_O (.slice p n c) a.1 E.2.1 G W (D.up hW);rw [show l_3 a.1=0 from if_pos E.1.1,show d_V a.1=a.1 from if_pos E.1.1,show l_4 a.1 G=List.replicate (a_e (ntl a.1)) G from if_pos E.1.1,<- I] at this;rw [<- I];exact this
 clear D h2 h3 h4 h5 h6;obtain ⟨q6,o6,rfl,d6,H⟩:=J.out;exact (m_L ps pt p p2 p3 p4 p5 ns cs nt ct n c n2 c2 n3 c3 n4 c4 n5 c5 L c6 A B K q6 o6 G R w H d6 _ (fun _=>rfl)).1 cc
theorem t_I:GvP 88 onA 10:=by
 intro ps pt p p2 p3 p4 p5 p6 ns cs nt ct n c n2 c2 n3 c3 n4 c4 n5 c5 U c6 A B K a b g hK ok aa ac ad w hT D h2 h3 h4 h5 h6;obtain ⟨M,J,ab,hE,eg⟩:=ok;obtain ⟨R,V⟩:∃ R,onA 10 K a b g=R:=⟨_,rfl⟩
 rw [V];obtain ⟨G,H⟩:∃ G,g.2.getD 0 0=G:=⟨_,rfl⟩
 have O:Hid (∃ q o,p6=some ⟨q,o,none⟩/\w.cell? ⟨q,o,none⟩=some (.int .i64 G)/\0 < U):=by
  have D:0 < g.2.length:=by rw [J.1.2];exact a_B J.1.1.2.1
  obtain ⟨p_,c_,e_,hv⟩:=h6.view;cases e_;obtain ⟨q',o',e1,e2⟩:=hv 0 D;rw [H,Nat.add_zero] at e2;exact ⟨q',o',e1,e2,D⟩
 have cc:Hid (∀ W,Below w.heap.size w W->Calls Tryz.prog 109 #[.int .i64 G,.slice p n c] W fun e E=>∃ I,e = .returned (.tuple #[I,.int .i64 0])/\TRes E W.heap.size I R.1 R.2/\Below W.heap.size W E):=fun W hW=>by
  rw [<- V];have:=i_N p n c a.1 G (by rw [<- H];exact d_d J.2.2 0) M.1.1 W (D.up hW);rw [<- H,<- M.1.2] at this;rw [<- H];show Calls _ _ _ _ fun e E=>∃ I,e=_/\TRes E _ I a.1 (List.replicate (a_e (ntl a.1)) (Fx.hold (rqI (g.2.getD 0 0) (a.2.length:Int))))/\_;rw [<- M.1.2];exact this
 clear D h2 h3 h4 h5 h6;obtain ⟨q6,o6,rfl,d6,L⟩:=O.out;exact (m_L ps pt p p2 p3 p4 p5 ns cs nt ct n c n2 c2 n3 c3 n4 c4 n5 c5 U c6 A B K q6 o6 G R w L d6 _ (fun _=>rfl)).2 cc
theorem j_4 (ps pt p p2 p3 p4 V p6:Option Addr) (ns cs nt ct n c n2 O H c3 n4 c4 n5 c5 U c6:Nat) (A B K:Int) (M L:Nat) (LG:Int) (R:Ten) (w:World):(1 < n->w.cell? ⟨M,L+1,none⟩=some (.int .i64 LG)->Hid (RT 111 #[.agg #[.slice V n5 c5,.slice p6 U c6],.agg #[.slice p3 H c3,.slice p4 n4 c4],.int .i64 K,.int .i64 LG] R w)->RC 88 #[.agg #[.int .i64 12,.int .i64 A,.int .i64 B,.int .i64 K,.slice ps ns cs,.slice pt nt ct],.agg #[.slice (some ⟨M,L,none⟩) n c,.slice p2 n2 O],.agg #[.slice p3 H c3,.slice p4 n4 c4],.agg #[.slice V n5 c5,.slice p6 U c6]] R w)/\(2 < H->w.cell? ⟨M,L+2,none⟩=some (.int .i64 LG)->Hid (RT 116 #[.agg #[.slice V n5 c5,.slice p6 U c6],.agg #[.slice p n c,.slice p2 n2 O],.int .i64 K,.int .i64 LG] R w)->RC 89 #[.agg #[.int .i64 12,.int .i64 A,.int .i64 B,.int .i64 K,.slice ps ns cs,.slice pt nt ct],.agg #[.slice p n c,.slice p2 n2 O],.agg #[.slice (some ⟨M,L,none⟩) H c3,.slice p4 n4 c4],.agg #[.slice V n5 c5,.slice p6 U c6]] R w):=by
 refine ⟨?_,?_⟩
 all_goals
  intro aj d6 cc
  first|have ae:(1:Int) < (n:Int):=by omega|have ae:(2:Int) < (H:Int):=by omega
  unfold RC
  first|go_enter Tryz.func88,Tryz.ntmps88|go_enter Tryz.func89,Tryz.ntmps89
  go_wp2_with fail
  generalize D:World.alloc _ _=W0;have J:=b_W (w:=w) D (by go_grown);have XR:Hid (Cel W0 (w.heap.size+4) (.slice none 0 0) (.slice none 0 0)):=a_F D (by simp [go_sem])
 have XA:Cel W0 (w.heap.size+1) (.slice (some ⟨M,L,none⟩) n c) (.slice p2 n2 O):=(a_F D (by simp [go_sem])).out;have XB:Cel W0 (w.heap.size+2) (.slice p3 H c3) (.slice p4 n4 c4):=(a_F D (by simp [go_sem])).out
 rotate_left
 have XA:Cel W0 (w.heap.size+1) (.slice p n c) (.slice p2 n2 O):=(a_F D (by simp [go_sem])).out;have XB:Cel W0 (w.heap.size+2) (.slice (some ⟨M,L,none⟩) H c3) (.slice p4 n4 c4):=(a_F D (by simp [go_sem])).out
 rotate_left
 all_goals
  obtain ⟨ad,af,_,_⟩:=XA;have ka:=a_a ad
  obtain ⟨aa,ah,_,_⟩:=XB;have kb:=a_a aa;have XG:Cel W0 (w.heap.size+3) (.slice V n5 c5) (.slice p6 U c6):=(a_F D (by simp [go_sem])).out;obtain ⟨ac,ai,_,_⟩:=XG;have kg:=a_a ac;have xk:W0.cell? ⟨w.heap.size,3,none⟩=some (.int .i64 K):=by rw [<- D];simp [go_sem]
  have kk:=a_a xk;have ab:=a_d d6 J.out;have k6:=a_a ab;clear D
  first|refine l_A [⟨8,102,TupP W0.heap.size R.1 R.2 0⟩,⟨9,103,OwnT W0.heap.size R.1 R.2⟩] 11 123 (by kernel_rfl) rfl rfl 10 _ rfl (by decide) rfl (by kernel_rfl) (by kernel_rfl) (fun _ _ _ _ h=>h) (by rfl) ?_ ?_|refine l_A [⟨8,54,TupP W0.heap.size R.1 R.2 0⟩,⟨9,55,OwnT W0.heap.size R.1 R.2⟩] 11 58 (by kernel_rfl) rfl rfl 10 _ rfl (by decide) rfl (by kernel_rfl) (by kernel_rfl) (fun _ _ _ _ h=>h) (by rfl) ?_ ?_
  ·intro e he v W W' h hb;simp only [List.mem_cons,List.not_mem_nil,or_false] at he;rcases he with rfl|rfl
   ·exact TupP.up h hb
   ·exact OwnT.up h hb
  apply Exists.intro;refine ⟨?_,?_,?_,?_⟩;rotate_left
  ·intro x;simp only [List.take_succ_cons,List.take_zero]
   iterate 8
    refine a_l rfl rfl ?_;apply Exists.intro;refine ⟨fun F hF hf K hK=>?_,?_⟩
    ·have hFc:=hF.cell;have hFf:=hF.frozen
     go_big_quiet_op
     first|exact hK|(apply Exists.intro;refine ⟨fun _=>?_,?_⟩;(· fail);exact hK)
    (try simp only [Act.put,sA_,sB_,sC_])
   refine a_o rfl rfl ?_ ?_
   ·intro F hF hf d;have hFc:=hF.cell;have hFf:=hF.frozen;simp [a_j,a_f,go_sem];refine (cc.out (F d) (a_c J.out (hF.below d))).mono ?_;rintro e' w8 ⟨v8,rfl,h8,ag⟩;exact ⟨_,rfl,⟨v8,rfl,(h8.low (hF.below d).size).own⟩,ag⟩
   (try simp only [Act.put,sA_,sB_,sC_])
   refine a_o rfl rfl ?_ ?_
   ·intro F hF hf d;have hFc:=hF.cell;have hFf:=hF.frozen;have h9:=hf _ List.mem_cons_self (by rfl) d;obtain ⟨u9,I,n9⟩:=h9;simp only [] at I n9;simp [a_j,a_f,go_sem,I];exact ⟨n9,Below.refl _ _⟩
   (try simp only [Act.put,sA_,sB_,sC_])
   refine a_l rfl rfl ?_;apply Exists.intro;refine ⟨fun F hF hf K hK=>?_,?_⟩
   ·have hFc:=hF.cell;have hFf:=hF.frozen;have h9:=hf _ List.mem_cons_self (by rfl);obtain ⟨u9,I,_⟩:=h9 W0;simp only [] at I
    go_big_quiet_op
    first|exact hK|(apply Exists.intro;refine ⟨fun _=>?_,?_⟩;(· fail);exact hK)
   (try simp only [Act.put,sA_,sB_,sC_])
   refine b_a ?_;exact rfl
  ·intro x;simp only [b_k,List.foldl_cons,List.foldl_nil,Act.put,sA_,sB_,sC_]
  rotate_left
  ·intro x hx;obtain ⟨W9,u9,I,_⟩:=hx _ List.mem_cons_self (by rfl);simp only [] at I;refine ⟨.int .i64 0,fun t ht=>?_,.inl ⟨by rfl,fun w=>?_⟩⟩
   ·cases ht;rfl
   ·simp [execOp,Act.eval,I,go_sem]
  intro zz xs E hf;simp only [List.drop_succ_cons,List.drop_zero];obtain ⟨pa,na,ca,pb,nb,cb,ev,hs,ht⟩:=hf _ (List.mem_cons_of_mem _ List.mem_cons_self);simp only [] at ev;obtain ⟨x4,e4⟩:∃ q,xs 8=q:=⟨_,rfl⟩
  simp only [ev,e4];obtain ⟨HF,r0,r1,r2,r3,z0,z1⟩:=h_m XR J E hs ht (by omega);have rk:=a_a r0;clear hs ht E hf cc ad af aa ah ac ai xk ab;go_wp2;exact bodyPost_ret (v:=.tuple #[.agg #[.slice pa na ca,.slice pb nb cb],.int .i64 0]) (by simp [results,Tryz.results88,Tryz.results89,go_sem,z0,z1]) rfl ⟨_,rfl,HF.out⟩
theorem t_J:GvP 88 onA 12:=by
 intro ps pt p p2 L p4 O p6 ns cs nt ct n c n2 c2 n3 c3 n4 c4 n5 V M c6 A B K a b g hK ok ab ac ad w hT h1 h2 h3 h4 h5 h6;obtain ⟨ga,H,D,hE,eg⟩:=ok;obtain ⟨R,eR⟩:∃ R,onA 12 K a b g=R:=⟨_,rfl⟩
 rw [eR];obtain ⟨I,eL⟩:∃ I,a.1.getD 1 0=I:=⟨_,rfl⟩
 have aa:Hid (∃ q o,p=some ⟨q,o,none⟩/\w.cell? ⟨q,o+1,none⟩=some (.int .i64 I)/\1 < n):=by
  have J:1 < a.1.length:=by
   have:=(g_o ga (D (by decide)) hE H eg).2;omega
  obtain ⟨p_,c_,e_,hv⟩:=h1.view;cases e_;obtain ⟨q',o',e1,e2⟩:=hv 1 J;rw [eL] at e2;exact ⟨q',o',e1,e2,J⟩
 have cc:Hid (∀ W,Below w.heap.size w W->Calls Tryz.prog 111 #[.agg #[.slice O n5 V,.slice p6 M c6],.agg #[.slice L n3 c3,.slice p4 n4 c4],.int .i64 K,.int .i64 I] W fun e w'=>∃ v',e = .returned (.tuple #[v',.int .i64 0])/\TRes w' W.heap.size v' R.1 R.2/\Below W.heap.size W w'):=fun W E=>by
  rw [<- eR];have:=r_2 O p6 L p4 n5 V M c6 n3 c3 n4 c4 g.1 g.2 b.1 b.2 K (a.1.getD 1 0) H.2.1 H.2.2 (D (by decide)).2.1 (D (by decide)).2.2 (g_o ga (D (by decide)) hE H eg).1.1 W (Hid.up_tz hT E) (h5.up E) (h6.up E) (h3.up E) (h4.up E);rw [(g_o ga (D (by decide)) hE H eg).1.1] at this;rw [<- eL];exact this
 clear h1 h2 h3 h4 h5 h6;obtain ⟨q6,o6,rfl,d6,U⟩:=aa.out;exact (j_4 ps pt none p2 L p4 O p6 ns cs nt ct n c n2 c2 n3 c3 n4 c4 n5 V M c6 A B K q6 o6 I R w).1 U d6 cc
theorem t_K:GvP 89 onB 12:=by
 intro ps pt p p2 p3 p4 U p6 ns cs nt ct n c n2 M n3 c3 n4 c4 n5 c5 O c6 A B K a b g hK ok ab ac ad w hT h1 h2 h3 h4 h5 h6;obtain ⟨I,H,D,hE,eg⟩:=ok;obtain ⟨R,eR⟩:∃ R,onB 12 K a b g=R:=⟨_,rfl⟩
 rw [eR];obtain ⟨J,eL⟩:∃ J,b.1.getD 2 0=J:=⟨_,rfl⟩
 have aa:Hid (∃ q o,p3=some ⟨q,o,none⟩/\w.cell? ⟨q,o+2,none⟩=some (.int .i64 J)/\2 < n3):=by
  have L:2 < b.1.length:=by
   have:=(g_o I (D (by decide)) hE H eg).2;omega
  obtain ⟨p_,c_,e_,hv⟩:=h3.view;cases e_;obtain ⟨q',o',e1,e2⟩:=hv 2 L;rw [eL] at e2;exact ⟨q',o',e1,e2,L⟩
 have cc:Hid (∀ W,Below w.heap.size w W->Calls Tryz.prog 116 #[.agg #[.slice U n5 c5,.slice p6 O c6],.agg #[.slice p n c,.slice p2 n2 M],.int .i64 K,.int .i64 J] W fun e w'=>∃ v',e = .returned (.tuple #[v',.int .i64 0])/\TRes w' W.heap.size v' R.1 R.2/\Below W.heap.size W w'):=fun W E=>by
  rw [<- eR];have:=q_F U p6 p p2 n5 c5 O c6 n c n2 M g.1 g.2 a.1 a.2 K (b.1.getD 2 0) H.2.1 H.2.2 I.2.1 I.2.2 (g_o I (D (by decide)) hE H eg).1.2 W (Hid.up_tz hT E) (h5.up E) (h6.up E) (h1.up E) (h2.up E);rw [(g_o I (D (by decide)) hE H eg).1.2] at this;rw [<- eL];exact this
 clear h1 h2 h3 h4 h5 h6;obtain ⟨q6,o6,rfl,d6,V⟩:=aa.out;exact (j_4 ps pt p p2 none p4 U p6 ns cs nt ct n c n2 M n3 c3 n4 c4 n5 c5 O c6 A B K q6 o6 J R w).2 V d6 cc
theorem q_G (op:Int) (ho:¬ (2<=op/\op<=14)) (ps J p p2 R L p5 p6:Option Addr) (ns H nt V n c n2 M n3 c3 n4 O n5 c5 U c6:Nat) (A B K:Int) (w:World):
  Calls Tryz.prog 88 #[.agg #[.int .i64 op,.int .i64 A,.int .i64 B,.int .i64 K,.slice ps ns H,.slice J nt V],.agg #[.slice p n c,.slice p2 n2 M],.agg #[.slice R n3 c3,.slice L n4 O],.agg #[.slice p5 n5 c5,.slice p6 U c6]] w fun e E=>∃ D,e = .returned (.tuple #[D,.int .i64 0])/\TRes E w.heap.size D [] []/\Below w.heap.size w E:=by
 have d2:(op==2)=false:=by simp;omega
 have d3:(op==3)=false:=by simp;omega
 have d4:(op==4)=false:=by simp;omega
 have d5:(op==5)=false:=by simp;omega
 have d6:(op==6)=false:=by simp;omega
 have d7:(op==7)=false:=by simp;omega
 have d8:(op==8)=false:=by simp;omega
 have d9:(op==9)=false:=by simp;omega
 have aa:(op==10)=false:=by simp;omega
 have ac:(op==11)=false:=by simp;omega
 have ad:(op==12)=false:=by simp;omega
 have ab:(op==13)=false:=by simp;omega
 have I:(op==14)=false:=by simp;omega
 clear ho;go_enter Tryz.func88,Tryz.ntmps88;go_wp2;exact bodyPost_ret (v:=.tuple #[.agg #[.slice none 0 0,.slice none 0 0],.int .i64 0]) (by simp [results,Tryz.results88,go_sem]) rfl ⟨_,rfl,TRes.none _ _,by go_grown⟩
theorem m_M (op:Int) (V:¬ d_A op) (ps I p p2 O J p5 p6:Option Addr) (ns H nt U n c n2 L n3 c3 n4 M n5 c5 R c6:Nat) (A B K:Int) (w:World):
  Calls Tryz.prog 89 #[.agg #[.int .i64 op,.int .i64 A,.int .i64 B,.int .i64 K,.slice ps ns H,.slice I nt U],.agg #[.slice p n c,.slice p2 n2 L],.agg #[.slice O n3 c3,.slice J n4 M],.agg #[.slice p5 n5 c5,.slice p6 R c6]] w fun e E=>∃ D,e = .returned (.tuple #[D,.int .i64 0])/\TRes E w.heap.size D [] []/\Below w.heap.size w E:=by
 have d2:(op==2)=false:=by simp;omega
 have d3:(op==3)=false:=by simp;omega
 have d4:(op==4)=false:=by simp;omega
 have d6:(op==6)=false:=by simp;omega
 have aa:(op==12)=false:=by simp;omega
 clear V;go_enter Tryz.func89,Tryz.ntmps89;go_wp2;exact bodyPost_ret (v:=.tuple #[.agg #[.slice none 0 0,.slice none 0 0],.int .i64 0]) (by simp [results,Tryz.results89,go_sem]) rfl ⟨_,rfl,TRes.none _ _,by go_grown⟩
end Go.Proofs.YtjlofobnmjompaaGreatDoor.Wd
