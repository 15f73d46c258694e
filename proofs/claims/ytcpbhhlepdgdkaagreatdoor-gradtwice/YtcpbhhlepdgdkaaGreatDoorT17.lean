/- The code's giveA and giveB: the document -/
import Derived.Test.YtcpbhhlepdgdkaaGreatDoorT15
import Derived.Test.YtcpbhhlepdgdkaaGreatDoorT16
set_option linter.unusedVariables false
set_option linter.unusedSimpArgs false
set_option maxHeartbeats 16000000
set_option maxRecDepth 16000
namespace Go.Proofs.YtcpbhhlepdgdkaaGreatDoor.Wd
open Go.RowKit Fx
/-- What giveA, giveB tell at one Op. -/
def GvP (f:Nat) (h:Int->Int->Ten->Ten->Ten->Ten) (op:Int):Prop:=∀ (ps pt p p2 p3 p4 p5 p6:Option Addr) (ns cs nt ct n c n2 c2 n3 c3 n4 c4 n5 c5 n6 c6:Nat) (A B K:Int) (a b g:Ten) (hK:InR K) (ok:OkP op K a b g) (hc2:n2<=c2) (hc4:n4<=c4) (hc6:n6<=c6) (w:World) (hT:Hid (Tz w)) (h1:Nums .i64 w (.slice p n c) a.1) (h2:Nums .i64 w (.slice p2 n2 c2) a.2) (h3:Nums .i64 w (.slice p3 n3 c3) b.1) (h4:Nums .i64 w (.slice p4 n4 c4) b.2) (h5:Nums .i64 w (.slice p5 n5 c5) g.1) (h6:Nums .i64 w (.slice p6 n6 c6) g.2),
  Calls Tryz.prog f #[.agg #[.int .i64 op,.int .i64 A,.int .i64 B,.int .i64 K,.slice ps ns cs,.slice pt nt ct],.agg #[.slice p n c,.slice p2 n2 c2],.agg #[.slice p3 n3 c3,.slice p4 n4 c4],.agg #[.slice p5 n5 c5,.slice p6 n6 c6]] w fun e w'=>∃ v',e = .returned (.tuple #[v',.int .i64 0])/\TRes w' w.heap.size v' (h op K a b g).1 (h op K a b g).2/\Below w.heap.size w w'
/-- What a callee tells; what it tells in whatever world comes. -/
abbrev RC (f:Nat) (vs:Array Value) (R:Ten) (w:World):Prop:=Calls Tryz.prog f vs w fun e w'=>∃ v',e = .returned (.tuple #[v',.int .i64 0])/\TRes w' w.heap.size v' R.1 R.2/\Below w.heap.size w w'
def RT (f:Nat) (vs:Array Value) (R:Ten) (w:World):Prop:=∀ W,Below w.heap.size w W->RC f vs R W
theorem d_O (ps pt p p2 O p4 H I:Option Addr) (ns cs nt ct n c n2 c2 U V n4 c4 E L J D:Nat) (A B K:Int) (R:Ten) (w:World) (X:Int->Array Value) (hX:∀ op,X op=#[.agg #[.int .i64 op,.int .i64 A,.int .i64 B,.int .i64 K,.slice ps ns cs,.slice pt nt ct],.agg #[.slice p n c,.slice p2 n2 c2],.agg #[.slice O U V,.slice p4 n4 c4],.agg #[.slice H E L,.slice I J D]]):(Hid (RT 92 #[.agg #[.slice H E L,.slice I J D],.slice p n c] R w)->RC 77 (X 2) R w)/\(Hid (RT 92 #[.agg #[.slice H E L,.slice I J D],.slice p n c] R w)->RC 77 (X 3) R w)/\(Hid (RT 93 #[.agg #[.slice H E L,.slice I J D],.agg #[.slice O U V,.slice p4 n4 c4],.slice p n c] R w)->RC 77 (X 4) R w)/\(Hid (RT 94 #[.agg #[.slice H E L,.slice I J D],.int .i64 K] R w)->RC 77 (X 5) R w)/\(Hid (RT 95 #[.agg #[.slice H E L,.slice I J D],.agg #[.slice O U V,.slice p4 n4 c4]] R w)->RC 77 (X 6) R w)/\(Hid (RT 96 #[.agg #[.slice H E L,.slice I J D]] R w)->RC 77 (X 7) R w)/\(Hid (RT 97 #[.agg #[.slice H E L,.slice I J D],.slice p n c,.int .i64 K] R w)->RC 77 (X 8) R w)/\(Hid (RT 99 #[.int .i64 K,.agg #[.slice p n c,.slice p2 n2 c2],.agg #[.slice H E L,.slice I J D]] R w)->RC 77 (X 11) R w)/\(Hid (RT 102 #[.agg #[.slice H E L,.slice I J D],.slice p n c] R w)->RC 77 (X 14) R w)/\(Hid (RT 101 #[.agg #[.slice H E L,.slice I J D],.agg #[.slice p n c,.slice p2 n2 c2],.int .i64 K] R w)->RC 77 (X 13) R w)/\(Hid (RT 92 #[.agg #[.slice H E L,.slice I J D],.slice O U V] R w)->RC 78 (X 2) R w)/\(Hid (RT 103 #[.agg #[.slice H E L,.slice I J D],.slice O U V] R w)->RC 78 (X 3) R w)/\(Hid (RT 93 #[.agg #[.slice H E L,.slice I J D],.agg #[.slice p n c,.slice p2 n2 c2],.slice O U V] R w)->RC 78 (X 4) R w)/\(Hid (RT 104 #[.agg #[.slice p n c,.slice p2 n2 c2],.agg #[.slice H E L,.slice I J D]] R w)->RC 78 (X 6) R w):=by
 refine ⟨?_,?_,?_,?_,?_,?_,?_,?_,?_,?_,?_,?_,?_,?_⟩
 all_goals
  intro cc;rw [hX];clear hX;unfold RC
  first|go_enter Tryz.func77,Tryz.ntmps77|go_enter Tryz.func78,Tryz.ntmps78
  go_wp2_with fail
  generalize M:World.alloc _ _=W0;have aa:=b_1 (w:=w) M (by go_grown);have XR:Hid (Cel W0 (w.heap.size+4) (.slice none 0 0) (.slice none 0 0)):=a_F M (by simp [go_sem]);clear M;refine (cc.out W0 aa.out).mono ?_;rintro e w1 ⟨v1,rfl,⟨s1,t1,rfl,hs,ht⟩,ab⟩;obtain ⟨pa,na,ca,rfl⟩:=hs.form_;obtain ⟨pb,nb,cb,rfl⟩:=ht.form_;clear cc;obtain ⟨HF,r0,r1,r2,r3,z0,z1⟩:=h_v XR aa ab hs ht (by omega);clear hs ht;go_wp2;exact bodyPost_ret (v:=.tuple #[.agg #[.slice pa na ca,.slice pb nb cb],.int .i64 0]) (by simp [results,Tryz.results77,Tryz.results78,go_sem,z0,z1]) rfl ⟨_,rfl,HF.out⟩
theorem ga2:GvP 77 onA 2:=by
 intro ps pt p p2 V p4 L M ns cs nt ct n c n2 c2 n3 c3 n4 c4 J U R I A B K a b g hK ok aa ab ac w hT h1 h2 h3 h4 h5 h6;obtain ⟨O,E,D,hE,eg⟩:=ok;refine (d_O ps pt p p2 V p4 L M ns cs nt ct n c n2 c2 n3 c3 n4 c4 J U R I A B K _ w _ (fun _=>rfl)).1 (show Hid _ from fun W H=>?_);have o:=e_F O (D (by decide)) hE E eg;have:=e_j L M p J U R I n c g.1 g.2 a.1 E.2.1 E.2.2 O.2.1 o.1.1 W (h5.up H) (h6.up H) (h1.up H);rw [o.1.1] at this;exact this
theorem ga3:GvP 77 onA 3:=by
 intro ps pt p p2 V p4 L M ns cs nt ct n c n2 c2 n3 c3 n4 c4 J U R I A B K a b g hK ok aa ab ac w hT h1 h2 h3 h4 h5 h6;obtain ⟨O,E,D,hE,eg⟩:=ok;refine (d_O ps pt p p2 V p4 L M ns cs nt ct n c n2 c2 n3 c3 n4 c4 J U R I A B K _ w _ (fun _=>rfl)).2.1 (show Hid _ from fun W H=>?_);have o:=e_F O (D (by decide)) hE E eg;have:=e_j L M p J U R I n c g.1 g.2 a.1 E.2.1 E.2.2 O.2.1 o.1.1 W (h5.up H) (h6.up H) (h1.up H);rw [o.1.1] at this;exact this
theorem ga4:GvP 77 onA 4:=by
 intro ps pt p p2 J p4 O V ns cs nt ct n c n2 c2 R c3 U c4 M c5 n6 L A B K a b g hK ok aa H I w hT h1 h2 h3 h4 h5 h6;obtain ⟨ga,gg,D,hE,eg⟩:=ok;refine (d_O ps pt p p2 J p4 O V ns cs nt ct n c n2 c2 R c3 U c4 M c5 n6 L A B K _ w _ (fun _=>rfl)).2.2.1 (show Hid _ from fun W E=>?_);have o:=e_F ga (D (by decide)) hE gg eg;exact f_S O V M c5 n6 L J p4 R c3 U c4 p n c g b a.1 gg (D (by decide)) ga.2.1 o.2.2.1.1 o.2.2.1.2.2 o.2.2.1.2.1 W (h5.up E) (h6.up E) I (h3.up E) (h4.up E) H (h1.up E)
theorem ga8:GvP 77 onA 8:=by
 intro ps pt p p2 U p4 I J ns cs nt ct n c n2 c2 n3 c3 n4 c4 H R O E A B K a b g hK ok ab ac ad w hT h1 h2 h3 h4 h5 h6;obtain ⟨L,M,aa,hE,V⟩:=ok;refine (d_O ps pt p p2 U p4 I J ns cs nt ct n c n2 c2 n3 c3 n4 c4 H R O E A B K _ w _ (fun _=>rfl)).2.2.2.2.2.2.1 (show Hid _ from fun W D=>?_);obtain ⟨s,rfl,hs,o1,o2,o3⟩:=o_H L hE M V;exact i_X I J H R O E p n c g a.1 _ s M L.1.1 hs o1 o2 o3 W (h5.up D) (h6.up D) (h1.up D)
theorem t_O:GvP 77 onA 11:=by
 intro ps pt p V p3 p4 M O ns cs nt ct n c U R n3 c3 n4 c4 L c5 n6 J A B K a b g hK ok ab ac ad w hT h1 h2 h3 h4 h5 h6;obtain ⟨D,E,aa,hE,I⟩:=ok;refine (d_O ps pt p V p3 p4 M O ns cs nt ct n c U R n3 c3 n4 c4 L c5 n6 J A B K _ w _ (fun _=>rfl)).2.2.2.2.2.2.2.1 (show Hid _ from fun W H=>?_);have:=o_E K p V M O n c U R L c5 n6 J a.1 a.2 g.1 g.2 D.2.1 D.2.2 E.2.1 E.2.2 (m_L D hE E I) W (h1.up H) (h2.up H) (h5.up H) (h6.up H);rw [m_L D hE E I] at this;exact this
theorem t_Y:GvP 77 onA 14:=by
 intro ps pt p p2 U p4 I J ns cs nt ct n c n2 c2 n3 c3 n4 c4 H R O E A B K a b g hK ok ab ac ad w hT h1 h2 h3 h4 h5 h6;obtain ⟨L,M,aa,hE,V⟩:=ok;refine (d_O ps pt p p2 U p4 I J ns cs nt ct n c n2 c2 n3 c3 n4 c4 H R O E A B K _ w _ (fun _=>rfl)).2.2.2.2.2.2.2.2.1 (show Hid _ from fun W D=>?_);have:=d_c I J p H R O E n c g.1 g.2 a.1 M.2.1 L.2.1 W (h5.up D) (h6.up D) (h1.up D);rw [q_S L hE M V] at this;exact this
theorem t_Z:GvP 77 onA 13:=by
 intro ps pt p R p3 p4 J L ns cs nt ct n c O M n3 c3 n4 c4 I c5 n6 H A B K a b g hK ok E ab ac w hT h1 h2 h3 h4 h5 h6;obtain ⟨U,V,aa,hE,eg⟩:=ok;refine (d_O ps pt p R p3 p4 J L ns cs nt ct n c O M n3 c3 n4 c4 I c5 n6 H A B K _ w _ (fun _=>rfl)).2.2.2.2.2.2.2.2.2.1 (show Hid _ from fun W D=>?_);obtain ⟨o1,o2,o3⟩:=q_T U hE V eg;exact i_Z J L I c5 n6 H p R n c O M g a K V U hE o1 o2 o3 W (h5.up D) (h6.up D) (h1.up D) (h2.up D) E
theorem gb2:GvP 78 onB 2:=by
 intro ps pt p p2 I p4 M R ns cs nt ct n c n2 c2 O c3 n4 c4 L V U J A B K a b g hK ok aa ab ac w hT h1 h2 h3 h4 h5 h6;obtain ⟨ga,E,D,hE,eg⟩:=ok;refine (d_O ps pt p p2 I p4 M R ns cs nt ct n c n2 c2 O c3 n4 c4 L V U J A B K _ w _ (fun _=>rfl)).2.2.2.2.2.2.2.2.2.2.1 (show Hid _ from fun W H=>?_);have o:=e_F ga (D (by decide)) hE E eg;have:=e_j M R I L V U J O c3 g.1 g.2 b.1 E.2.1 E.2.2 (D (by decide)).2.1 o.1.2 W (h5.up H) (h6.up H) (h3.up H);rw [o.1.2] at this;exact this
theorem gb3:GvP 78 onB 3:=by
 intro ps pt p p2 I p4 M R ns cs nt ct n c n2 c2 O c3 n4 c4 L c5 V J A B K a b g hK ok aa ab E w hT h1 h2 h3 h4 h5 h6;obtain ⟨ga,U,D,hE,eg⟩:=ok;refine (d_O ps pt p p2 I p4 M R ns cs nt ct n c n2 c2 O c3 n4 c4 L c5 V J A B K _ w _ (fun _=>rfl)).2.2.2.2.2.2.2.2.2.2.2.1 (show Hid _ from fun W H=>?_);have o:=e_F ga (D (by decide)) hE U eg;exact k_T M R L c5 V J I O c3 g b.1 U (D (by decide)).2.1 o.2.1.2 o.2.1.1 W (h5.up H) (h6.up H) E (h3.up H)
theorem gb4:GvP 78 onB 4:=by
 intro ps pt p p2 J p4 O U ns cs nt ct n c n2 V R c3 n4 c4 M c5 n6 L A B K a b g hK ok H aa I w hT h1 h2 h3 h4 h5 h6;obtain ⟨ga,gg,D,hE,eg⟩:=ok;refine (d_O ps pt p p2 J p4 O U ns cs nt ct n c n2 V R c3 n4 c4 M c5 n6 L A B K _ w _ (fun _=>rfl)).2.2.2.2.2.2.2.2.2.2.2.2.1 (show Hid _ from fun W E=>?_);have o:=e_F ga (D (by decide)) hE gg eg;exact f_S O U M c5 n6 L p p2 n c n2 V J R c3 g a b.1 gg ga (D (by decide)).2.1 o.2.2.2.1 o.2.2.2.2.2 o.2.2.2.2.1 W (h5.up E) (h6.up E) I (h1.up E) (h2.up E) H (h3.up E)
theorem m_R (ps pt p p2 p3 p4 p5:Option Addr) (ns cs nt ct n c n2 c2 n3 c3 n4 c4 n5 c5 O c6:Nat) (A B K:Int) (q6 o6:Nat) (G:Int) (R:Ten) (w:World) (ad:0 < O) (d6:w.cell? ⟨q6,o6,none⟩=some (.int .i64 G)) (X:Int->Array Value) (hX:∀ op,X op=#[.agg #[.int .i64 op,.int .i64 A,.int .i64 B,.int .i64 K,.slice ps ns cs,.slice pt nt ct],.agg #[.slice p n c,.slice p2 n2 c2],.agg #[.slice p3 n3 c3,.slice p4 n4 c4],.agg #[.slice p5 n5 c5,.slice (some ⟨q6,o6,none⟩) O c6]]):(Hid (RT 57 #[.slice p n c,.int .i64 G] R w)->RC 77 (X 9) R w)/\(Hid (RT 98 #[.int .i64 G,.slice p n c] R w)->RC 77 (X 10) R w):=by
 have ac:(0:Int) < (O:Int):=by omega
 refine ⟨?_,?_⟩
 all_goals
  intro cc;rw [hX];clear hX;unfold RC;go_enter Tryz.func77,Tryz.ntmps77;go_wp2_with fail
  generalize D:World.alloc _ _=W0;have H:=b_1 (w:=w) D (by go_grown);have XR:Hid (Cel W0 (w.heap.size+4) (.slice none 0 0) (.slice none 0 0)):=a_F D (by simp [go_sem]);have XA:Cel W0 (w.heap.size+1) (.slice p n c) (.slice p2 n2 c2):=(a_F D (by simp [go_sem])).out;obtain ⟨L,aa,_,_⟩:=XA;have ka:=a_a L;have XG:Cel W0 (w.heap.size+3) (.slice p5 n5 c5) (.slice (some ⟨q6,o6,none⟩) O c6):=(a_F D (by simp [go_sem])).out;obtain ⟨M,V,_,_⟩:=XG;have kg:=a_a M;have J:=a_d d6 H.out;have k6:=a_a J;clear D
  first|refine l_F [⟨6,69,TupP W0.heap.size R.1 R.2 0⟩,⟨7,70,OwnT W0.heap.size R.1 R.2⟩] 9 123 (by kernel_rfl) rfl rfl 8 _ rfl (by decide) rfl (by kernel_rfl) (by kernel_rfl) (fun _ _ _ _ h=>h) (by rfl) ?_ ?_|refine l_F [⟨6,80,TupP W0.heap.size R.1 R.2 0⟩,⟨7,81,OwnT W0.heap.size R.1 R.2⟩] 9 123 (by kernel_rfl) rfl rfl 8 _ rfl (by decide) rfl (by kernel_rfl) (by kernel_rfl) (fun _ _ _ _ h=>h) (by rfl) ?_ ?_
  ·intro e he v W W' h hb;simp only [List.mem_cons,List.not_mem_nil,or_false] at he;rcases he with rfl|rfl
   ·exact TupP.up h hb
   ·exact OwnT.up h hb
  apply Exists.intro;refine ⟨?_,?_,?_,?_⟩;rotate_left
  ·intro x;simp only [List.take_succ_cons,List.take_zero]
   iterate 6
    refine a_l rfl rfl ?_;apply Exists.intro;refine ⟨fun F hF hf K hK=>?_,?_⟩
    ·have hFc:=hF.cell;have hFf:=hF.frozen
     go_big_quiet_op
     first|exact hK|(apply Exists.intro;refine ⟨fun _=>?_,?_⟩;(· fail);exact hK)
    (try simp only [Act.put,sA_,sB_,sC_])
   refine a_q rfl rfl ?_ ?_
   ·intro F hF hf d;have hFc:=hF.cell;have hFf:=hF.frozen;simp [a_k,a_f,go_sem];refine (cc.out (F d) (a_c H.out (hF.below d))).mono ?_;rintro e' w8 ⟨v8,rfl,h8,ab⟩;exact ⟨_,rfl,⟨v8,rfl,(h8.low (hF.below d).size).own⟩,ab⟩
   (try simp only [Act.put,sA_,sB_,sC_])
   refine a_q rfl rfl ?_ ?_
   ·intro F hF hf d;have hFc:=hF.cell;have hFf:=hF.frozen;have h9:=hf _ List.mem_cons_self (by rfl) d;obtain ⟨u9,I,n9⟩:=h9;simp only [] at I n9;simp [a_k,a_f,go_sem,I];exact ⟨n9,Below.refl _ _⟩
   (try simp only [Act.put,sA_,sB_,sC_])
   refine a_l rfl rfl ?_;apply Exists.intro;refine ⟨fun F hF hf K hK=>?_,?_⟩
   ·have hFc:=hF.cell;have hFf:=hF.frozen;have h9:=hf _ List.mem_cons_self (by rfl);obtain ⟨u9,I,_⟩:=h9 W0;simp only [] at I
    go_big_quiet_op
    first|exact hK|(apply Exists.intro;refine ⟨fun _=>?_,?_⟩;(· fail);exact hK)
   (try simp only [Act.put,sA_,sB_,sC_])
   refine b_c ?_;exact rfl
  ·intro x;simp only [b_l,List.foldl_cons,List.foldl_nil,Act.put,sA_,sB_,sC_]
  rotate_left
  ·intro x hx;obtain ⟨W9,u9,I,_⟩:=hx _ List.mem_cons_self (by rfl);simp only [] at I;refine ⟨.int .i64 0,fun t U=>?_,.inl ⟨by rfl,fun w=>?_⟩⟩
   ·cases U;rfl
   ·simp [execOp,Act.eval,I,go_sem]
  intro zz xs E hf;simp only [List.drop_succ_cons,List.drop_zero];obtain ⟨pa,na,ca,pb,nb,cb,ev,hs,U⟩:=hf _ (List.mem_cons_of_mem _ List.mem_cons_self);simp only [] at ev;obtain ⟨x4,e4⟩:∃ q,xs 6=q:=⟨_,rfl⟩
  simp only [ev,e4];obtain ⟨HF,r0,r1,r2,r3,z0,z1⟩:=h_v XR H E hs U (by omega);have rk:=a_a r0;clear hs U E hf cc L aa M V J;go_wp2;exact bodyPost_ret (v:=.tuple #[.agg #[.slice pa na ca,.slice pb nb cb],.int .i64 0]) (by simp [results,Tryz.results77,go_sem,z0,z1]) rfl ⟨_,rfl,HF.out⟩
theorem ga9:GvP 77 onA 9:=by
 intro ps pt p p2 p3 p4 p5 p6 ns cs nt ct n c n2 c2 n3 c3 n4 c4 n5 c5 U c6 A B K a b g hK ok aa ab ac w hT D h2 h3 h4 h5 L;obtain ⟨E,O,ad,hE,eg⟩:=ok;obtain ⟨R,eR⟩:∃ R,onA 9 K a b g=R:=⟨_,rfl⟩
 rw [eR];obtain ⟨G,J⟩:∃ G,g.2.getD 0 0=G:=⟨_,rfl⟩
 have I:Hid (∃ q o,p6=some ⟨q,o,none⟩/\w.cell? ⟨q,o,none⟩=some (.int .i64 G)/\0 < U):=by
  have D:0 < g.2.length:=by rw [O.1.2];exact a_A O.1.1.2.1
  obtain ⟨p_,c_,e_,hv⟩:=L.view;cases e_;obtain ⟨q',o',e1,e2⟩:=hv 0 D;rw [J,Nat.add_zero] at e2;exact ⟨q',o',e1,e2,D⟩
 have cc:Hid (∀ W,Below w.heap.size w W->Calls Tryz.prog 57 #[.slice p n c,.int .i64 G] W fun e M=>∃ V,e = .returned (.tuple #[V,.int .i64 0])/\TRes M W.heap.size V R.1 R.2/\Below W.heap.size W M):=fun W hW=>by
  rw [<- eR];have:=c_Q (.slice p n c) a.1 E.2.1 G W (D.up hW);rw [show l_9 a.1=0 from if_pos E.1.1,show d_Y a.1=a.1 from if_pos E.1.1,show m_a a.1 G=List.replicate (a_e (ntl a.1)) G from if_pos E.1.1,<- J] at this;rw [<- J];exact this
 clear D h2 h3 h4 h5 L;obtain ⟨q6,o6,rfl,d6,H⟩:=I.out;exact (m_R ps pt p p2 p3 p4 p5 ns cs nt ct n c n2 c2 n3 c3 n4 c4 n5 c5 U c6 A B K q6 o6 G R w H d6 _ (fun _=>rfl)).1 cc
theorem t_0:GvP 77 onA 10:=by
 intro ps pt p p2 p3 p4 p5 p6 ns cs nt ct n c n2 c2 n3 c3 n4 c4 n5 c5 V c6 A B K a b g hK ok aa ab ac w hT D h2 h3 h4 h5 U;obtain ⟨O,L,ad,hE,eg⟩:=ok;obtain ⟨R,eR⟩:∃ R,onA 10 K a b g=R:=⟨_,rfl⟩
 rw [eR];obtain ⟨G,I⟩:∃ G,g.2.getD 0 0=G:=⟨_,rfl⟩
 have M:Hid (∃ q o,p6=some ⟨q,o,none⟩/\w.cell? ⟨q,o,none⟩=some (.int .i64 G)/\0 < V):=by
  have D:0 < g.2.length:=by rw [L.1.2];exact a_A L.1.1.2.1
  obtain ⟨p_,c_,e_,hv⟩:=U.view;cases e_;obtain ⟨q',o',e1,e2⟩:=hv 0 D;rw [I,Nat.add_zero] at e2;exact ⟨q',o',e1,e2,D⟩
 have cc:Hid (∀ W,Below w.heap.size w W->Calls Tryz.prog 98 #[.int .i64 G,.slice p n c] W fun e E=>∃ H,e = .returned (.tuple #[H,.int .i64 0])/\TRes E W.heap.size H R.1 R.2/\Below W.heap.size W E):=fun W hW=>by
  rw [<- eR];have:=i_Y p n c a.1 G (by rw [<- I];exact d_h L.2.2 0) O.1.1 W (D.up hW);rw [<- I,<- O.1.2] at this;rw [<- I];show Calls _ _ _ _ fun e E=>∃ H,e=_/\TRes E _ H a.1 (List.replicate (a_e (ntl a.1)) (Fx.hold (rqI (g.2.getD 0 0) (a.2.length:Int))))/\_;rw [<- O.1.2];exact this
 clear D h2 h3 h4 h5 U;obtain ⟨q6,o6,rfl,d6,J⟩:=M.out;exact (m_R ps pt p p2 p3 p4 p5 ns cs nt ct n c n2 c2 n3 c3 n4 c4 n5 c5 V c6 A B K q6 o6 G R w J d6 _ (fun _=>rfl)).2 cc
theorem k_d (ps pt p p2 p3 p4 O p6:Option Addr) (ns cs nt ct n c V c2 H c3 n4 c4 n5 c5 n6 c6:Nat) (A B K:Int) (L M:Nat) (LG:Int) (R:Ten) (w:World):(1 < n->w.cell? ⟨L,M+1,none⟩=some (.int .i64 LG)->Hid (RT 100 #[.agg #[.slice O n5 c5,.slice p6 n6 c6],.agg #[.slice p3 H c3,.slice p4 n4 c4],.int .i64 K,.int .i64 LG] R w)->RC 77 #[.agg #[.int .i64 12,.int .i64 A,.int .i64 B,.int .i64 K,.slice ps ns cs,.slice pt nt ct],.agg #[.slice (some ⟨L,M,none⟩) n c,.slice p2 V c2],.agg #[.slice p3 H c3,.slice p4 n4 c4],.agg #[.slice O n5 c5,.slice p6 n6 c6]] R w)/\(2 < H->w.cell? ⟨L,M+2,none⟩=some (.int .i64 LG)->Hid (RT 105 #[.agg #[.slice O n5 c5,.slice p6 n6 c6],.agg #[.slice p n c,.slice p2 V c2],.int .i64 K,.int .i64 LG] R w)->RC 78 #[.agg #[.int .i64 12,.int .i64 A,.int .i64 B,.int .i64 K,.slice ps ns cs,.slice pt nt ct],.agg #[.slice p n c,.slice p2 V c2],.agg #[.slice (some ⟨L,M,none⟩) H c3,.slice p4 n4 c4],.agg #[.slice O n5 c5,.slice p6 n6 c6]] R w):=by
 refine ⟨?_,?_⟩
 all_goals
  intro ai d6 cc
  first|have ab:(1:Int) < (n:Int):=by omega|have ab:(2:Int) < (H:Int):=by omega
  unfold RC
  first|go_enter Tryz.func77,Tryz.ntmps77|go_enter Tryz.func78,Tryz.ntmps78
  go_wp2_with fail
  generalize D:World.alloc _ _=W0;have I:=b_1 (w:=w) D (by go_grown);have XR:Hid (Cel W0 (w.heap.size+4) (.slice none 0 0) (.slice none 0 0)):=a_F D (by simp [go_sem])
 have XA:Cel W0 (w.heap.size+1) (.slice (some ⟨L,M,none⟩) n c) (.slice p2 V c2):=(a_F D (by simp [go_sem])).out;have XB:Cel W0 (w.heap.size+2) (.slice p3 H c3) (.slice p4 n4 c4):=(a_F D (by simp [go_sem])).out;rotate_left;have XA:Cel W0 (w.heap.size+1) (.slice p n c) (.slice p2 V c2):=(a_F D (by simp [go_sem])).out;have XB:Cel W0 (w.heap.size+2) (.slice (some ⟨L,M,none⟩) H c3) (.slice p4 n4 c4):=(a_F D (by simp [go_sem])).out;rotate_left
 all_goals
  obtain ⟨aa,af,_,_⟩:=XA;have ka:=a_a aa;obtain ⟨ac,ah,_,_⟩:=XB;have kb:=a_a ac;have XG:Cel W0 (w.heap.size+3) (.slice O n5 c5) (.slice p6 n6 c6):=(a_F D (by simp [go_sem])).out;obtain ⟨ad,ae,_,_⟩:=XG;have kg:=a_a ad;have xk:W0.cell? ⟨w.heap.size,3,none⟩=some (.int .i64 K):=by rw [<- D];simp [go_sem]
  have kk:=a_a xk;have U:=a_d d6 I.out;have k6:=a_a U;clear D
  first|refine l_F [⟨8,102,TupP W0.heap.size R.1 R.2 0⟩,⟨9,103,OwnT W0.heap.size R.1 R.2⟩] 11 123 (by kernel_rfl) rfl rfl 10 _ rfl (by decide) rfl (by kernel_rfl) (by kernel_rfl) (fun _ _ _ _ h=>h) (by rfl) ?_ ?_|refine l_F [⟨8,54,TupP W0.heap.size R.1 R.2 0⟩,⟨9,55,OwnT W0.heap.size R.1 R.2⟩] 11 58 (by kernel_rfl) rfl rfl 10 _ rfl (by decide) rfl (by kernel_rfl) (by kernel_rfl) (fun _ _ _ _ h=>h) (by rfl) ?_ ?_
  ·intro e he v W W' h hb;simp only [List.mem_cons,List.not_mem_nil,or_false] at he;rcases he with rfl|rfl
   ·exact TupP.up h hb
   ·exact OwnT.up h hb
  apply Exists.intro;refine ⟨?_,?_,?_,?_⟩;rotate_left
  ·intro x;simp only [List.take_succ_cons,List.take_zero]
   iterate 8
    refine a_l rfl rfl ?_;apply Exists.intro;refine ⟨fun F hF hf K hK=>?_,?_⟩
    ·have hFc:=hF.cell;have hFf:=hF.frozen
     go_big_quiet_op
     first|exact hK|(apply Exists.intro;refine ⟨fun _=>?_,?_⟩;(· fail);exact hK)
    (try simp only [Act.put,sA_,sB_,sC_])
   refine a_q rfl rfl ?_ ?_
   ·intro F hF hf d;have hFc:=hF.cell;have hFf:=hF.frozen;simp [a_k,a_f,go_sem];refine (cc.out (F d) (a_c I.out (hF.below d))).mono ?_;rintro e' w8 ⟨v8,rfl,h8,ag⟩;exact ⟨_,rfl,⟨v8,rfl,(h8.low (hF.below d).size).own⟩,ag⟩
   (try simp only [Act.put,sA_,sB_,sC_])
   refine a_q rfl rfl ?_ ?_
   ·intro F hF hf d;have hFc:=hF.cell;have hFf:=hF.frozen;have h9:=hf _ List.mem_cons_self (by rfl) d;obtain ⟨u9,J,n9⟩:=h9;simp only [] at J n9;simp [a_k,a_f,go_sem,J];exact ⟨n9,Below.refl _ _⟩
   (try simp only [Act.put,sA_,sB_,sC_])
   refine a_l rfl rfl ?_;apply Exists.intro;refine ⟨fun F hF hf K hK=>?_,?_⟩
   ·have hFc:=hF.cell;have hFf:=hF.frozen;have h9:=hf _ List.mem_cons_self (by rfl);obtain ⟨u9,J,_⟩:=h9 W0;simp only [] at J
    go_big_quiet_op
    first|exact hK|(apply Exists.intro;refine ⟨fun _=>?_,?_⟩;(· fail);exact hK)
   (try simp only [Act.put,sA_,sB_,sC_])
   refine b_c ?_;exact rfl
  ·intro x;simp only [b_l,List.foldl_cons,List.foldl_nil,Act.put,sA_,sB_,sC_]
  rotate_left
  ·intro x hx;obtain ⟨W9,u9,J,_⟩:=hx _ List.mem_cons_self (by rfl);simp only [] at J;refine ⟨.int .i64 0,fun t ht=>?_,.inl ⟨by rfl,fun w=>?_⟩⟩
   ·cases ht;rfl
   ·simp [execOp,Act.eval,J,go_sem]
  intro zz xs E hf;simp only [List.drop_succ_cons,List.drop_zero];obtain ⟨pa,na,ca,pb,nb,cb,ev,hs,ht⟩:=hf _ (List.mem_cons_of_mem _ List.mem_cons_self);simp only [] at ev;obtain ⟨x4,e4⟩:∃ q,xs 8=q:=⟨_,rfl⟩
  simp only [ev,e4];obtain ⟨HF,r0,r1,r2,r3,z0,z1⟩:=h_v XR I E hs ht (by omega);have rk:=a_a r0;clear hs ht E hf cc aa af ac ah ad ae xk U;go_wp2;exact bodyPost_ret (v:=.tuple #[.agg #[.slice pa na ca,.slice pb nb cb],.int .i64 0]) (by simp [results,Tryz.results77,Tryz.results78,go_sem,z0,z1]) rfl ⟨_,rfl,HF.out⟩
theorem t_1:GvP 77 onA 12:=by
 intro ps pt p p2 p3 p4 L p6 ns cs nt ct n c n2 c2 O c3 n4 c4 n5 c5 U c6 A B K a b g hK ok ab ac ad w hT h1 h2 h3 h4 h5 h6;obtain ⟨ga,E,D,V,eg⟩:=ok;obtain ⟨R,eR⟩:∃ R,onA 12 K a b g=R:=⟨_,rfl⟩
 rw [eR];obtain ⟨J,eL⟩:∃ J,a.1.getD 1 0=J:=⟨_,rfl⟩
 have aa:Hid (∃ q o,p=some ⟨q,o,none⟩/\w.cell? ⟨q,o+1,none⟩=some (.int .i64 J)/\1 < n):=by
  have I:1 < a.1.length:=by
   have:=(g_u ga (D (by decide)) V E eg).2;omega
  obtain ⟨p_,c_,e_,hv⟩:=h1.view;cases e_;obtain ⟨q',o',e1,e2⟩:=hv 1 I;rw [eL] at e2;exact ⟨q',o',e1,e2,I⟩
 have cc:Hid (∀ W,Below w.heap.size w W->Calls Tryz.prog 100 #[.agg #[.slice L n5 c5,.slice p6 U c6],.agg #[.slice p3 O c3,.slice p4 n4 c4],.int .i64 K,.int .i64 J] W fun e w'=>∃ v',e = .returned (.tuple #[v',.int .i64 0])/\TRes w' W.heap.size v' R.1 R.2/\Below W.heap.size W w'):=fun W H=>by
  rw [<- eR];have:=s_h L p6 p3 p4 n5 c5 U c6 O c3 n4 c4 g.1 g.2 b.1 b.2 K (a.1.getD 1 0) E.2.1 E.2.2 (D (by decide)).2.1 (D (by decide)).2.2 (g_u ga (D (by decide)) V E eg).1.1 W (Hid.up_tz hT H) (h5.up H) (h6.up H) (h3.up H) (h4.up H);rw [(g_u ga (D (by decide)) V E eg).1.1] at this;rw [<- eL];exact this
 clear h1 h2 h3 h4 h5 h6;obtain ⟨q6,o6,rfl,d6,M⟩:=aa.out;exact (k_d ps pt none p2 p3 p4 L p6 ns cs nt ct n c n2 c2 O c3 n4 c4 n5 c5 U c6 A B K q6 o6 J R w).1 M d6 cc
theorem t_2:GvP 78 onB 12:=by
 intro ps pt p V p3 p4 M p6 ns cs nt ct n c U c2 n3 c3 n4 c4 n5 c5 n6 c6 A B K a b g hK ok ab ac ad w hT h1 h2 h3 h4 h5 h6;obtain ⟨L,E,D,hE,eg⟩:=ok;obtain ⟨R,eR⟩:∃ R,onB 12 K a b g=R:=⟨_,rfl⟩
 rw [eR];obtain ⟨J,eL⟩:∃ J,b.1.getD 2 0=J:=⟨_,rfl⟩
 have aa:Hid (∃ q o,p3=some ⟨q,o,none⟩/\w.cell? ⟨q,o+2,none⟩=some (.int .i64 J)/\2 < n3):=by
  have I:2 < b.1.length:=by
   have:=(g_u L (D (by decide)) hE E eg).2;omega
  obtain ⟨p_,c_,e_,hv⟩:=h3.view;cases e_;obtain ⟨q',o',e1,e2⟩:=hv 2 I;rw [eL] at e2;exact ⟨q',o',e1,e2,I⟩
 have cc:Hid (∀ W,Below w.heap.size w W->Calls Tryz.prog 105 #[.agg #[.slice M n5 c5,.slice p6 n6 c6],.agg #[.slice p n c,.slice V U c2],.int .i64 K,.int .i64 J] W fun e w'=>∃ v',e = .returned (.tuple #[v',.int .i64 0])/\TRes w' W.heap.size v' R.1 R.2/\Below W.heap.size W w'):=fun W H=>by
  rw [<- eR];have:=q_U M p6 p V n5 c5 n6 c6 n c U c2 g.1 g.2 a.1 a.2 K (b.1.getD 2 0) E.2.1 E.2.2 L.2.1 L.2.2 (g_u L (D (by decide)) hE E eg).1.2 W (Hid.up_tz hT H) (h5.up H) (h6.up H) (h1.up H) (h2.up H);rw [(g_u L (D (by decide)) hE E eg).1.2] at this;rw [<- eL];exact this
 clear h1 h2 h3 h4 h5 h6;obtain ⟨q6,o6,rfl,d6,O⟩:=aa.out;exact (k_d ps pt p V none p4 M p6 ns cs nt ct n c U c2 n3 c3 n4 c4 n5 c5 n6 c6 A B K q6 o6 J R w).2 O d6 cc
theorem q_V (op:Int) (ho:¬ (2<=op/\op<=14)) (ps pt p p2 H p4 M p6:Option Addr) (ns cs O ct n c n2 c2 R c3 V c4 J c5 n6 I:Nat) (A B K:Int) (w:World):
  Calls Tryz.prog 77 #[.agg #[.int .i64 op,.int .i64 A,.int .i64 B,.int .i64 K,.slice ps ns cs,.slice pt O ct],.agg #[.slice p n c,.slice p2 n2 c2],.agg #[.slice H R c3,.slice p4 V c4],.agg #[.slice M J c5,.slice p6 n6 I]] w fun e D=>∃ E,e = .returned (.tuple #[E,.int .i64 0])/\TRes D w.heap.size E [] []/\Below w.heap.size w D:=by
 have d2:(op==2)=false:=by simp;omega
 have d3:(op==3)=false:=by simp;omega
 have d4:(op==4)=false:=by simp;omega
 have d5:(op==5)=false:=by simp;omega
 have d6:(op==6)=false:=by simp;omega
 have d7:(op==7)=false:=by simp;omega
 have d8:(op==8)=false:=by simp;omega
 have d9:(op==9)=false:=by simp;omega
 have ac:(op==10)=false:=by simp;omega
 have ab:(op==11)=false:=by simp;omega
 have U:(op==12)=false:=by simp;omega
 have L:(op==13)=false:=by simp;omega
 have aa:(op==14)=false:=by simp;omega
 clear ho;go_enter Tryz.func77,Tryz.ntmps77;go_wp2;exact bodyPost_ret (v:=.tuple #[.agg #[.slice none 0 0,.slice none 0 0],.int .i64 0]) (by simp [results,Tryz.results77,go_sem]) rfl ⟨_,rfl,TRes.none _ _,by go_grown⟩
theorem m_S (op:Int) (ho:¬ d_D op) (ps pt p p2 H p4 L V:Option Addr) (ns cs M ct n c n2 c2 O c3 U c4 J c5 n6 I:Nat) (A B K:Int) (w:World):
  Calls Tryz.prog 78 #[.agg #[.int .i64 op,.int .i64 A,.int .i64 B,.int .i64 K,.slice ps ns cs,.slice pt M ct],.agg #[.slice p n c,.slice p2 n2 c2],.agg #[.slice H O c3,.slice p4 U c4],.agg #[.slice L J c5,.slice V n6 I]] w fun e D=>∃ E,e = .returned (.tuple #[E,.int .i64 0])/\TRes D w.heap.size E [] []/\Below w.heap.size w D:=by
 have d2:(op==2)=false:=by simp;omega
 have d3:(op==3)=false:=by simp;omega
 have d4:(op==4)=false:=by simp;omega
 have d6:(op==6)=false:=by simp;omega
 have R:(op==12)=false:=by simp;omega
 clear ho;go_enter Tryz.func78,Tryz.ntmps78;go_wp2;exact bodyPost_ret (v:=.tuple #[.agg #[.slice none 0 0,.slice none 0 0],.int .i64 0]) (by simp [results,Tryz.results78,go_sem]) rfl ⟨_,rfl,TRes.none _ _,by go_grown⟩
/-- A tensor's two cells. -/
def TwC (W:World) (B:Nat) (t:Ten) (u:List Value):Prop:=∃ s v,u = [s,v]/\OwnK .i64 3 W B s t.1/\OwnK .i64 48 W B v t.2
def TsC (W:World) (B:Nat) (ts:List Ten) (xs:List Value):Prop:=xs.length=ts.length*2/\∀ i t,ts[i]?=some t->TwC W B t ((xs.drop (i*2)).take 2)
/-- A row of tensors of one's own. -/
def OwnTs (W:World) (B:Nat) (v:Value) (ts:List Ten):Prop:=∃ xs,W.ownsRow B 77 2 v ts.length xs/\TsC W B ts xs
theorem TwC.only {S:List TypeId} {W W':World} {B:Nat} {t:Ten} {u:List Value} (h:TwC W B t u) (D:Only S W W') (I:3∉S) (H:48∉S):TwC W' B t u:=by
 obtain ⟨s,v,e,J,E⟩:=h;exact ⟨s,v,e,J.only D I,E.only D H⟩
theorem OwnTs.only {S:List TypeId} {W W':World} {B:Nat} {v:Value} {D:List Ten} (h:OwnTs W B v D) (E:Only S W W') (R:3∉S) (I:48∉S) (M:77∉S):OwnTs W' B v D:=by
 obtain ⟨U,J,L,O⟩:=h;exact ⟨U,a_C J E M,L,fun i t H=>(O i t H).only E R I⟩
theorem OwnTs.up {W W':World} {B:Nat} {v:Value} {D:List Ten} (h:OwnTs W B v D) (E:Below W.heap.size W W'):OwnTs W' B v D:=h.only (S:=[]) (Only.of E) (by simp) (by simp) (by simp)
theorem OwnTs.nil (W:World) (B:Nat):OwnTs W B (.slice none 0 0) []:=⟨[],World.ownsRow_nil _ _ _ _,rfl,fun i t h=>by simp at h⟩
theorem OwnTs.low {W:World} {B L:Nat} {v:Value} {J:List Ten} (h:OwnTs W B v J) (H:L<=B):OwnTs W L v J:=by
 obtain ⟨xs,I,hl,hc⟩:=h;refine ⟨xs,⟨I.1,?_⟩,hl,fun i t O=>?_⟩
 ·rcases I.2 with U|⟨g,D,E,V,hb,rest⟩
  ·exact .inl U
  ·exact .inr ⟨g,D,E,V,Nat.le_trans H hb,rest⟩
 ·obtain ⟨s,u,e,R,M⟩:=hc i t O;exact ⟨s,u,e,R.low H,M.low H⟩
/-- What a walk reads of it. -/
theorem OwnTs.form {W:World} {B:Nat} {v:Value} {D:List Ten} (h:OwnTs W B v D):∃ p c,v = .slice p D.length c/\D.length<=c:=by
 obtain ⟨M,E,_⟩:=h;rcases E.2 with ⟨rfl,J⟩|⟨g,H,I,rfl,_,_,L,_⟩
 ·exact ⟨none,0,by rw [J],by omega⟩
 ·exact ⟨_,_,rfl,L⟩
theorem OwnTs.at {W:World} {B n c:Nat} {p:Option Addr} {H:List Ten} (h:OwnTs W B (.slice p n c) H) (i:Nat) (t:Ten) (J:H[i]?=some t):
  ∃ q s u,p=some ⟨q,0,none⟩/\W.cell? ⟨q,i*2,none⟩=some s/\W.cell? ⟨q,i*2+1,none⟩=some u/\OwnK .i64 3 W B s t.1/\OwnK .i64 48 W B u t.2:=by
 obtain ⟨I,L,hl,V⟩:=h;obtain ⟨s,u,e,O,M⟩:=V i t J;have aa:i < H.length:=(List.getElem?_eq_some_iff.1 J).1
 have E:∀ j v,((I.drop (i*2)).take 2)[j]?=some v->I[i*2+j]?=some v:=fun j v h=>by
  rw [List.getElem?_take] at h
  split at h
  ·rw [List.getElem?_drop] at h;exact h
  ·cases h
 rw [e] at E;rcases L.2 with ⟨_,h0⟩|⟨g,R,U,hv,hb,hg,rest⟩
 ·omega
 ·cases hv
  have D:∀ j v,I[j]?=some v->W.cell? ⟨g,j,none⟩=some v:=fun j v h=>by
   have:=L.cells (g:=g) rfl j v h;rw [a_t,Nat.zero_add] at this;exact this
  exact ⟨g,s,u,rfl,D _ _ (E 0 _ rfl),D _ _ (E 1 _ rfl),O,M⟩
theorem c_V {w D:World} {B:Nat} (h:Below B w D):Below B w D.drew:=h.trans ⟨rfl,rfl,rfl,Nat.le_refl _,fun _ _=>rfl⟩
theorem t_n {w W:World} {B b E:Nat} {s t I H s0 t0 s1 t1:Value} {D X D' X':List Int} (h6:Cel W b s0 t0) (h7:Cel W E s1 t1) (L:b≠E) (hB:Below w.heap.size w W) (hb:w.heap.size<=b) (V:w.heap.size<=E) (M:b < B) (J:E < B)
  (hs:OwnK .i64 3 W B s D) (ht:OwnK .i64 48 W B t X) (aa:OwnK .i64 3 W B I D') (U:OwnK .i64 48 W B H X'):
  (Cel (set2 (set2 W b s t) E I H) b s t/\Cel (set2 (set2 W b s t) E I H) E I H)/\TRes (set2 (set2 W b s t) E I H) w.heap.size (.agg #[s,t]) D X/\TRes (set2 (set2 W b s t) E I H) w.heap.size (.agg #[I,H]) D' X'/\Below w.heap.size w (set2 (set2 W b s t) E I H):=by
 have R:=Stay.set2 (g:=b) W s t;have e2:=Stay.set2 (g:=E) (set2 W b s t) I H;have O:∀ {e:TypeId} {v:Value} {l:List Int},OwnK .i64 e W B v l->OwnK .i64 e (set2 (set2 W b s t) E I H) w.heap.size v l:=fun h=>((h.stay R (h.off M)).stay e2 ((h.stay R (h.off M)).off J)).low (by omega);exact ⟨⟨(h6.set s t).stay e2 L,(h7.stay R (Ne.symm L)).set I H⟩,⟨_,_,rfl,O hs,O ht⟩,⟨_,_,rfl,O aa,O U⟩,a_8 (a_8 hB b hb s t) E V I H⟩
/-- What a return of two tensors leaves. -/
theorem s_i {w W Z U:World} {B b E:Nat} {s t M L s0 t0 s1 t1:Value} {D X D' X':List Int} (hU:set2 (set2 W b s t) E M L=U) (I:Below U.heap.size U Z) (h6:Cel W b s0 t0) (h7:Cel W E s1 t1) (R:b≠E) (hB:Below w.heap.size w W) (hb:w.heap.size<=b) (aa:w.heap.size<=E) (V:b < B) (H:E < B)
  (hs:OwnK .i64 3 W B s D) (ht:OwnK .i64 48 W B t X) (ab:OwnK .i64 3 W B M D') (O:OwnK .i64 48 W B L X'):
  Hid (TRes Z w.heap.size (.agg #[s,t]) D X/\TRes Z w.heap.size (.agg #[M,L]) D' X'/\Below w.heap.size w Z)/\(Z.cell? ⟨b,0,none⟩=some s/\Z.cell? ⟨b,1,none⟩=some t)/\Z.cell? ⟨E,0,none⟩=some M/\Z.cell? ⟨E,1,none⟩=some L:=by
 obtain ⟨⟨c6,c7⟩,r6,r7,J⟩:=t_n (w:=w) h6 h7 R hB hb aa V H hs ht ab O;rw [hU] at c6 c7 r6 r7 J;have d6:=c6.up I;have d7:=c7.up I;exact ⟨⟨r6.up I,r7.up I,a_c J I⟩,⟨d6.1,d6.2.1⟩,d7.1,d7.2.1⟩
end Go.Proofs.YtcpbhhlepdgdkaaGreatDoor.Wd
