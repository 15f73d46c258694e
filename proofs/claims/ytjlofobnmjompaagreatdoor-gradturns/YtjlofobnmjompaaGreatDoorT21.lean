/- The code's giveA and giveB: the document's table of what a gradient gives. -/
import Derived.Test.YtjlofobnmjompaaGreatDoorT20
set_option linter.unusedVariables false
set_option linter.unusedSimpArgs false
set_option maxHeartbeats 16000000
set_option maxRecDepth 16000
namespace Go.Proofs.YtjlofobnmjompaaGreatDoor.Wd
open Go.RowKit Fx
/-- What giveA, giveB tell at one Op. -/
def GvP (f:Nat) (h:Int->Int->Ten->Ten->Ten->Ten) (op:Int):Prop:=∀ (ps pt p p2 p3 p4 p5 p6:Option Addr) (ns cs nt ct n c n2 c2 n3 c3 n4 c4 n5 c5 n6 c6:Nat) (A B K:Int) (a b g:Ten) (hK:InR K) (ok:OkP op K a b g) (hc2:n2<=c2) (hc4:n4<=c4) (hc6:n6<=c6) (w:World) (hT:Hid (Tz w)) (h1:Nums .i64 w (.slice p n c) a.1) (h2:Nums .i64 w (.slice p2 n2 c2) a.2) (h3:Nums .i64 w (.slice p3 n3 c3) b.1) (h4:Nums .i64 w (.slice p4 n4 c4) b.2) (h5:Nums .i64 w (.slice p5 n5 c5) g.1) (h6:Nums .i64 w (.slice p6 n6 c6) g.2),
  Calls Tryz.prog f #[.agg #[.int .i64 op,.int .i64 A,.int .i64 B,.int .i64 K,.slice ps ns cs,.slice pt nt ct],.agg #[.slice p n c,.slice p2 n2 c2],.agg #[.slice p3 n3 c3,.slice p4 n4 c4],.agg #[.slice p5 n5 c5,.slice p6 n6 c6]] w fun e w'=>∃ v',e = .returned (.tuple #[v',.int .i64 0])/\TRes w' w.heap.size v' (h op K a b g).1 (h op K a b g).2/\Below w.heap.size w w'
theorem ga2:GvP 88 onA 2:=by
 intro ps pt p p2 p3 p4 p5 p6 ns cs nt ct n c n2 c2 n3 c3 n4 c4 n5 c5 n6 c6 A B K a b g hK ok V U ab w hT h1 h2 h3 h4 h5 h6;obtain ⟨L,J,I,hE,eg⟩:=ok;obtain ⟨R,eR⟩:∃ R,onA 2 K a b g=R:=⟨_,rfl⟩
 rw [eR]
 have cc:Hid (∀ W,Below w.heap.size w W->Calls Tryz.prog 103 #[.agg #[.slice p5 n5 c5,.slice p6 n6 c6],.slice p n c] W fun e w'=>∃ v',e = .returned (.tuple #[v',.int .i64 0])/\TRes w' W.heap.size v' R.1 R.2/\Below W.heap.size W w'):=fun W hW=>by
  rw [<- eR];have o:=e_C L (I (by decide)) hE J eg;have:=e_g p5 p6 p n5 c5 n6 c6 n c g.1 g.2 a.1 J.2.1 J.2.2 L.2.1 o.1.1 W (h5.up hW) (h6.up hW) (h1.up hW);rw [o.1.1] at this;exact this
 clear eR h1 h2 h3 h4 h5 h6 hT hK L J I hE eg V U ab;go_enter Tryz.func88,Tryz.ntmps88;go_wp2_with fail
 generalize D:World.alloc _ _=W0;have H:=b_C (w:=w) D (by go_grown);have XR:Hid (Cel W0 (w.heap.size+4) (.slice none 0 0) (.slice none 0 0)):=a_y D (by simp [go_sem]);clear D;refine (cc.out W0 H.out).mono ?_;rintro e w1 ⟨v1,rfl,⟨s1,t1,rfl,M,O⟩,aa⟩;obtain ⟨pa,na,ca,rfl⟩:=M.form_;obtain ⟨pb,nb,cb,rfl⟩:=O.form_;clear cc;obtain ⟨HF,r0,r1,r2,r3,z0,z1⟩:=d_5 XR H aa M O (by omega);clear M O;go_wp2;exact bodyPost_ret (v:=.tuple #[.agg #[.slice pa na ca,.slice pb nb cb],.int .i64 0]) (by simp [results,Tryz.results88,go_sem,z0,z1]) rfl ⟨_,rfl,HF.out⟩
theorem ga3:GvP 88 onA 3:=by
 intro ps pt p p2 p3 p4 p5 p6 ns cs nt ct n c n2 c2 n3 c3 n4 c4 n5 c5 n6 c6 A B K a b g hK ok V U ab w hT h1 h2 h3 h4 h5 h6;obtain ⟨L,J,I,hE,eg⟩:=ok;obtain ⟨R,eR⟩:∃ R,onA 3 K a b g=R:=⟨_,rfl⟩
 rw [eR]
 have cc:Hid (∀ W,Below w.heap.size w W->Calls Tryz.prog 103 #[.agg #[.slice p5 n5 c5,.slice p6 n6 c6],.slice p n c] W fun e w'=>∃ v',e = .returned (.tuple #[v',.int .i64 0])/\TRes w' W.heap.size v' R.1 R.2/\Below W.heap.size W w'):=fun W hW=>by
  rw [<- eR];have o:=e_C L (I (by decide)) hE J eg;have:=e_g p5 p6 p n5 c5 n6 c6 n c g.1 g.2 a.1 J.2.1 J.2.2 L.2.1 o.1.1 W (h5.up hW) (h6.up hW) (h1.up hW);rw [o.1.1] at this;exact this
 clear eR h1 h2 h3 h4 h5 h6 hT hK L J I hE eg V U ab;go_enter Tryz.func88,Tryz.ntmps88;go_wp2_with fail
 generalize D:World.alloc _ _=W0;have H:=b_C (w:=w) D (by go_grown);have XR:Hid (Cel W0 (w.heap.size+4) (.slice none 0 0) (.slice none 0 0)):=a_y D (by simp [go_sem]);clear D;refine (cc.out W0 H.out).mono ?_;rintro e w1 ⟨v1,rfl,⟨s1,t1,rfl,M,O⟩,aa⟩;obtain ⟨pa,na,ca,rfl⟩:=M.form_;obtain ⟨pb,nb,cb,rfl⟩:=O.form_;clear cc;obtain ⟨HF,r0,r1,r2,r3,z0,z1⟩:=d_5 XR H aa M O (by omega);clear M O;go_wp2;exact bodyPost_ret (v:=.tuple #[.agg #[.slice pa na ca,.slice pb nb cb],.int .i64 0]) (by simp [results,Tryz.results88,go_sem,z0,z1]) rfl ⟨_,rfl,HF.out⟩
theorem ga4:GvP 88 onA 4:=by
 intro ps pt p p2 p3 p4 p5 p6 ns cs nt ct n c n2 c2 n3 c3 n4 c4 n5 c5 n6 c6 A B K a b g hK ok aa J M w hT h1 h2 h3 h4 h5 h6;obtain ⟨O,V,H,hE,eg⟩:=ok;obtain ⟨R,eR⟩:∃ R,onA 4 K a b g=R:=⟨_,rfl⟩
 rw [eR]
 have cc:Hid (∀ W,Below w.heap.size w W->Calls Tryz.prog 104 #[.agg #[.slice p5 n5 c5,.slice p6 n6 c6],.agg #[.slice p3 n3 c3,.slice p4 n4 c4],.slice p n c] W fun e w'=>∃ v',e = .returned (.tuple #[v',.int .i64 0])/\TRes w' W.heap.size v' R.1 R.2/\Below W.heap.size W w'):=fun W L=>by
  rw [<- eR];have o:=e_C O (H (by decide)) hE V eg;exact f_M p5 p6 n5 c5 n6 c6 p3 p4 n3 c3 n4 c4 p n c g b a.1 V (H (by decide)) O.2.1 o.2.2.1.1 o.2.2.1.2.2 o.2.2.1.2.1 W (h5.up L) (h6.up L) M (h3.up L) (h4.up L) J (h1.up L)
 clear eR h1 h2 h3 h4 h5 h6 hT hK O V H hE eg aa J M;go_enter Tryz.func88,Tryz.ntmps88;go_wp2_with fail
 generalize D:World.alloc _ _=W0;have I:=b_C (w:=w) D (by go_grown);have XR:Hid (Cel W0 (w.heap.size+4) (.slice none 0 0) (.slice none 0 0)):=a_y D (by simp [go_sem]);clear D;refine (cc.out W0 I.out).mono ?_;rintro e w1 ⟨v1,rfl,⟨s1,t1,rfl,U,ht⟩,ab⟩;obtain ⟨pa,na,ca,rfl⟩:=U.form_;obtain ⟨pb,nb,cb,rfl⟩:=ht.form_;clear cc;obtain ⟨HF,r0,r1,r2,r3,z0,z1⟩:=d_5 XR I ab U ht (by omega);clear U ht;go_wp2;exact bodyPost_ret (v:=.tuple #[.agg #[.slice pa na ca,.slice pb nb cb],.int .i64 0]) (by simp [results,Tryz.results88,go_sem,z0,z1]) rfl ⟨_,rfl,HF.out⟩
theorem ga8:GvP 88 onA 8:=by
 intro ps pt p p2 p3 p4 p5 p6 ns cs nt ct n c n2 c2 n3 c3 n4 c4 n5 c5 n6 c6 A B K a b g hK ok U O ab w hT h1 h2 h3 h4 h5 h6;obtain ⟨J,L,ac,hE,eg⟩:=ok;obtain ⟨R,V⟩:∃ R,onA 8 K a b g=R:=⟨_,rfl⟩
 rw [V]
 have cc:Hid (∀ W,Below w.heap.size w W->Calls Tryz.prog 108 #[.agg #[.slice p5 n5 c5,.slice p6 n6 c6],.slice p n c,.int .i64 K] W fun e w'=>∃ v',e = .returned (.tuple #[v',.int .i64 0])/\TRes w' W.heap.size v' R.1 R.2/\Below W.heap.size W w'):=fun W hW=>by
  rw [<- V];obtain ⟨s,rfl,H,o1,o2,o3⟩:=o_q J hE L eg;exact i_M p5 p6 n5 c5 n6 c6 p n c g a.1 _ s L J.1.1 H o1 o2 o3 W (h5.up hW) (h6.up hW) (h1.up hW)
 clear V h1 h2 h3 h4 h5 h6 hT hK J L ac hE eg U O ab;go_enter Tryz.func88,Tryz.ntmps88;go_wp2_with fail
 generalize D:World.alloc _ _=W0;have I:=b_C (w:=w) D (by go_grown);have XR:Hid (Cel W0 (w.heap.size+4) (.slice none 0 0) (.slice none 0 0)):=a_y D (by simp [go_sem]);clear D;refine (cc.out W0 I.out).mono ?_;rintro e w1 ⟨v1,rfl,⟨s1,t1,rfl,H,M⟩,aa⟩;obtain ⟨pa,na,ca,rfl⟩:=H.form_;obtain ⟨pb,nb,cb,rfl⟩:=M.form_;clear cc;obtain ⟨HF,r0,r1,r2,r3,z0,z1⟩:=d_5 XR I aa H M (by omega);clear H M;go_wp2;exact bodyPost_ret (v:=.tuple #[.agg #[.slice pa na ca,.slice pb nb cb],.int .i64 0]) (by simp [results,Tryz.results88,go_sem,z0,z1]) rfl ⟨_,rfl,HF.out⟩
theorem t_B:GvP 88 onA 11:=by
 intro ps pt p p2 p3 p4 p5 p6 ns cs nt ct n c n2 c2 n3 c3 n4 c4 n5 c5 n6 c6 A B K a b g hK ok V U ab w hT h1 h2 h3 h4 h5 h6;obtain ⟨H,J,ac,hE,eg⟩:=ok;obtain ⟨R,eR⟩:∃ R,onA 11 K a b g=R:=⟨_,rfl⟩
 rw [eR]
 have cc:Hid (∀ W,Below w.heap.size w W->Calls Tryz.prog 110 #[.int .i64 K,.agg #[.slice p n c,.slice p2 n2 c2],.agg #[.slice p5 n5 c5,.slice p6 n6 c6]] W fun e w'=>∃ v',e = .returned (.tuple #[v',.int .i64 0])/\TRes w' W.heap.size v' R.1 R.2/\Below W.heap.size W w'):=fun W L=>by
  rw [<- eR];have:=o_n K p p2 p5 p6 n c n2 c2 n5 c5 n6 c6 a.1 a.2 g.1 g.2 H.2.1 H.2.2 J.2.1 J.2.2 (m_A H hE J eg) W (h1.up L) (h2.up L) (h5.up L) (h6.up L);rw [m_A H hE J eg] at this;exact this
 clear eR h1 h2 h3 h4 h5 h6 hT hK H J ac hE eg V U ab;go_enter Tryz.func88,Tryz.ntmps88;go_wp2_with fail
 generalize D:World.alloc _ _=W0;have I:=b_C (w:=w) D (by go_grown);have XR:Hid (Cel W0 (w.heap.size+4) (.slice none 0 0) (.slice none 0 0)):=a_y D (by simp [go_sem]);clear D;refine (cc.out W0 I.out).mono ?_;rintro e w1 ⟨v1,rfl,⟨s1,t1,rfl,M,O⟩,aa⟩;obtain ⟨pa,na,ca,rfl⟩:=M.form_;obtain ⟨pb,nb,cb,rfl⟩:=O.form_;clear cc;obtain ⟨HF,r0,r1,r2,r3,z0,z1⟩:=d_5 XR I aa M O (by omega);clear M O;go_wp2;exact bodyPost_ret (v:=.tuple #[.agg #[.slice pa na ca,.slice pb nb cb],.int .i64 0]) (by simp [results,Tryz.results88,go_sem,z0,z1]) rfl ⟨_,rfl,HF.out⟩
theorem t_L:GvP 88 onA 14:=by
 intro ps pt p p2 p3 p4 p5 p6 ns cs nt ct n c n2 c2 n3 c3 n4 c4 n5 c5 n6 c6 A B K a b g hK ok U O ab w hT h1 h2 h3 h4 h5 h6;obtain ⟨I,L,ac,hE,eg⟩:=ok;obtain ⟨R,V⟩:∃ R,onA 14 K a b g=R:=⟨_,rfl⟩
 rw [V]
 have cc:Hid (∀ W,Below w.heap.size w W->Calls Tryz.prog 113 #[.agg #[.slice p5 n5 c5,.slice p6 n6 c6],.slice p n c] W fun e w'=>∃ v',e = .returned (.tuple #[v',.int .i64 0])/\TRes w' W.heap.size v' R.1 R.2/\Below W.heap.size W w'):=fun W hW=>by
  rw [<- V];have:=c_9 p5 p6 p n5 c5 n6 c6 n c g.1 g.2 a.1 L.2.1 I.2.1 W (h5.up hW) (h6.up hW) (h1.up hW);rw [q_B I hE L eg] at this;exact this
 clear V h1 h2 h3 h4 h5 h6 hT hK I L ac hE eg U O ab;go_enter Tryz.func88,Tryz.ntmps88;go_wp2_with fail
 generalize D:World.alloc _ _=W0;have H:=b_C (w:=w) D (by go_grown);have XR:Hid (Cel W0 (w.heap.size+4) (.slice none 0 0) (.slice none 0 0)):=a_y D (by simp [go_sem]);clear D;refine (cc.out W0 H.out).mono ?_;rintro e w1 ⟨v1,rfl,⟨s1,t1,rfl,J,M⟩,aa⟩;obtain ⟨pa,na,ca,rfl⟩:=J.form_;obtain ⟨pb,nb,cb,rfl⟩:=M.form_;clear cc;obtain ⟨HF,r0,r1,r2,r3,z0,z1⟩:=d_5 XR H aa J M (by omega);clear J M;go_wp2;exact bodyPost_ret (v:=.tuple #[.agg #[.slice pa na ca,.slice pb nb cb],.int .i64 0]) (by simp [results,Tryz.results88,go_sem,z0,z1]) rfl ⟨_,rfl,HF.out⟩
theorem t_M:GvP 88 onA 13:=by
 intro ps pt p p2 p3 p4 p5 p6 ns cs nt ct n c n2 c2 n3 c3 n4 c4 n5 c5 n6 c6 A B K a b g hK ok I V ab w hT h1 h2 h3 h4 h5 h6;obtain ⟨L,O,ac,hE,eg⟩:=ok;obtain ⟨R,eR⟩:∃ R,onA 13 K a b g=R:=⟨_,rfl⟩
 rw [eR]
 have cc:Hid (∀ W,Below w.heap.size w W->Calls Tryz.prog 112 #[.agg #[.slice p5 n5 c5,.slice p6 n6 c6],.agg #[.slice p n c,.slice p2 n2 c2],.int .i64 K] W fun e w'=>∃ v',e = .returned (.tuple #[v',.int .i64 0])/\TRes w' W.heap.size v' R.1 R.2/\Below W.heap.size W w'):=fun W J=>by
  rw [<- eR];obtain ⟨o1,o2,o3⟩:=q_C L hE O eg;exact i_O p5 p6 n5 c5 n6 c6 p p2 n c n2 c2 g a K O L hE o1 o2 o3 W (h5.up J) (h6.up J) (h1.up J) (h2.up J) I
 clear eR h1 h2 h3 h4 h5 h6 hT hK L O ac hE eg I V ab;go_enter Tryz.func88,Tryz.ntmps88;go_wp2_with fail
 generalize D:World.alloc _ _=W0;have H:=b_C (w:=w) D (by go_grown);have XR:Hid (Cel W0 (w.heap.size+4) (.slice none 0 0) (.slice none 0 0)):=a_y D (by simp [go_sem]);clear D;refine (cc.out W0 H.out).mono ?_;rintro e w1 ⟨v1,rfl,⟨s1,t1,rfl,M,U⟩,aa⟩;obtain ⟨pa,na,ca,rfl⟩:=M.form_;obtain ⟨pb,nb,cb,rfl⟩:=U.form_;clear cc;obtain ⟨HF,r0,r1,r2,r3,z0,z1⟩:=d_5 XR H aa M U (by omega);clear M U;go_wp2;exact bodyPost_ret (v:=.tuple #[.agg #[.slice pa na ca,.slice pb nb cb],.int .i64 0]) (by simp [results,Tryz.results88,go_sem,z0,z1]) rfl ⟨_,rfl,HF.out⟩
theorem gb2:GvP 89 onB 2:=by
 intro ps pt p p2 p3 p4 p5 p6 ns cs nt ct n c n2 c2 n3 c3 n4 c4 n5 c5 n6 c6 A B K a b g hK ok U O ab w hT h1 h2 h3 h4 h5 h6;obtain ⟨ga,J,H,hE,eg⟩:=ok;obtain ⟨R,V⟩:∃ R,onB 2 K a b g=R:=⟨_,rfl⟩
 rw [V]
 have cc:Hid (∀ W,Below w.heap.size w W->Calls Tryz.prog 103 #[.agg #[.slice p5 n5 c5,.slice p6 n6 c6],.slice p3 n3 c3] W fun e w'=>∃ v',e = .returned (.tuple #[v',.int .i64 0])/\TRes w' W.heap.size v' R.1 R.2/\Below W.heap.size W w'):=fun W hW=>by
  rw [<- V];have o:=e_C ga (H (by decide)) hE J eg;have:=e_g p5 p6 p3 n5 c5 n6 c6 n3 c3 g.1 g.2 b.1 J.2.1 J.2.2 (H (by decide)).2.1 o.1.2 W (h5.up hW) (h6.up hW) (h3.up hW);rw [o.1.2] at this;exact this
 clear V h1 h2 h3 h4 h5 h6 hT hK ga J H hE eg U O ab;go_enter Tryz.func89,Tryz.ntmps89;go_wp2_with fail
 generalize D:World.alloc _ _=W0;have I:=b_C (w:=w) D (by go_grown);have XR:Hid (Cel W0 (w.heap.size+4) (.slice none 0 0) (.slice none 0 0)):=a_y D (by simp [go_sem]);clear D;refine (cc.out W0 I.out).mono ?_;rintro e w1 ⟨v1,rfl,⟨s1,t1,rfl,L,M⟩,aa⟩;obtain ⟨pa,na,ca,rfl⟩:=L.form_;obtain ⟨pb,nb,cb,rfl⟩:=M.form_;clear cc;obtain ⟨HF,r0,r1,r2,r3,z0,z1⟩:=d_5 XR I aa L M (by omega);clear L M;go_wp2;exact bodyPost_ret (v:=.tuple #[.agg #[.slice pa na ca,.slice pb nb cb],.int .i64 0]) (by simp [results,Tryz.results89,go_sem,z0,z1]) rfl ⟨_,rfl,HF.out⟩
theorem gb3:GvP 89 onB 3:=by
 intro ps pt p p2 p3 p4 p5 p6 ns cs nt ct n c n2 c2 n3 c3 n4 c4 n5 c5 n6 c6 A B K a b g hK ok V U J w hT h1 h2 h3 h4 h5 h6;obtain ⟨ga,M,H,hE,eg⟩:=ok;obtain ⟨R,eR⟩:∃ R,onB 3 K a b g=R:=⟨_,rfl⟩
 rw [eR]
 have cc:Hid (∀ W,Below w.heap.size w W->Calls Tryz.prog 114 #[.agg #[.slice p5 n5 c5,.slice p6 n6 c6],.slice p3 n3 c3] W fun e w'=>∃ v',e = .returned (.tuple #[v',.int .i64 0])/\TRes w' W.heap.size v' R.1 R.2/\Below W.heap.size W w'):=fun W hW=>by
  rw [<- eR];have o:=e_C ga (H (by decide)) hE M eg;exact k_M p5 p6 n5 c5 n6 c6 p3 n3 c3 g b.1 M (H (by decide)).2.1 o.2.1.2 o.2.1.1 W (h5.up hW) (h6.up hW) J (h3.up hW)
 clear eR h1 h2 h3 h4 h5 h6 hT hK ga M H hE eg V U J;go_enter Tryz.func89,Tryz.ntmps89;go_wp2_with fail
 generalize D:World.alloc _ _=W0;have I:=b_C (w:=w) D (by go_grown);have XR:Hid (Cel W0 (w.heap.size+4) (.slice none 0 0) (.slice none 0 0)):=a_y D (by simp [go_sem]);clear D;refine (cc.out W0 I.out).mono ?_;rintro e w1 ⟨v1,rfl,⟨s1,t1,rfl,L,O⟩,aa⟩;obtain ⟨pa,na,ca,rfl⟩:=L.form_;obtain ⟨pb,nb,cb,rfl⟩:=O.form_;clear cc;obtain ⟨HF,r0,r1,r2,r3,z0,z1⟩:=d_5 XR I aa L O (by omega);clear L O;go_wp2;exact bodyPost_ret (v:=.tuple #[.agg #[.slice pa na ca,.slice pb nb cb],.int .i64 0]) (by simp [results,Tryz.results89,go_sem,z0,z1]) rfl ⟨_,rfl,HF.out⟩
theorem gb4:GvP 89 onB 4:=by
 intro ps pt p p2 p3 p4 p5 p6 ns cs nt ct n c n2 c2 n3 c3 n4 c4 n5 c5 n6 c6 A B K a b g hK ok J aa M w hT h1 h2 h3 h4 h5 h6;obtain ⟨O,V,H,hE,eg⟩:=ok;obtain ⟨R,eR⟩:∃ R,onB 4 K a b g=R:=⟨_,rfl⟩
 rw [eR]
 have cc:Hid (∀ W,Below w.heap.size w W->Calls Tryz.prog 104 #[.agg #[.slice p5 n5 c5,.slice p6 n6 c6],.agg #[.slice p n c,.slice p2 n2 c2],.slice p3 n3 c3] W fun e w'=>∃ v',e = .returned (.tuple #[v',.int .i64 0])/\TRes w' W.heap.size v' R.1 R.2/\Below W.heap.size W w'):=fun W L=>by
  rw [<- eR];have o:=e_C O (H (by decide)) hE V eg;exact f_M p5 p6 n5 c5 n6 c6 p p2 n c n2 c2 p3 n3 c3 g a b.1 V O (H (by decide)).2.1 o.2.2.2.1 o.2.2.2.2.2 o.2.2.2.2.1 W (h5.up L) (h6.up L) M (h1.up L) (h2.up L) J (h3.up L)
 clear eR h1 h2 h3 h4 h5 h6 hT hK O V H hE eg J aa M;go_enter Tryz.func89,Tryz.ntmps89;go_wp2_with fail
 generalize D:World.alloc _ _=W0;have I:=b_C (w:=w) D (by go_grown);have XR:Hid (Cel W0 (w.heap.size+4) (.slice none 0 0) (.slice none 0 0)):=a_y D (by simp [go_sem]);clear D;refine (cc.out W0 I.out).mono ?_;rintro e w1 ⟨v1,rfl,⟨s1,t1,rfl,U,ht⟩,ab⟩;obtain ⟨pa,na,ca,rfl⟩:=U.form_;obtain ⟨pb,nb,cb,rfl⟩:=ht.form_;clear cc;obtain ⟨HF,r0,r1,r2,r3,z0,z1⟩:=d_5 XR I ab U ht (by omega);clear U ht;go_wp2;exact bodyPost_ret (v:=.tuple #[.agg #[.slice pa na ca,.slice pb nb cb],.int .i64 0]) (by simp [results,Tryz.results89,go_sem,z0,z1]) rfl ⟨_,rfl,HF.out⟩
theorem ga9:GvP 88 onA 9:=by
 intro ps pt p p2 p3 p4 p5 p6 ns cs nt ct n c n2 c2 n3 c3 n4 c4 n5 c5 n6 c6 A B K a b g hK ok ab ae ac w hT O h2 h3 h4 h5 h6;obtain ⟨L,gg,ah,hE,eg⟩:=ok;obtain ⟨R,eR⟩:∃ R,onA 9 K a b g=R:=⟨_,rfl⟩
 rw [eR];obtain ⟨G,eG⟩:∃ G,g.2.getD 0 0=G:=⟨_,rfl⟩
 have ad:Hid (∃ q o,p6=some ⟨q,o,none⟩/\w.cell? ⟨q,o,none⟩=some (.int .i64 G)/\0 < n6):=by
  have O:0 < g.2.length:=by rw [gg.1.2];exact a_C gg.1.1.2.1
  obtain ⟨p_,c_,e_,hv⟩:=h6.view;cases e_;obtain ⟨q',o',e1,e2⟩:=hv 0 O;rw [eG,Nat.add_zero] at e2;exact ⟨q',o',e1,e2,O⟩
 have cc:Hid (∀ W,Below w.heap.size w W->Calls Tryz.prog 67 #[.slice p n c,.int .i64 G] W fun e w'=>∃ v',e = .returned (.tuple #[v',.int .i64 0])/\TRes w' W.heap.size v' R.1 R.2/\Below W.heap.size W w'):=fun W hW=>by
  rw [<- eR];have:=c_P (.slice p n c) a.1 L.2.1 G W (O.up hW);rw [show l_X a.1=0 from if_pos L.1.1,show d_S a.1=a.1 from if_pos L.1.1,show l_Y a.1 G=List.replicate (a_e (ntl a.1)) G from if_pos L.1.1,<- eG] at this;rw [<- eG];exact this
 clear O h2 h3 h4 h5 h6;obtain ⟨q6,o6,rfl,d6,aj⟩:=ad.out;have ai:(0:Int) < (n6:Int):=by omega
 clear eR hT hK L gg ah hE eg ab ae ac;go_enter Tryz.func88,Tryz.ntmps88;go_wp2_with fail
 generalize D:World.alloc _ _=W0;have I:=b_C (w:=w) D (by go_grown);have XR:Hid (Cel W0 (w.heap.size+4) (.slice none 0 0) (.slice none 0 0)):=a_y D (by simp [go_sem]);have XA:Cel W0 (w.heap.size+1) (.slice p n c) (.slice p2 n2 c2):=(a_y D (by simp [go_sem])).out;obtain ⟨M,af,_,_⟩:=XA;have ka:=a_a M;have XG:Cel W0 (w.heap.size+3) (.slice p5 n5 c5) (.slice (some ⟨q6,o6,none⟩) n6 c6):=(a_y D (by simp [go_sem])).out;obtain ⟨V,ag,_,_⟩:=XG;have kg:=a_a V;have U:=a_d d6 I.out;have k6:=a_a U;clear D;refine l_v [⟨6,69,TupP W0.heap.size R.1 R.2 0⟩,⟨7,70,OwnT W0.heap.size R.1 R.2⟩] 9 123 (by kernel_rfl) rfl rfl 8 _ rfl (by decide) rfl (by kernel_rfl) (by kernel_rfl) (fun _ _ _ _ h=>h) (by rfl) ?_ ?_
 ·intro e he v W W' h hb;simp only [List.mem_cons,List.not_mem_nil,or_false] at he;rcases he with rfl|rfl
  ·exact TupP.up h hb
  ·exact OwnT.up h hb
 apply Exists.intro;refine ⟨?yl1,?wk1,?pk1,?rest1⟩
 case wk1=>
  intro x;simp only [List.take_succ_cons,List.take_zero]
  iterate 6
   refine a_n rfl rfl ?_;apply Exists.intro;refine ⟨fun F hF hf K hK=>?_,?_⟩
   ·have hFc:=hF.cell;have hFf:=hF.frozen
    go_big_quiet_op
    first|exact hK|(apply Exists.intro;refine ⟨fun _=>?_,?_⟩;(· fail);exact hK)
   (try simp only [Act.put,sA_,sB_,sC_])
  refine a_p rfl rfl ?_ ?_
  ·intro F hF hf d;have hFc:=hF.cell;have hFf:=hF.frozen;simp [a_k,a_g,go_sem];refine (cc.out (F d) (a_c I.out (hF.below d))).mono ?_;rintro e' w8 ⟨v8,rfl,h8,aa⟩;exact ⟨_,rfl,⟨v8,rfl,(h8.low (hF.below d).size).own⟩,aa⟩
  (try simp only [Act.put,sA_,sB_,sC_])
  refine a_p rfl rfl ?_ ?_
  ·intro F hF hf d;have hFc:=hF.cell;have hFf:=hF.frozen;have h9:=hf _ List.mem_cons_self (by rfl) d;obtain ⟨u9,J,n9⟩:=h9;simp only [] at J n9;simp [a_k,a_g,go_sem,J];exact ⟨n9,Below.refl _ _⟩
  (try simp only [Act.put,sA_,sB_,sC_])
  refine a_n rfl rfl ?_;apply Exists.intro;refine ⟨fun F hF hf K hK=>?_,?_⟩
  ·have hFc:=hF.cell;have hFf:=hF.frozen;have h9:=hf _ List.mem_cons_self (by rfl);obtain ⟨u9,J,_⟩:=h9 W0;simp only [] at J
   go_big_quiet_op
   first|exact hK|(apply Exists.intro;refine ⟨fun _=>?_,?_⟩;(· fail);exact hK)
  (try simp only [Act.put,sA_,sB_,sC_])
  refine b_f ?_;exact rfl
 case pk1=>
  intro x;simp only [b_n,List.foldl_cons,List.foldl_nil,Act.put,sA_,sB_,sC_]
 case yl1=>
  intro x hx;obtain ⟨W9,u9,J,_⟩:=hx _ List.mem_cons_self (by rfl);simp only [] at J;refine ⟨.int .i64 0,fun t ht=>?_,.inl ⟨by rfl,fun w=>?_⟩⟩
  ·cases ht;rfl
  ·simp [execOp,Act.eval,J,go_sem]
 intro zz xs H hf;simp only [List.drop_succ_cons,List.drop_zero];obtain ⟨pa,na,ca,pb,nb,cb,ev,hs,ht⟩:=hf _ (List.mem_cons_of_mem _ List.mem_cons_self);simp only [] at ev;obtain ⟨x4,e4⟩:∃ q,xs 6=q:=⟨_,rfl⟩
 simp only [ev,e4];obtain ⟨HF,r0,r1,r2,r3,z0,z1⟩:=d_5 XR I H hs ht (by omega);have rk:=a_a r0;clear hs ht H hf cc M af V ag U;go_wp2;exact bodyPost_ret (v:=.tuple #[.agg #[.slice pa na ca,.slice pb nb cb],.int .i64 0]) (by simp [results,Tryz.results88,go_sem,z0,z1]) rfl ⟨_,rfl,HF.out⟩
theorem t_N:GvP 88 onA 10:=by
 intro ps pt p p2 p3 p4 p5 p6 ns cs nt ct n c n2 c2 n3 c3 n4 c4 n5 c5 n6 c6 A B K a b g hK ok ab ae ac w hT M h2 h3 h4 h5 h6;obtain ⟨V,gg,ah,hE,eg⟩:=ok;obtain ⟨R,eR⟩:∃ R,onA 10 K a b g=R:=⟨_,rfl⟩
 rw [eR];obtain ⟨G,eG⟩:∃ G,g.2.getD 0 0=G:=⟨_,rfl⟩
 have ad:Hid (∃ q o,p6=some ⟨q,o,none⟩/\w.cell? ⟨q,o,none⟩=some (.int .i64 G)/\0 < n6):=by
  have M:0 < g.2.length:=by rw [gg.1.2];exact a_C gg.1.1.2.1
  obtain ⟨p_,c_,e_,hv⟩:=h6.view;cases e_;obtain ⟨q',o',e1,e2⟩:=hv 0 M;rw [eG,Nat.add_zero] at e2;exact ⟨q',o',e1,e2,M⟩
 have cc:Hid (∀ W,Below w.heap.size w W->Calls Tryz.prog 109 #[.int .i64 G,.slice p n c] W fun e w'=>∃ v',e = .returned (.tuple #[v',.int .i64 0])/\TRes w' W.heap.size v' R.1 R.2/\Below W.heap.size W w'):=fun W hW=>by
  rw [<- eR];have:=i_N p n c a.1 G (by rw [<- eG];exact d_d gg.2.2 0) V.1.1 W (M.up hW);rw [<- eG,<- V.1.2] at this;rw [<- eG];show Calls _ _ _ _ fun e w'=>∃ v',e=_/\TRes w' _ v' a.1 (List.replicate (a_e (ntl a.1)) (Fx.hold (rqI (g.2.getD 0 0) (a.2.length:Int))))/\_;rw [<- V.1.2];exact this
 clear M h2 h3 h4 h5 h6;obtain ⟨q6,o6,rfl,d6,aj⟩:=ad.out;have ai:(0:Int) < (n6:Int):=by omega
 clear eR hT hK V gg ah hE eg ab ae ac;go_enter Tryz.func88,Tryz.ntmps88;go_wp2_with fail
 generalize D:World.alloc _ _=W0;have I:=b_C (w:=w) D (by go_grown);have XR:Hid (Cel W0 (w.heap.size+4) (.slice none 0 0) (.slice none 0 0)):=a_y D (by simp [go_sem]);have XA:Cel W0 (w.heap.size+1) (.slice p n c) (.slice p2 n2 c2):=(a_y D (by simp [go_sem])).out;obtain ⟨L,af,_,_⟩:=XA;have ka:=a_a L;have XG:Cel W0 (w.heap.size+3) (.slice p5 n5 c5) (.slice (some ⟨q6,o6,none⟩) n6 c6):=(a_y D (by simp [go_sem])).out;obtain ⟨U,ag,_,_⟩:=XG;have kg:=a_a U;have O:=a_d d6 I.out;have k6:=a_a O;clear D;refine l_v [⟨6,80,TupP W0.heap.size R.1 R.2 0⟩,⟨7,81,OwnT W0.heap.size R.1 R.2⟩] 9 123 (by kernel_rfl) rfl rfl 8 _ rfl (by decide) rfl (by kernel_rfl) (by kernel_rfl) (fun _ _ _ _ h=>h) (by rfl) ?_ ?_
 ·intro e he v W W' h hb;simp only [List.mem_cons,List.not_mem_nil,or_false] at he;rcases he with rfl|rfl
  ·exact TupP.up h hb
  ·exact OwnT.up h hb
 apply Exists.intro;refine ⟨?yl1,?wk1,?pk1,?rest1⟩
 case wk1=>
  intro x;simp only [List.take_succ_cons,List.take_zero]
  iterate 6
   refine a_n rfl rfl ?_;apply Exists.intro;refine ⟨fun F hF hf K hK=>?_,?_⟩
   ·have hFc:=hF.cell;have hFf:=hF.frozen
    go_big_quiet_op
    first|exact hK|(apply Exists.intro;refine ⟨fun _=>?_,?_⟩;(· fail);exact hK)
   (try simp only [Act.put,sA_,sB_,sC_])
  refine a_p rfl rfl ?_ ?_
  ·intro F hF hf d;have hFc:=hF.cell;have hFf:=hF.frozen;simp [a_k,a_g,go_sem];refine (cc.out (F d) (a_c I.out (hF.below d))).mono ?_;rintro e' w8 ⟨v8,rfl,h8,aa⟩;exact ⟨_,rfl,⟨v8,rfl,(h8.low (hF.below d).size).own⟩,aa⟩
  (try simp only [Act.put,sA_,sB_,sC_])
  refine a_p rfl rfl ?_ ?_
  ·intro F hF hf d;have hFc:=hF.cell;have hFf:=hF.frozen;have h9:=hf _ List.mem_cons_self (by rfl) d;obtain ⟨u9,J,n9⟩:=h9;simp only [] at J n9;simp [a_k,a_g,go_sem,J];exact ⟨n9,Below.refl _ _⟩
  (try simp only [Act.put,sA_,sB_,sC_])
  refine a_n rfl rfl ?_;apply Exists.intro;refine ⟨fun F hF hf K hK=>?_,?_⟩
  ·have hFc:=hF.cell;have hFf:=hF.frozen;have h9:=hf _ List.mem_cons_self (by rfl);obtain ⟨u9,J,_⟩:=h9 W0;simp only [] at J
   go_big_quiet_op
   first|exact hK|(apply Exists.intro;refine ⟨fun _=>?_,?_⟩;(· fail);exact hK)
  (try simp only [Act.put,sA_,sB_,sC_])
  refine b_f ?_;exact rfl
 case pk1=>
  intro x;simp only [b_n,List.foldl_cons,List.foldl_nil,Act.put,sA_,sB_,sC_]
 case yl1=>
  intro x hx;obtain ⟨W9,u9,J,_⟩:=hx _ List.mem_cons_self (by rfl);simp only [] at J;refine ⟨.int .i64 0,fun t ht=>?_,.inl ⟨by rfl,fun w=>?_⟩⟩
  ·cases ht;rfl
  ·simp [execOp,Act.eval,J,go_sem]
 intro zz xs H hf;simp only [List.drop_succ_cons,List.drop_zero];obtain ⟨pa,na,ca,pb,nb,cb,ev,hs,ht⟩:=hf _ (List.mem_cons_of_mem _ List.mem_cons_self);simp only [] at ev;obtain ⟨x4,e4⟩:∃ q,xs 6=q:=⟨_,rfl⟩
 simp only [ev,e4];obtain ⟨HF,r0,r1,r2,r3,z0,z1⟩:=d_5 XR I H hs ht (by omega);have rk:=a_a r0;clear hs ht H hf cc L af U ag O;go_wp2;exact bodyPost_ret (v:=.tuple #[.agg #[.slice pa na ca,.slice pb nb cb],.int .i64 0]) (by simp [results,Tryz.results88,go_sem,z0,z1]) rfl ⟨_,rfl,HF.out⟩
theorem t_O:GvP 88 onA 12:=by
 intro ps pt p p2 p3 p4 p5 p6 ns cs nt ct n c n2 c2 n3 c3 n4 c4 n5 c5 n6 c6 A B K a b g hK ok ae ai af w hT h1 h2 h3 h4 h5 h6;obtain ⟨ga,M,H,hE,eg⟩:=ok;obtain ⟨R,eR⟩:∃ R,onA 12 K a b g=R:=⟨_,rfl⟩
 rw [eR];obtain ⟨LG,eL⟩:∃ LG,a.1.getD 1 0=LG:=⟨_,rfl⟩
 have ah:Hid (∃ q o,p=some ⟨q,o,none⟩/\w.cell? ⟨q,o+1,none⟩=some (.int .i64 LG)/\1 < n):=by
  have ab:1 < a.1.length:=by
   have:=(g_o ga (H (by decide)) hE M eg).2;omega
  obtain ⟨p_,c_,e_,hv⟩:=h1.view;cases e_;obtain ⟨q',o',e1,e2⟩:=hv 1 ab;rw [eL] at e2;exact ⟨q',o',e1,e2,ab⟩
 have cc:Hid (∀ W,Below w.heap.size w W->Calls Tryz.prog 111 #[.agg #[.slice p5 n5 c5,.slice p6 n6 c6],.agg #[.slice p3 n3 c3,.slice p4 n4 c4],.int .i64 K,.int .i64 LG] W fun e w'=>∃ v',e = .returned (.tuple #[v',.int .i64 0])/\TRes w' W.heap.size v' R.1 R.2/\Below W.heap.size W w'):=fun W U=>by
  rw [<- eR];have:=r_3 p5 p6 p3 p4 n5 c5 n6 c6 n3 c3 n4 c4 g.1 g.2 b.1 b.2 K (a.1.getD 1 0) M.2.1 M.2.2 (H (by decide)).2.1 (H (by decide)).2.2 (g_o ga (H (by decide)) hE M eg).1.1 W (Hid.up_tz hT U) (h5.up U) (h6.up U) (h3.up U) (h4.up U);rw [(g_o ga (H (by decide)) hE M eg).1.1] at this;rw [<- eL];exact this
 clear h1 h2 h3 h4 h5 h6;obtain ⟨q6,o6,rfl,d6,an⟩:=ah.out;have am:(1:Int) < (n:Int):=by omega
 clear eR hT hK ga M H hE eg ae ai af;go_enter Tryz.func88,Tryz.ntmps88;go_wp2_with fail
 generalize D:World.alloc _ _=W0;have J:=b_C (w:=w) D (by go_grown);have XR:Hid (Cel W0 (w.heap.size+4) (.slice none 0 0) (.slice none 0 0)):=a_y D (by simp [go_sem]);have XA:Cel W0 (w.heap.size+1) (.slice (some ⟨q6,o6,none⟩) n c) (.slice p2 n2 c2):=(a_y D (by simp [go_sem])).out;obtain ⟨O,aj,_,_⟩:=XA;have ka:=a_a O;have XB:Cel W0 (w.heap.size+2) (.slice p3 n3 c3) (.slice p4 n4 c4):=(a_y D (by simp [go_sem])).out;obtain ⟨ac,ag,_,_⟩:=XB;have kb:=a_a ac;have XG:Cel W0 (w.heap.size+3) (.slice p5 n5 c5) (.slice p6 n6 c6):=(a_y D (by simp [go_sem])).out;obtain ⟨aa,ak,_,_⟩:=XG;have kg:=a_a aa;have xk:W0.cell? ⟨w.heap.size,3,none⟩=some (.int .i64 K):=by rw [<- D];simp [go_sem]
 have kk:=a_a xk;have V:=a_d d6 J.out;have k6:=a_a V;clear D;refine l_v [⟨8,102,TupP W0.heap.size R.1 R.2 0⟩,⟨9,103,OwnT W0.heap.size R.1 R.2⟩] 11 123 (by kernel_rfl) rfl rfl 10 _ rfl (by decide) rfl (by kernel_rfl) (by kernel_rfl) (fun _ _ _ _ h=>h) (by rfl) ?_ ?_
 ·intro e he v W W' h hb;simp only [List.mem_cons,List.not_mem_nil,or_false] at he;rcases he with rfl|rfl
  ·exact TupP.up h hb
  ·exact OwnT.up h hb
 apply Exists.intro;refine ⟨?yl1,?wk1,?pk1,?rest1⟩
 case wk1=>
  intro x;simp only [List.take_succ_cons,List.take_zero]
  iterate 8
   refine a_n rfl rfl ?_;apply Exists.intro;refine ⟨fun F hF hf K hK=>?_,?_⟩
   ·have hFc:=hF.cell;have hFf:=hF.frozen
    go_big_quiet_op
    first|exact hK|(apply Exists.intro;refine ⟨fun _=>?_,?_⟩;(· fail);exact hK)
   (try simp only [Act.put,sA_,sB_,sC_])
  refine a_p rfl rfl ?_ ?_
  ·intro F hF hf d;have hFc:=hF.cell;have hFf:=hF.frozen;simp [a_k,a_g,go_sem];refine (cc.out (F d) (a_c J.out (hF.below d))).mono ?_;rintro e' w8 ⟨v8,rfl,h8,ad⟩;exact ⟨_,rfl,⟨v8,rfl,(h8.low (hF.below d).size).own⟩,ad⟩
  (try simp only [Act.put,sA_,sB_,sC_])
  refine a_p rfl rfl ?_ ?_
  ·intro F hF hf d;have hFc:=hF.cell;have hFf:=hF.frozen;have h9:=hf _ List.mem_cons_self (by rfl) d;obtain ⟨u9,L,n9⟩:=h9;simp only [] at L n9;simp [a_k,a_g,go_sem,L];exact ⟨n9,Below.refl _ _⟩
  (try simp only [Act.put,sA_,sB_,sC_])
  refine a_n rfl rfl ?_;apply Exists.intro;refine ⟨fun F hF hf K hK=>?_,?_⟩
  ·have hFc:=hF.cell;have hFf:=hF.frozen;have h9:=hf _ List.mem_cons_self (by rfl);obtain ⟨u9,L,_⟩:=h9 W0;simp only [] at L
   go_big_quiet_op
   first|exact hK|(apply Exists.intro;refine ⟨fun _=>?_,?_⟩;(· fail);exact hK)
  (try simp only [Act.put,sA_,sB_,sC_])
  refine b_f ?_;exact rfl
 case pk1=>
  intro x;simp only [b_n,List.foldl_cons,List.foldl_nil,Act.put,sA_,sB_,sC_]
 case yl1=>
  intro x hx;obtain ⟨W9,u9,L,_⟩:=hx _ List.mem_cons_self (by rfl);simp only [] at L;refine ⟨.int .i64 0,fun t ht=>?_,.inl ⟨by rfl,fun w=>?_⟩⟩
  ·cases ht;rfl
  ·simp [execOp,Act.eval,L,go_sem]
 intro zz xs I hf;simp only [List.drop_succ_cons,List.drop_zero];obtain ⟨pa,na,ca,pb,nb,cb,ev,hs,ht⟩:=hf _ (List.mem_cons_of_mem _ List.mem_cons_self);simp only [] at ev;obtain ⟨x4,e4⟩:∃ q,xs 8=q:=⟨_,rfl⟩
 simp only [ev,e4];obtain ⟨HF,r0,r1,r2,r3,z0,z1⟩:=d_5 XR J I hs ht (by omega);have rk:=a_a r0;clear hs ht I hf cc O aj ac ag aa ak xk V;go_wp2;exact bodyPost_ret (v:=.tuple #[.agg #[.slice pa na ca,.slice pb nb cb],.int .i64 0]) (by simp [results,Tryz.results88,go_sem,z0,z1]) rfl ⟨_,rfl,HF.out⟩
theorem t_P:GvP 89 onB 12:=by
 intro ps pt p p2 p3 p4 p5 p6 ns cs nt ct n c n2 c2 n3 c3 n4 c4 n5 c5 n6 c6 A B K a b g hK ok af aj ag w hT h1 h2 h3 h4 h5 h6;obtain ⟨M,O,H,hE,eg⟩:=ok;obtain ⟨R,eR⟩:∃ R,onB 12 K a b g=R:=⟨_,rfl⟩
 rw [eR];obtain ⟨LG,eL⟩:∃ LG,b.1.getD 2 0=LG:=⟨_,rfl⟩
 have ai:Hid (∃ q o,p3=some ⟨q,o,none⟩/\w.cell? ⟨q,o+2,none⟩=some (.int .i64 LG)/\2 < n3):=by
  have ac:2 < b.1.length:=by
   have:=(g_o M (H (by decide)) hE O eg).2;omega
  obtain ⟨p_,c_,e_,hv⟩:=h3.view;cases e_;obtain ⟨q',o',e1,e2⟩:=hv 2 ac;rw [eL] at e2;exact ⟨q',o',e1,e2,ac⟩
 have cc:Hid (∀ W,Below w.heap.size w W->Calls Tryz.prog 116 #[.agg #[.slice p5 n5 c5,.slice p6 n6 c6],.agg #[.slice p n c,.slice p2 n2 c2],.int .i64 K,.int .i64 LG] W fun e w'=>∃ v',e = .returned (.tuple #[v',.int .i64 0])/\TRes w' W.heap.size v' R.1 R.2/\Below W.heap.size W w'):=fun W V=>by
  rw [<- eR];have:=q_D p5 p6 p p2 n5 c5 n6 c6 n c n2 c2 g.1 g.2 a.1 a.2 K (b.1.getD 2 0) O.2.1 O.2.2 M.2.1 M.2.2 (g_o M (H (by decide)) hE O eg).1.2 W (Hid.up_tz hT V) (h5.up V) (h6.up V) (h1.up V) (h2.up V);rw [(g_o M (H (by decide)) hE O eg).1.2] at this;rw [<- eL];exact this
 clear h1 h2 h3 h4 h5 h6;obtain ⟨q6,o6,rfl,d6,ao⟩:=ai.out;have an:(2:Int) < (n3:Int):=by omega
 clear eR hT hK M O H hE eg af aj ag;go_enter Tryz.func89,Tryz.ntmps89;go_wp2_with fail
 generalize D:World.alloc _ _=W0;have J:=b_C (w:=w) D (by go_grown);have XR:Hid (Cel W0 (w.heap.size+4) (.slice none 0 0) (.slice none 0 0)):=a_y D (by simp [go_sem]);have XA:Cel W0 (w.heap.size+1) (.slice p n c) (.slice p2 n2 c2):=(a_y D (by simp [go_sem])).out;obtain ⟨U,ak,_,_⟩:=XA;have ka:=a_a U;have XB:Cel W0 (w.heap.size+2) (.slice (some ⟨q6,o6,none⟩) n3 c3) (.slice p4 n4 c4):=(a_y D (by simp [go_sem])).out;obtain ⟨ad,ah,_,_⟩:=XB;have kb:=a_a ad;have XG:Cel W0 (w.heap.size+3) (.slice p5 n5 c5) (.slice p6 n6 c6):=(a_y D (by simp [go_sem])).out;obtain ⟨ab,am,_,_⟩:=XG;have kg:=a_a ab;have xk:W0.cell? ⟨w.heap.size,3,none⟩=some (.int .i64 K):=by rw [<- D];simp [go_sem]
 have kk:=a_a xk;have aa:=a_d d6 J.out;have k6:=a_a aa;clear D;refine l_v [⟨8,54,TupP W0.heap.size R.1 R.2 0⟩,⟨9,55,OwnT W0.heap.size R.1 R.2⟩] 11 58 (by kernel_rfl) rfl rfl 10 _ rfl (by decide) rfl (by kernel_rfl) (by kernel_rfl) (fun _ _ _ _ h=>h) (by rfl) ?_ ?_
 ·intro e he v W W' h hb;simp only [List.mem_cons,List.not_mem_nil,or_false] at he;rcases he with rfl|rfl
  ·exact TupP.up h hb
  ·exact OwnT.up h hb
 apply Exists.intro;refine ⟨?yl1,?wk1,?pk1,?rest1⟩
 case wk1=>
  intro x;simp only [List.take_succ_cons,List.take_zero]
  iterate 8
   refine a_n rfl rfl ?_;apply Exists.intro;refine ⟨fun F hF hf K hK=>?_,?_⟩
   ·have hFc:=hF.cell;have hFf:=hF.frozen
    go_big_quiet_op
    first|exact hK|(apply Exists.intro;refine ⟨fun _=>?_,?_⟩;(· fail);exact hK)
   (try simp only [Act.put,sA_,sB_,sC_])
  refine a_p rfl rfl ?_ ?_
  ·intro F hF hf d;have hFc:=hF.cell;have hFf:=hF.frozen;simp [a_k,a_g,go_sem];refine (cc.out (F d) (a_c J.out (hF.below d))).mono ?_;rintro e' w8 ⟨v8,rfl,h8,ae⟩;exact ⟨_,rfl,⟨v8,rfl,(h8.low (hF.below d).size).own⟩,ae⟩
  (try simp only [Act.put,sA_,sB_,sC_])
  refine a_p rfl rfl ?_ ?_
  ·intro F hF hf d;have hFc:=hF.cell;have hFf:=hF.frozen;have h9:=hf _ List.mem_cons_self (by rfl) d;obtain ⟨u9,L,n9⟩:=h9;simp only [] at L n9;simp [a_k,a_g,go_sem,L];exact ⟨n9,Below.refl _ _⟩
  (try simp only [Act.put,sA_,sB_,sC_])
  refine a_n rfl rfl ?_;apply Exists.intro;refine ⟨fun F hF hf K hK=>?_,?_⟩
  ·have hFc:=hF.cell;have hFf:=hF.frozen;have h9:=hf _ List.mem_cons_self (by rfl);obtain ⟨u9,L,_⟩:=h9 W0;simp only [] at L
   go_big_quiet_op
   first|exact hK|(apply Exists.intro;refine ⟨fun _=>?_,?_⟩;(· fail);exact hK)
  (try simp only [Act.put,sA_,sB_,sC_])
  refine b_f ?_;exact rfl
 case pk1=>
  intro x;simp only [b_n,List.foldl_cons,List.foldl_nil,Act.put,sA_,sB_,sC_]
 case yl1=>
  intro x hx;obtain ⟨W9,u9,L,_⟩:=hx _ List.mem_cons_self (by rfl);simp only [] at L;refine ⟨.int .i64 0,fun t ht=>?_,.inl ⟨by rfl,fun w=>?_⟩⟩
  ·cases ht;rfl
  ·simp [execOp,Act.eval,L,go_sem]
 intro zz xs I hf;simp only [List.drop_succ_cons,List.drop_zero];obtain ⟨pa,na,ca,pb,nb,cb,ev,hs,ht⟩:=hf _ (List.mem_cons_of_mem _ List.mem_cons_self);simp only [] at ev;obtain ⟨x4,e4⟩:∃ q,xs 8=q:=⟨_,rfl⟩
 simp only [ev,e4];obtain ⟨HF,r0,r1,r2,r3,z0,z1⟩:=d_5 XR J I hs ht (by omega);have rk:=a_a r0;clear hs ht I hf cc U ak ad ah ab am xk aa;go_wp2;exact bodyPost_ret (v:=.tuple #[.agg #[.slice pa na ca,.slice pb nb cb],.int .i64 0]) (by simp [results,Tryz.results89,go_sem,z0,z1]) rfl ⟨_,rfl,HF.out⟩
theorem q_E (op:Int) (ho:¬ (2<=op/\op<=14)) (ps I p p2 L p4 p5 O:Option Addr) (ns cs nt ct n c n2 c2 n3 c3 n4 c4 n5 c5 J V:Nat) (A B K:Int) (w:World):
  Calls Tryz.prog 88 #[.agg #[.int .i64 op,.int .i64 A,.int .i64 B,.int .i64 K,.slice ps ns cs,.slice I nt ct],.agg #[.slice p n c,.slice p2 n2 c2],.agg #[.slice L n3 c3,.slice p4 n4 c4],.agg #[.slice p5 n5 c5,.slice O J V]] w fun e H=>∃ D,e = .returned (.tuple #[D,.int .i64 0])/\TRes H w.heap.size D [] []/\Below w.heap.size w H:=by
 have d2:(op==2)=false:=by simp;omega
 have d3:(op==3)=false:=by simp;omega
 have d4:(op==4)=false:=by simp;omega
 have d5:(op==5)=false:=by simp;omega
 have d6:(op==6)=false:=by simp;omega
 have d7:(op==7)=false:=by simp;omega
 have d8:(op==8)=false:=by simp;omega
 have d9:(op==9)=false:=by simp;omega
 have U:(op==10)=false:=by simp;omega
 have aa:(op==11)=false:=by simp;omega
 have M:(op==12)=false:=by simp;omega
 have ab:(op==13)=false:=by simp;omega
 have R:(op==14)=false:=by simp;omega
 clear ho;go_enter Tryz.func88,Tryz.ntmps88;go_wp2;exact bodyPost_ret (v:=.tuple #[.agg #[.slice none 0 0,.slice none 0 0],.int .i64 0]) (by simp [results,Tryz.results88,go_sem]) rfl ⟨_,rfl,TRes.none _ _,by go_grown⟩
theorem m_G (op:Int) (ho:¬ c_0 op) (ps I p p2 L p4 p5 O:Option Addr) (ns V nt ct n c n2 U n3 c3 n4 c4 n5 c5 J R:Nat) (A B K:Int) (w:World):
  Calls Tryz.prog 89 #[.agg #[.int .i64 op,.int .i64 A,.int .i64 B,.int .i64 K,.slice ps ns V,.slice I nt ct],.agg #[.slice p n c,.slice p2 n2 U],.agg #[.slice L n3 c3,.slice p4 n4 c4],.agg #[.slice p5 n5 c5,.slice O J R]] w fun e H=>∃ D,e = .returned (.tuple #[D,.int .i64 0])/\TRes H w.heap.size D [] []/\Below w.heap.size w H:=by
 have d2:(op==2)=false:=by simp;omega
 have d3:(op==3)=false:=by simp;omega
 have d4:(op==4)=false:=by simp;omega
 have d6:(op==6)=false:=by simp;omega
 have M:(op==12)=false:=by simp;omega
 clear ho;go_enter Tryz.func89,Tryz.ntmps89;go_wp2;exact bodyPost_ret (v:=.tuple #[.agg #[.slice none 0 0,.slice none 0 0],.int .i64 0]) (by simp [results,Tryz.results89,go_sem]) rfl ⟨_,rfl,TRes.none _ _,by go_grown⟩
end Go.Proofs.YtjlofobnmjompaaGreatDoor.Wd
