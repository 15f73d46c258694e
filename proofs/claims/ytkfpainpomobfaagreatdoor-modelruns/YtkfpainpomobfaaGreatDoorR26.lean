/- The reference's Leaf: the node that it a -/
import Derived.Test.YtkfpainpomobfaaGreatDoorR25
import Derived.Test.YtkfpainpomobfaaGreatDoorR22
set_option linter.unusedVariables false
set_option linter.unusedSimpArgs false
set_option maxHeartbeats 16000000
set_option maxRecDepth 16000
namespace Go.Proofs.YtkfpainpomobfaaGreatDoor.Wd
open Go.RowKit Fx List World Nat
theorem i_H:55≠43:=by decide
theorem t_c:StT Tryz.prog 41 55 80:=⟨Tryz.underlying41,by kernel_rfl⟩
theorem h_J {W:World} {B n s E:Nat} {v I H:Value} {M:List Value} (hb:W.heap[E]?=some (.cells #[I,H] 50 (0,0))) (h:W.ownsRow B 55 s v n M):v.ownBlock≠some E:=by
 rcases h.2 with ⟨rfl,_⟩|⟨g,L,J,rfl,_,A,_⟩
 ·simp [Value.ownBlock]
 ·intro e;simp [Value.ownBlock] at e;subst e;rw [hb] at A;cases A
theorem l_B (B O:Nat) (ns:List Nd) (p p2:Option Addr) (n c n2 c2:Nat) (dd H:List Int) (hd:RI dd) (w:World) (hT:Tap 43 55 w B O ns) (h1:Nums .i64 w (.slice p n c) dd) (h2:Nums .i64 w (.slice p2 n2 c2) H) (I:ns.length < 512) (hp:isP dd H):
  Calls Tryz.prog 27 #[.pointer (some ⟨O,0,none⟩),.agg #[.slice p n c,.slice p2 n2 c2]] w fun e w'=>e = .returned (.tuple #[.int .i64 (f_f ns dd H),.int .i64 (e_T ns dd H)])/\Tap 43 55 w' B O (e_o ns dd H)/\Below B w w'/\Only [43,55] w w'/\SpG 43 w.heap.size O w w':=by
 have aA:Hid (Tap 43 55 w B O ns):=hT;obtain ⟨a8,ba,a6,hv,ho,ah,an⟩:=hT.head;obtain ⟨N,eN⟩:∃ N,ns.length=N:=⟨_,rfl⟩
 rw [eN] at hv ho an;have a4:=(a_P hv).1;have hz:=a_k hv;have hl:Hid (N < 512):=by show _ < _;rw [<- eN];exact I
 have a7:decide ((512:Int)<=(N:Int))=false:=decide_eq_false (by have:=hl.out;omega);have a9:decide (512<=N)=false:=decide_eq_false (by have:=hl.out;omega);have cA:=fun W (hW:Bw w W)=>c_6 _ _ dd H hd W (h1.up hW) (h2.up hW);rw [decide_eq_true hp] at cA;have e1:e_T ns dd H=0:=(if_neg (by omega)).trans (if_pos hp);have e2:f_f ns dd H=(N:Int):=by rw [<- eN];exact if_pos ⟨I,hp⟩
 have e3:e_o ns dd H=ns++[⟨1,-1,-1,0,dd,H⟩]:=if_pos ⟨I,hp⟩;rw [e1,e2,e3];have HN:Hid (Nums .i64 w (.slice p n c) dd/\Nums .i64 w (.slice p2 n2 c2) H/\isP dd H):=⟨h1,h2,hp⟩
 haveI:Nonempty World:=⟨w⟩
 clear hT hv ho ah an e1 e2 e3 h1 h2 hd hp I;go_enter Tryz.func27,Tryz.ntmps27;go_wp2_with fail
 generalize aq:alloc _ _=W0;have aI:=p_0 (w:=w) aq (by go_grown);have XA:Hid (Cel W0 w.heap.size (.slice p n c) (.slice p2 n2 c2)):=e_W aq (by simp [go_sem]);clear aq;refine (cA W0 aI).mono ?_;rintro e w1 ⟨rfl,ar⟩;have E:=b_5 (a_c aI ar) ar;clear ar cA;obtain ⟨a0,a1,_,_⟩:=XA.out.up E.2;have z0:=a_b a0;have aF:Hid (∀ W,Bw w1 W->Nums .i64 W (.slice p n c) dd/\dd.length<=1073741824):=fun W hW=>⟨HN.1.up (a_c E.1 hW),by have:=HN.2.2.1.1;rw [a_O] at this;omega⟩
 have aH:Hid (∀ W,Bw w1 W->Nums .i64 W (.slice p2 n2 c2) H/\H.length<=1073741824):=fun W hW=>⟨HN.2.1.up (a_c E.1 hW),by have h3:=HN.2.2.1.2.2;have h4:=HN.2.2.2;omega⟩
 go_wp2_with fail
 refine rel [⟨0,16,Emp .i64 3 w1.heap.size⟩,⟨3,19,fun v W=>OwnK .i64 3 W w1.heap.size v dd⟩,⟨4,20,Emp .i64 48 w1.heap.size⟩,⟨7,23,fun v W=>OwnK .i64 48 W w1.heap.size v H⟩,⟨8,24,OwnT w1.heap.size dd H⟩,⟨9,6,NewC w1.heap.size⟩] 10 42 (by kernel_rfl) rfl rfl (by kernel_rfl) (by rfl) ?_ ?_
 ·intro e he v W W' h hb;simp only [mem_cons,not_mem_nil,or_false] at he;rcases he with rfl|rfl|rfl|rfl|rfl|rfl
  ·obtain ⟨g,e1,h1⟩:=h;exact ⟨g,e1,h1.up hb⟩
  ·exact OwnK.up h hb
  ·obtain ⟨g,e1,h1⟩:=h;exact ⟨g,e1,h1.up hb⟩
  ·exact OwnK.up h hb
  ·exact OwnT.up h hb
  ·exact NewC.up h hb
 apply Exists.intro;refine ⟨fun x=>?_,?_,?_⟩
 ·simp only [take_succ_cons,take_zero];refine c_g rfl rfl ?_ ?_
  ·intro F hF hf d hFc hFf;simp [a_j,a_e,go_sem];exact ⟨⟨(F d).heap.size,rfl,(b_b (k:=.i64) (e:=3) (F d) [] 0 rfl (by decide)).low (hF.below d).size⟩,a_a _ _⟩
  iterate 2
   (try simp only [a_v])
   apply c_w;rfl;rfl
   ·intro F hF hf K hK hFc hFf
    go_big_quiet_op
    exact hK
  (try simp only [a_v])
  refine c_g rfl rfl ?_ ?_
  ·intro F hF hf d hFc hFf;have h9:=hf _ mS (by rfl) d;obtain ⟨g9,e9,o9⟩:=h9;simp only [] at e9;rw [e9] at o9;obtain ⟨v8,w8,hr,ho,hb⟩:=t_s e_g (by decide) 22 (F d) w1.heap.size g9 o9 (hF.below d).size _ _ (aF.out (F d) (hF.below d)).1 (aF.out (F d) (hF.below d)).2;simp [a_j,a_e,execOp,resolve,invoke,builtin,Act.eval,e9,hr,Result.andThen];exact ⟨ho,hb⟩
  (try simp only [a_v])
  refine c_g rfl rfl ?_ ?_
  ·intro F hF hf d hFc hFf;simp [a_j,a_e,go_sem];exact ⟨⟨(F d).heap.size,rfl,(b_b (k:=.i64) (e:=48) (F d) [] 0 rfl (by decide)).low (hF.below d).size⟩,a_a _ _⟩
  iterate 2
   (try simp only [a_v])
   apply c_w;rfl;rfl
   ·intro F hF hf K hK hFc hFf
    go_big_quiet_op
    exact hK
  (try simp only [a_v])
  refine c_g rfl rfl ?_ ?_
  ·intro F hF hf d hFc hFf;have h9:=hf _ (mC (mC mS)) (by rfl) d;obtain ⟨g9,e9,o9⟩:=h9;simp only [] at e9;rw [e9] at o9;obtain ⟨v8,w8,hr,ho,hb⟩:=t_s l_5 (by decide) 26 (F d) w1.heap.size g9 o9 (hF.below d).size _ _ (aH.out (F d) (hF.below d)).1 (aH.out (F d) (hF.below d)).2;simp [a_j,a_e,execOp,resolve,invoke,builtin,Act.eval,e9,hr,Result.andThen];exact ⟨ho,hb⟩
  (try simp only [a_v])
  refine c_g rfl rfl ?_ ?_
  ·intro F hF hf d hFc hFf;have h9:OwnK .i64 3 (F d) w1.heap.size (x 3) dd:=hf _ (mC mS) (by rfl) d;have h8:OwnK .i64 48 (F d) w1.heap.size (x 7) H:=hf _ (mC (mC (mC mS))) (by rfl) d;obtain ⟨p9,n9,c9,e9⟩:=h9.form_;obtain ⟨p8,n8,c8,e8⟩:=h8.form_;rw [e9] at h9;rw [e8] at h8;simp [a_j,a_e,go_sem,e9,e8];exact ⟨⟨_,_,_,_,_,_,rfl,h9,h8⟩,Below.refl _ _⟩
  (try simp only [a_v])
  refine c_g rfl rfl ?_ ?_
  ·intro F hF hf d hFc hFf;simp [a_j,a_e,go_sem];exact ⟨⟨(F d).heap.size,rfl,heap_alloc_new (F d) _,(hF.below d).size⟩,a_a _ _⟩
  (try simp only [a_v])
  refine b_A ?_;exact rfl
 ·exact fun x=>rfl
 ·intro w5 ac aj hf;simp only [drop_succ_cons,drop_zero];have aQ:=hf _ (mC (mC (mC (mC mS))));have aM:=hf _ (mC (mC (mC (mC (mC mS)))));obtain ⟨y0,aU⟩:∃ q,ac 0=q:=⟨_,rfl⟩
  obtain ⟨y3,aG⟩:∃ q,ac 3=q:=⟨_,rfl⟩
  obtain ⟨y4,aJ⟩:∃ q,ac 4=q:=⟨_,rfl⟩
  obtain ⟨y7,aP⟩:∃ q,ac 7=q:=⟨_,rfl⟩
  obtain ⟨y8,au⟩:∃ q,ac 8=q:=⟨_,rfl⟩
  obtain ⟨y9,av⟩:∃ q,ac 9=q:=⟨_,rfl⟩
  simp only [au,av] at aQ aM;simp only [aU,aG,aJ,aP,au,av];clear aU aG aJ aP au av hf;obtain ⟨L,J,M,V,nb,Z,rfl,aB,aN⟩:=aQ;obtain ⟨R,rfl,ae,ay⟩:=aM;have o6:Only [50] w5 (set2 w5 R (.slice L J M) (.slice V nb Z)):=(Only.set ae (by simp)).trans (Only.set (a_l ae) (by simp))
  have ab:(set2 w5 R (.slice L J M) (.slice V nb Z)).heap[R]?=some (.cells #[.slice L J M,.slice V nb Z] 50 (0,0)):=by
   show (setCell _ _ _).heap[R]?=_;rw [a_l (a_l ae)];rfl
  obtain ⟨r0,r1,r2,r3⟩:=c_x ae;have al:B<=w.heap.size:=Nat.le_trans aA.1 (Nat.le_of_lt hz);have aD:w.heap.size<=R:=Nat.le_trans E.1.size ay;have az:Hid (Tap 43 55 (set2 w5 R (.slice L J M) (.slice V nb Z)) B O ns):=(aA.out.up (a_c E.1 aj)).only o6 (by decide) (by decide) (by decide) (by decide)
  have ag:Hid (Below B w (set2 w5 R (.slice L J M) (.slice V nb Z))/\B<=(set2 w5 R (.slice L J M) (.slice V nb Z)).heap.size/\Only [43,55] w (set2 w5 R (.slice L J M) (.slice V nb Z))):=by
   have hb:=a_q (a_c E.1 aj) R aD (.slice L J M) (.slice V nb Z);exact ⟨hb.mono al,Nat.le_trans al hb.size,Only.of hb⟩
  have af:Hid (NdC (set2 w5 R (.slice L J M) (.slice V nb Z)) B ⟨1,-1,-1,0,dd,H⟩ [.int .i64 1,.int .i64 (-1),.int .i64 (-1),.int .i64 0,.slice L J M,.slice V nb Z]):=⟨_,_,rfl,(aB.only o6 (by decide)).low (Nat.le_trans al E.1.size),(aN.only o6 (by decide)).low (Nat.le_trans al E.1.size)⟩
  have aC:Hid ((∀ ad m c,Value.slice L J M = .slice (some ad) m c->w.heap.size<=ad.block)/\Bw w (set2 w5 R (.slice L J M) (.slice V nb Z))):=⟨fun ad m c e=>Nat.le_trans E.1.size (g_0 aB ad m c e),a_q (a_c E.1 aj) R aD (.slice L J M) (.slice V nb Z)⟩
  clear aB aN o6 a0 a1 z0;go_wp2_with fail
  obtain ⟨w6,ax⟩:∃ w6:World,set2 w5 R (.slice L J M) (.slice V nb Z)=w6:=⟨_,rfl⟩
  rw [ax] at az ag af ab aC;simp only [ax];have aw:=ag;have ao:=af;obtain ⟨pL,cL,ak,hv,ho,ah,an⟩:=az.out.head;rw [eN] at hv ho;have A:Hid (B<=O/\w6.heap[O]?=some (.cells #[.slice pL N cL] 43 (0,0))/\ns.length=N/\w6.ownsRow B 55 6 (.slice pL N cL) N ak/\NdsC w6 B ns ak):=⟨aA.1,hv,eN,ho,ah⟩
  have ai:Hid (Cel w6 R (.slice L J M) (.slice V nb Z)/\some R≠Value.ownBlock (.slice pL N cL)):=⟨c_x ab,Ne.symm (h_J ab ho)⟩
  have aX:Hid (∀ k,Value.ownBlock (.slice pL N cL)=some k->k < w6.heap.size):=fun k hk=>(ownsRow.lt ho k hk).2;have a3:Hid _:=ao.out.one;clear hv ho ah an r0 r1 r2 r3 ae ab aj ag af az ax;refine a_7 (by kernel_rfl) ?_;refine seg (fun q W=>match q with|false=>Bw w6 W|true=>w6.grownBy W (Value.ownBlock (.slice pL N cL))) (fun W W'=>W.grownBy W' (Value.ownBlock (.slice pL N cL))) 8 [⟨7,32,LitS 55 w6.heap.size [.int .i64 1,.int .i64 (-1),.int .i64 (-1),.int .i64 0,.slice L J M,.slice V nb Z]⟩,⟨8,33,OwnN 55 B (N+1) (ak++[.int .i64 1,.int .i64 (-1),.int .i64 (-1),.int .i64 0,.slice L J M,.slice V nb Z])⟩] 0 11 42 rfl rfl (by kernel_rfl) (by rfl) ?_ ?_ ?_ ?_ ?_ ?_
  ·intro q W W' h hb;cases q
   ·exact a_c h hb
   ·exact d_U h hb
  ·exact ⟨rfl,rfl,rfl,Nat.le_refl _,fun _ _=>rfl⟩
  ·exact .inl ⟨_,mC mS,rfl⟩
  ·exact upC (fun _ _ _=>LitS.up) (upC (fun _ _ _=>OwnN.up) upN)
  ·intro e he aW v W W' h hc ht;simp only [mem_cons,not_mem_nil,or_false] at he;rcases he with rfl|rfl
   ·exact LitS.grown h ht aX.out
   ·exact absurd rfl aW
  apply Exists.intro;refine ⟨fun x=>?_,?_,?_⟩
  ·simp only [drop_succ_cons,drop_zero,take_succ_cons,take_zero]
   iterate 4
    apply d_n;rfl;rfl
    ·intro b F hF hf K hK hFc
     go_big_quiet_op
     exact hK
    (try simp only [a_v])
   apply d_n;rfl;rfl
   ·intro b F hF hf K hK hFc
    have q0:∀ d,(F d).cell? ⟨O,0,none⟩=some (.slice pL N cL):=fun d=>by
     have hK:w6.grownBy (F d) (Value.ownBlock (.slice pL N cL)):=by
      cases b
      ·exact a_B _ (hFc d)
      ·exact hFc d
     exact hK.cell (a_P A.2.1).1 (Ne.symm (b_U i_H A.2.1 A.2.2.2.1))
    clear hFc
    go_big_quiet_op
    exact hK
   (try simp only [a_v])
   apply d_n;rfl;rfl
   ·intro b F hF hf K hK hFc
    have q0:∀ d,(F d).cell? ⟨R,0,none⟩=some (.slice L J M)/\(F d).cell? ⟨R,1,none⟩=some (.slice V nb Z):=fun d=>by
     have hK:w6.grownBy (F d) (Value.ownBlock (.slice pL N cL)):=by
      cases b
      ·exact a_B _ (hFc d)
      ·exact hFc d
     exact ⟨hK.cell ai.1.1 ai.2,hK.cell ai.1.2.1 ai.2⟩
    have q1:=fun d=>(q0 d).1;have q2:=fun d=>(q0 d).2;clear hFc q0
    go_big_quiet_op
    exact hK
   (try simp only [a_v])
   apply d_n;rfl;rfl
   ·intro b F hF hf K hK hFc
    go_big_quiet_op
    exact hK
   (try simp only [a_v])
   refine a_U rfl (by decide) rfl ?_ ?_
   ·intro b F hF hf d;have hFc:=hF.cls
    have aS:w6.heap.size<=(F d).heap.size:=by
     cases b
     ·exact (hFc d).size
     ·exact (hFc d).size
    simp [a_j,a_e,go_sem];exact ⟨⟨(F d).heap.size,rfl,heap_alloc_new (F d) _,aS⟩,a_a _ _⟩
   (try simp only [a_v])
   refine c_P rfl rfl rfl ?_ ?_
   ·intro W hW hf;have h7:=hf _ mS (by rfl) W;obtain ⟨g7,e7,aV,_⟩:=h7;simp only [] at e7;obtain ⟨g8,c8,w8,a2,a5,ap⟩:=u_x t_c (by decide) 41 W B (.slice pL N cL) N ak (a_z (S:=[]) A.2.2.2.1 (Only.of hW) (by simp)) g7 [.int .i64 1,.int .i64 (-1),.int .i64 (-1),.int .i64 0,.slice L J M,.slice V nb Z] aV rfl a3.out (by have:=hl.out;omega) (Nat.le_trans A.1 (Nat.le_trans (Nat.le_of_lt (a_k A.2.1)) (Below.size hW)));simp [b_i,a_Z,execOp,resolve,invoke,builtin,Act.eval,e7,a2,Result.andThen];exact ⟨a5,b_2 (a_B _ hW) ap,ap⟩
   iterate 2
    (try simp only [a_v])
    apply d_n;rfl;rfl
    ·intro b F hF hf K hK hFc
     go_big_quiet_op
     exact hK
   (try simp only [a_v])
   refine e_b ?_;exact rfl
  ·exact fun x=>rfl
  ·intro w8 aO aL aE;have aa:=aL;refine c_z 11 (by kernel_rfl) ?_;simp only [drop_succ_cons,drop_zero];have h8:=aE _ (mC mS);obtain ⟨x7,e7⟩:∃ q,aO 7=q:=⟨_,rfl⟩
   obtain ⟨x8,e8⟩:∃ q,aO 8=q:=⟨_,rfl⟩
   simp only [e8] at h8;simp only [e7,e8];obtain ⟨g8,c8,rfl,_,_⟩:=ownsRow.form h8 (by omega);obtain ⟨aR,aT⟩:=Tap.push (TT:=43) (NT:=55) i_H (by decide) (by decide) (nd:=⟨1,-1,-1,0,dd,H⟩) A.1 A.2.1 (by rw [A.2.2.1];exact A.2.2.2.1) A.2.2.2.2 ao.out aa (by rw [A.2.2.1];exact h8)
   have am:w8.heap[O]?=some (.cells #[.slice pL N cL] 43 (0,0)):=by
    rw [aa.block O (a_k A.2.1) (Ne.symm (b_U i_H A.2.1 A.2.2.2.1))];exact A.2.1
   obtain ⟨r0,r1⟩:=a_P am;have y0:=(a_P (v:=.slice (some ⟨g8,0,none⟩) (N+1) c8) (e:=43) (W:=w8.setCell ⟨O,0,none⟩ (.slice (some ⟨g8,0,none⟩) (N+1) c8)) (by rw [a_l am];rfl)).1
   have HF:Hid (Tap 43 55 (w8.setCell ⟨O,0,none⟩ (.slice (some ⟨g8,0,none⟩) (N+1) c8)) B O (ns++[⟨1,-1,-1,0,dd,H⟩])/\Below B w (w8.setCell ⟨O,0,none⟩ (.slice (some ⟨g8,0,none⟩) (N+1) c8))/\Only [43,55] w (w8.setCell ⟨O,0,none⟩ (.slice (some ⟨g8,0,none⟩) (N+1) c8))/\SpG 43 w.heap.size O w (w8.setCell ⟨O,0,none⟩ (.slice (some ⟨g8,0,none⟩) (N+1) c8))):=
    ⟨aR,(Below.grown aw.1 aa aw.2.1 (f_g A.2.2.2.1)).setCell (p:=⟨O,0,none⟩) A.1 _,aw.2.2.trans aT,fun x hx ha=>k_A i_H A.2.1 A.2.2.2.1 (by rw [A.2.2.2.2.1,A.2.2.1]) am h8 rfl (fun ad m c e=>by have:=aC.1 ad m c e;omega) (ha.up aC.2)⟩
   clear aR aT aL aa h8 aE am;have aY:((N+1:Nat):Int) - 1=(N:Int):=by omega
   have aZ:wrap64 (N:Int)=(N:Int):=by have:=hl.out;unfold wrap64;omega
   go_wp2;exact bodyPost_ret (v:=.tuple #[.int .i64 (N:Int),.int .i64 0]) (by simp [results,Tryz.results27,go_sem,aY,aZ]) rfl ⟨rfl,HF.out⟩
end Go.Proofs.YtkfpainpomobfaaGreatDoor.Wd
