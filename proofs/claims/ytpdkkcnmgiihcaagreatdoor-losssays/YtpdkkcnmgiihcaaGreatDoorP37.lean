/- The reference's Do, whatever it is asked, where what reckon tells at its Op is known. · The reference's Bent: what it hands back. · The reference's reckon: the document's table. -/
import Derived.Test.YtpdkkcnmgiihcaaGreatDoorP36
import Derived.Test.YtpdkkcnmgiihcaaGreatDoorP33
import Derived.Test.YtpdkkcnmgiihcaaGreatDoorP13
import Derived.Test.YtpdkkcnmgiihcaaGreatDoorP01
import Derived.Test.YtpdkkcnmgiihcaaGreatDoorP09
import Derived.Test.YtpdkkcnmgiihcaaGreatDoorP35
import Derived.Test.YtpdkkcnmgiihcaaGreatDoorP31
set_option linter.unusedVariables false
set_option linter.unusedSimpArgs false
set_option maxHeartbeats 16000000
set_option maxRecDepth 16000
namespace Go.Proofs.YtpdkkcnmgiihcaaGreatDoor.Wd
open Go.RowKit Fx
theorem rdo_sp (B tb:Nat) (ns:List Nd) (hG:NodesG ns) (op a b k:Int) (hRk:2≤op∧op≤14→RkP op) (w:World) (hT:Tap 41 47 w B tb ns) (hk:InR k):
  Calls Tryz.prog 34 #[.pointer (some ⟨tb,0,none⟩),.int .i64 op,.int .i64 a,.int .i64 b,.int .i64 k] w fun e w'=>e = .returned (.tuple #[.int .i64 (doR ns op a b k),.int .i64 (doE ns op a b k)])∧Tap 41 47 w' B tb (doN ns op a b k)∧Below B w w'∧Only [41,47] w w':=by
 by_cases hf:512≤ns.length
 ·exact rdo_full B tb ns hG op a b k w hT hf
 by_cases ho:okD ns op a b
 case neg=>exact rdo_bad B tb ns hG op a b k w hT (by omega) ho
 obtain ⟨ai,rfl⟩:∃ i:Nat,a=i:=⟨a.toNat,by have:=ho.2.1;omega⟩
 have hai:ai < ns.length:=by have:=ho.2.1;omega
 obtain ⟨nda,hnda⟩:∃ nd,ns[ai]?=some nd:=⟨_,List.getElem?_eq_getElem hai⟩
 have hga:TnsG nda.D nda.X:=hG nda (nd_mem hnda)
 have ena:=nd_at hnda
 have f1:dE ns op (ai:Int) b k=rkE op nda.D nda.X (dD ns op b) (dX ns op b) (dK op k):=by unfold dE;rw [ena]
 have f2:dN ns op (ai:Int) b k=⟨op,(ai:Int),dB op b,dK op k,rkD op nda.D nda.X (dD ns op b) (dX ns op b) (dK op k),rkV op nda.D nda.X (dD ns op b) (dX ns op b) (dK op k)⟩:=by unfold dN;rw [ena]
 have g1:doE ns op (ai:Int) b k=rkE op nda.D nda.X (dD ns op b) (dX ns op b) (dK op k):=(if_neg hf).trans ((if_pos ho).trans f1)
 have hgb:RI (dD ns op b)∧RI (dX ns op b):=by
  unfold dD dX
  by_cases h2:twoP op
  ·rw [if_pos h2,if_pos h2]
   exact (hG.at (ho.2.2 h2).1 (ho.2.2 h2).2).2
  ·rw [if_neg h2,if_neg h2]
   exact ⟨fun y hy=>by simp at hy,fun y hy=>by simp at hy⟩
 have hkK:InR (dK op k):=by
  unfold dK
  split
  ·exact hk
  ·unfold InR;omega
 rw [g1]
 refine rdo_ok B tb ns op ai b k nda hnda (dD ns op b) (dX ns op b) (dB op b) (dK op k) ?_ ?_ ho.1.1 ho.1.2 (by omega) _ (rkD op nda.D nda.X (dD ns op b) (dX ns op b) (dK op k)) (rkV op nda.D nda.X (dD ns op b) (dX ns op b) (dK op k)) _ _ ⟨fun h=>?_,fun h=>?_⟩ w hT ?_
 ·by_cases h2:twoP op
  ·have hb:=ho.2.2 h2
   obtain ⟨bi,rfl⟩:∃ i:Nat,b=i:=⟨b.toNat,by omega⟩
   obtain ⟨ndb,hndb⟩:∃ nd,ns[bi]?=some nd:=⟨_,List.getElem?_eq_getElem (by omega)⟩
   have enb:=nd_at hndb
   exact .inl ⟨h2,if_pos h2,bi,ndb,rfl,hndb,(if_pos h2).trans (by rw [enb]),(if_pos h2).trans (by rw [enb])⟩
  ·exact .inr ⟨h2,if_neg h2,if_neg h2,if_neg h2⟩
 ·by_cases h3:byP op
  ·exact .inl ⟨h3,if_pos h3⟩
  ·exact .inr ⟨h3,if_neg h3⟩
 ·have hP:doP ns op (ai:Int) b k:=⟨⟨by omega,ho⟩,f1.trans h⟩
  exact ⟨if_pos hP,(if_pos hP).trans (by rw [f2])⟩
 ·have hP:¬ doP ns op (ai:Int) b k:=fun h'=>h (f1.symm.trans h'.2)
  exact ⟨if_neg hP,if_neg hP⟩
 intro W pA qA pB qB nA cA mA eA nB cB mB eB hW gc g1 g2 g4 g5
 exact hRk ho.1 pA qA pB qB nA cA mA eA nB cB mB eB _ _ _ _ _ hkK hga hgb.1 hgb.2 gc W g1 g2 g4 g5
theorem rbent_any (k:Int) (p p2:Option Addr) (n c n2 c2:Nat) (d x:List Int) (hd:RI d) (hx:RI x) (w:World) (h1:Nums .i64 w (.slice p n c) d) (h2:Nums .i64 w (.slice p2 n2 c2) x):
  Calls Tryz.prog 79 #[.int .i64 k,.agg #[.slice p n c,.slice p2 n2 c2]] w fun e w'=>∃ v',e = .returned (.tuple #[v',.int .i64 (bentE k d x)])∧TRes w' w.heap.size v' (bentD k d x) (bentV k d x)∧Below w.heap.size w w':=by
 have cA:=fun W (hW:Below w.heap.size w W)=>ris_any _ _ d x hd W (h1.up hW) (h2.up hW)
 unfold bentE bentD bentV
 by_cases hk:1≤k∧k≤5
 ·by_cases hp:isP d x
  ·rw [decide_eq_true hp] at cA
   rw [if_pos ⟨hk,hp⟩,if_pos ⟨hk,hp⟩,if_pos ⟨hk,hp⟩]
   have cN:=fun W (hW:Below w.heap.size w W)=>rnew_any _ d hd hp.1 0 W (h1.up hW)
   obtain ⟨V,eV⟩:∃ V,(x.map fun y=>Fx.bendI k y)=V:=⟨_,rfl⟩
   rw [eV]
   obtain ⟨_,_,_,e4,HX⟩:=h2.lst
   cases e4
   have hlen:x.length≤4096:=by rw [hp.2];exact hp.1.2.2
   rw [← hp.2] at cN
   rw [HX.out.1] at hlen cN
   obtain ⟨N,eN⟩:∃ N,N=n2:=⟨_,rfl⟩
   obtain rfl:=eN
   have hlen':(N:Int)≤4096:=by omega
   have HL:Hid (V.length=N):=by show _=_;rw [← eV,List.length_map];exact HX.out.1
   have HV:Hid ((x.map fun y=>Fx.bendI k y)=V∧RI x∧x.length=N∧1≤k∧k≤5):=⟨eV,hx,HX.out.1,hk⟩
   have hk1:=hk.1
   have hk2:=hk.2
   clear eV h1 h2 hd hx hp hk
   go_enter Tryz.func79,Tryz.ntmps79
   go_wp2_with fail
   generalize hW0:World.alloc _ _=W0
   have HB0:=hidB (w:=w) hW0 (by go_grown)
   have XA:Hid (Cel W0 w.heap.size (.slice p n c) (.slice p2 N c2)):=celW hW0 (by simp [go_sem])
   have XR:Hid (Cel W0 (w.heap.size+1) (.slice none 0 0) (.slice none 0 0)):=celW hW0 (by simp [go_sem])
   clear hW0
   refine (cA W0 HB0.out).mono ?_
   rintro e w1 ⟨rfl,hB1⟩
   have HB1:=hid2 (bstep HB0.out hB1) hB1
   clear hB1 cA
   obtain ⟨a0,a1,_,_⟩:=XA.out.up HB1.out.2
   have HBz:Hid (Below w.heap.size w w1∧Below W0.heap.size W0 w1):=HB1.out
   go_wp2_with fail
   refine (cN w1 HBz.out.1).mono ?_
   rintro e w4 ⟨v4,rfl,⟨s4,g,cg,rfl,hs4,ht4,hOff,hgB⟩,hB4⟩
   obtain ⟨p8,n8,c8,rfl,_⟩:=hs4.nums.lst
   have HOff:Hid (Off g (.slice p8 n8 c8)):=hOff
   go_wp2_with fail
   generalize hW5:World.alloc _ _=W5
   obtain ⟨b5,hb5⟩:∃ b5,w4.heap.size=b5:=⟨_,rfl⟩
   have B5:Below w4.heap.size w4 W5:=by rw [← hW5];exact up_alloc w4 _
   have XT:Hid (Cel W5 b5 (.slice p8 n8 c8) (.slice (some ⟨g,0,none⟩) N cg)):=by
    show Cel _ _ _ _
    unfold Cel
    rw [← hW5,← hb5]
    simp [go_sem]
   have HB5:Hid (Below w.heap.size w W5∧Below W0.heap.size W0 W5):=⟨bstep HBz.out.1 (bstep hB4 B5),bstep HBz.out.2 (bstep hB4 B5)⟩
   have HD5:Hid (OwnK .i64 3 W5 w1.heap.size (.slice p8 n8 c8) d):=hs4.up B5
   have HO5:Hid (OwnK .i64 33 W5 g (.slice (some ⟨g,0,none⟩) N cg) (rowF V 0)):=by
    show OwnK _ _ _ _ _ _
    rw [rowF_zero,HL.out]
    exact (ht4.up B5).base
   have hz:=cell_lt XR.out.1
   have hgl:=ht4.size
   have Hg:Hid (W0.heap.size≤g∧w.heap.size+1 < W0.heap.size∧g < b5∧w1.heap.size≤g∧W0.heap.size≤w1.heap.size):=⟨Nat.le_trans HBz.out.2.size hgB,hz,by omega,hgB,HBz.out.2.size⟩
   rw [hb5]
   clear a0 a1 hW5 B5 hb5 hz hgl hs4 ht4 hB4 hgB hOff cN
   go_loopg [7] N (fun gg i wr=>∃ (q:Nat),q≤N∧gg=N - q∧i = .int .i64 (q:Int)∧Hid (OwnK .i64 33 wr g (.slice (some ⟨g,0,none⟩) N cg) (rowF V q))∧Hid (Below w.heap.size w wr∧Stay g W5 wr))
   case atStart=>exact ⟨0,by omega,by omega,by first|rfl|simp,HO5,HB5.out.1,Stay.refl _ _⟩
   case round=>
    obtain ⟨j,hj,hgg,rfl,HRk,hBS⟩:=hrel
    obtain ⟨R1,hR1⟩:∃ R1:World,R1=wr:=⟨_,rfl⟩
    subst hR1
    by_cases hjn:j < N
    ·have hj':(j:Int) < (N:Int):=by omega
     have hnb:b5≠g:=by have:=Hg.out;omega
     have hne0:w.heap.size≠g:=by have:=Hg.out;omega
     obtain ⟨t0,t1,_,_⟩:=XT.out.stay hBS.out.2 hnb
     obtain ⟨a0,a1,_,_⟩:=(XA.out.up HB5.out.2).stay hBS.out.2 hne0
     obtain ⟨q,o,rfl,hc0⟩:=HX.out.2 j hjn
     have hc1:=cell_low hc0 hBS.out.1
     have rx:=HV.out.2.1.at j (by rw [HV.out.2.2.1];exact hjn)
     obtain ⟨X,eX⟩:∃ X,x.getD j 0=X:=⟨_,rfl⟩
     rw [eX] at hc1 rx
     obtain ⟨Z,eZ⟩:∃ Z,Fx.bendI k X=Z:=⟨_,rfl⟩
     have HZ:Hid (V.getD j 0=Z):=by
      show _=_
      rw [← HV.out.1,map_at _ _ _ (by rw [HV.out.2.2.1];exact hjn),eX,eZ]
     have cz:∀ W,Calls Tryz.prog 99 #[.int .i64 k,.int .i64 X] W fun e w'=>e = .returned (.int .i64 Z)∧Below W.heap.size W w':=fun W=>Rf.rbend_any k X HV.out.2.2.2 rx Z eZ W
     clear eX eZ hc0
     have z0:=cell_lt a0
     have z1:=cell_lt t0
     have z2:=cell_lt hc1
     have z3:=HRk.out.size
     clear hnb hne0
     go_wp2_with fail
     refine flow 11 42 (by kernel_rfl) rfl rfl (by kernel_rfl) ?_
     apply Exists.intro
     refine ⟨?_,?_⟩
     ·intro F hF
      have hFc:=hF.cell
      have hFf:=hF.frozen
      simp only [List.take_succ_cons,List.take_zero,List.eraseIdx_cons_succ,List.eraseIdx_cons_zero]
      repeat (go_big_quiet_step (first|(go_at_call 99;with_reducible exact hF.call (cz _))))
      refine wpQuiet_nil ?_
      exact rfl
     ·intro W1 hb1
      simp only [List.drop_succ_cons,List.drop_zero]
      have HR2:=HRk.out.up hb1
      obtain ⟨hown,hfz⟩:=HR2.cell (by rw [rowF_len];exact HL.out) j hjn
      have H5:Hid (OwnK .i64 33 (W1.setCell ⟨g,j,none⟩ (.int .i64 Z)) g (.slice (some ⟨g,0,none⟩) N cg) (rowF V (j+1))):=by
       have:=HR2.store (by rw [rowF_len];exact HL.out) j Z
       have e2:=rowF_set V j (by rw [HL.out];exact hjn)
       rw [HZ.out] at e2
       rw [e2] at this
       exact this
      have hgw:w.heap.size≤g:=by have:=Hg.out;omega
      have H6:Hid (Below w.heap.size w (W1.setCell ⟨g,j,none⟩ (.int .i64 Z))∧Stay g W5 (W1.setCell ⟨g,j,none⟩ (.int .i64 Z))):=⟨(bstep hBS.out.1 hb1).setCell (p:=⟨g,j,none⟩) hgw _,(hBS.out.2.up hb1).set _ _⟩
      clear HR2 hb1 z0 z1 z2 z3 a0 a1 t0 t1 hgw cz
      go_wp2
      go_roundg (N - (j+1))
      case measure=>omega
      case rel=>exact ⟨j+1,by omega,rfl,by first|rfl|simp,H5,H6⟩
    ·obtain rfl:j=N:=by omega
     have hfin:=HRk.out
     rw [← HL.out,rowF_full,HL.out] at hfin
     have HXR:Hid (Cel W5 (w.heap.size+1) (.slice none 0 0) (.slice none 0 0)):=XR.out.up HB5.out.2
     have hnb:b5≠g:=by have:=Hg.out;omega
     obtain ⟨t0,t1,_,_⟩:=XT.out.stay hBS.out.2 hnb
     have hne1:w.heap.size+1≠g:=by have:=Hg.out;omega
     have hfd:=HD5.out.stay hBS.out.2 (fun ad n1 c1 e1=>HOff.out ad n1 c1 e1)
     have HF:Hid (TRes (set2 R1 (w.heap.size+1) (.slice p8 n8 c8) (.slice (some ⟨g,0,none⟩) j cg)) w.heap.size (.agg #[.slice p8 n8 c8,.slice (some ⟨g,0,none⟩) j cg]) d V∧Below w.heap.size w (set2 R1 (w.heap.size+1) (.slice p8 n8 c8) (.slice (some ⟨g,0,none⟩) j cg))):=
      ⟨(TRes.set (hfd.low Hg.out.2.2.2.2) (hfin.low Hg.out.1) Hg.out.2.1).low HB0.out.size,below_cell hBS.out.1 _ (by omega) _ _⟩
     have xr:=HXR.out.stay hBS.out.2 hne1
     have cf:=xr.set (.slice p8 n8 c8) (.slice (some ⟨g,0,none⟩) j cg)
     obtain ⟨r0,r1,r2,r3⟩:=xr
     obtain ⟨y0,y1,_,_⟩:=cf
     clear hfin hfd hne1 hnb
     go_wp2
     exact bodyPost_ret (v:=.tuple #[.agg #[.slice p8 n8 c8,.slice (some ⟨g,0,none⟩) j cg],.int .i64 0]) (by simp [results,Tryz.results79,go_sem,y0,y1]) rfl ⟨_,rfl,HF.out⟩
  ·rw [decide_eq_false hp] at cA
   rw [if_neg fun h=>hp h.2,if_neg fun h=>hp h.2,if_neg fun h=>hp h.2]
   have hk1:=hk.1
   have hk2:=hk.2
   clear h1 h2 hd hx hp hk
   go_enter Tryz.func79,Tryz.ntmps79
   go_wp2_with fail
   generalize hW0:World.alloc _ _=W0
   have HB0:=hidB (w:=w) hW0 (by go_grown)
   have XA:Hid (Cel W0 w.heap.size (.slice p n c) (.slice p2 n2 c2)):=celW hW0 (by simp [go_sem])
   have XR:Hid (Cel W0 (w.heap.size+1) (.slice none 0 0) (.slice none 0 0)):=celW hW0 (by simp [go_sem])
   clear hW0
   refine (cA W0 HB0.out).mono ?_
   rintro e w1 ⟨rfl,hB1⟩
   have HB1:=hid2 (bstep HB0.out hB1) hB1
   clear hB1 cA
   have xr:=(XR.out.up (HB1.out).2)
   have BF:=below_cell ((HB1.out).1) (w.heap.size+1) (by omega) (.slice none 0 0) (.slice none 0 0)
   have cf:=xr.set (.slice none 0 0) (.slice none 0 0)
   obtain ⟨r0,r1,r2,r3⟩:=xr
   obtain ⟨y0,y1,_,_⟩:=cf
   go_wp2
   exact bodyPost_ret (v:=.tuple #[.agg #[.slice none 0 0,.slice none 0 0],.int .i64 1]) (by simp [results,Tryz.results79,go_sem,y0,y1]) rfl ⟨_,rfl,TRes.none _ _,BF⟩
 ·rw [if_neg fun h=>hk h.1,if_neg fun h=>hk h.1,if_neg fun h=>hk h.1]
  clear h1 h2 hd hx cA
  by_cases hk1:k < 1
  ·go_enter Tryz.func79,Tryz.ntmps79
   go_wp2
   exact bodyPost_ret (v:=.tuple #[.agg #[.slice none 0 0,.slice none 0 0],.int .i64 1]) (by simp [results,Tryz.results79,go_sem]) rfl ⟨_,rfl,TRes.none _ _,by go_grown⟩
  ·have hk2:5 < k:=by omega
   have hk3:1≤k:=by omega
   go_enter Tryz.func79,Tryz.ntmps79
   go_wp2
   exact bodyPost_ret (v:=.tuple #[.agg #[.slice none 0 0,.slice none 0 0],.int .i64 1]) (by simp [results,Tryz.results79,go_sem]) rfl ⟨_,rfl,TRes.none _ _,by go_grown⟩
theorem rk2:RkP 2:=by
 intro p p2 p3 p4 n c n2 c2 n3 c3 n4 c4 dd yy d' y' K hK hg hd' hy' hnc w h1 h2 h3 h4
 have hd:=hg.2.1
 have hx:=hg.2.2
 obtain ⟨E,eE⟩:∃ E,rkE 2 dd yy d' y' K=E:=⟨_,rfl⟩
 obtain ⟨D,eD⟩:∃ D,rkD 2 dd yy d' y' K=D:=⟨_,rfl⟩
 obtain ⟨V,eV⟩:∃ V,rkV 2 dd yy d' y' K=V:=⟨_,rfl⟩
 rw [eE,eD,eV]
 have cc:∀ W,Below w.heap.size w W→Calls Tryz.prog 40 #[.int .i64 0,.agg #[.slice p n c,.slice p2 n2 c2],.agg #[.slice p3 n3 c3,.slice p4 n4 c4]] W fun e w'=>∃ v',e = .returned (.tuple #[v',.int .i64 E])∧TRes w' W.heap.size v' D V∧Below W.heap.size W w':=fun W hW=>by
  rw [← eE,← eD,← eV]
  exact reach0_any p p2 p3 p4 n c n2 c2 n3 c3 n4 c4 dd yy d' y' hd hx hd' hy' W (h1.up hW) (h2.up hW) (h3.up hW) (h4.up hW)
 clear eE eD eV h1 h2 h3 h4 hd hx hd' hy' hg hK hnc
 go_enter Tryz.func50,Tryz.ntmps50
 go_wp2_with fail
 generalize hW0:World.alloc _ _=W0
 obtain ⟨HB0,XA,XB,XR⟩:=box3 hW0
 clear hW0
 refine (cc W0 HB0.out).mono ?_
 rintro e w1 ⟨v1,rfl,⟨s1,t1,rfl,hs,ht⟩,hB1⟩
 obtain ⟨pa,na,ca,rfl,_⟩:=hs.nums.lst
 obtain ⟨pb,nb,cb,rfl,_⟩:=ht.nums.lst
 clear cc
 obtain ⟨HF,r0,r1,r2,r3,z0,z1⟩:=fin2 XR HB0 hB1 hs ht (by omega)
 clear hs ht
 go_wp2
 exact bodyPost_ret (v:=.tuple #[.agg #[.slice pa na ca,.slice pb nb cb],.int .i64 E]) (by simp [results,Tryz.results50,go_sem,z0,z1]) rfl ⟨_,rfl,HF.out⟩
theorem rk3:RkP 3:=by
 intro p p2 p3 p4 n c n2 c2 n3 c3 n4 c4 dd yy d' y' K hK hg hd' hy' hnc w h1 h2 h3 h4
 have hd:=hg.2.1
 have hx:=hg.2.2
 obtain ⟨E,eE⟩:∃ E,rkE 3 dd yy d' y' K=E:=⟨_,rfl⟩
 obtain ⟨D,eD⟩:∃ D,rkD 3 dd yy d' y' K=D:=⟨_,rfl⟩
 obtain ⟨V,eV⟩:∃ V,rkV 3 dd yy d' y' K=V:=⟨_,rfl⟩
 rw [eE,eD,eV]
 have cc:∀ W,Below w.heap.size w W→Calls Tryz.prog 40 #[.int .i64 1,.agg #[.slice p n c,.slice p2 n2 c2],.agg #[.slice p3 n3 c3,.slice p4 n4 c4]] W fun e w'=>∃ v',e = .returned (.tuple #[v',.int .i64 E])∧TRes w' W.heap.size v' D V∧Below W.heap.size W w':=fun W hW=>by
  rw [← eE,← eD,← eV]
  exact reach1_any p p2 p3 p4 n c n2 c2 n3 c3 n4 c4 dd yy d' y' hd hx hd' hy' W (h1.up hW) (h2.up hW) (h3.up hW) (h4.up hW)
 clear eE eD eV h1 h2 h3 h4 hd hx hd' hy' hg hK hnc
 go_enter Tryz.func50,Tryz.ntmps50
 go_wp2_with fail
 generalize hW0:World.alloc _ _=W0
 obtain ⟨HB0,XA,XB,XR⟩:=box3 hW0
 clear hW0
 refine (cc W0 HB0.out).mono ?_
 rintro e w1 ⟨v1,rfl,⟨s1,t1,rfl,hs,ht⟩,hB1⟩
 obtain ⟨pa,na,ca,rfl,_⟩:=hs.nums.lst
 obtain ⟨pb,nb,cb,rfl,_⟩:=ht.nums.lst
 clear cc
 obtain ⟨HF,r0,r1,r2,r3,z0,z1⟩:=fin2 XR HB0 hB1 hs ht (by omega)
 clear hs ht
 go_wp2
 exact bodyPost_ret (v:=.tuple #[.agg #[.slice pa na ca,.slice pb nb cb],.int .i64 E]) (by simp [results,Tryz.results50,go_sem,z0,z1]) rfl ⟨_,rfl,HF.out⟩
theorem rk4:RkP 4:=by
 intro p p2 p3 p4 n c n2 c2 n3 c3 n4 c4 dd yy d' y' K hK hg hd' hy' hnc w h1 h2 h3 h4
 have hd:=hg.2.1
 have hx:=hg.2.2
 obtain ⟨E,eE⟩:∃ E,rkE 4 dd yy d' y' K=E:=⟨_,rfl⟩
 obtain ⟨D,eD⟩:∃ D,rkD 4 dd yy d' y' K=D:=⟨_,rfl⟩
 obtain ⟨V,eV⟩:∃ V,rkV 4 dd yy d' y' K=V:=⟨_,rfl⟩
 rw [eE,eD,eV]
 have cc:∀ W,Below w.heap.size w W→Calls Tryz.prog 40 #[.int .i64 2,.agg #[.slice p n c,.slice p2 n2 c2],.agg #[.slice p3 n3 c3,.slice p4 n4 c4]] W fun e w'=>∃ v',e = .returned (.tuple #[v',.int .i64 E])∧TRes w' W.heap.size v' D V∧Below W.heap.size W w':=fun W hW=>by
  rw [← eE,← eD,← eV]
  exact reach2_any p p2 p3 p4 n c n2 c2 n3 c3 n4 c4 dd yy d' y' hd hx hd' hy' W (h1.up hW) (h2.up hW) (h3.up hW) (h4.up hW)
 clear eE eD eV h1 h2 h3 h4 hd hx hd' hy' hg hK hnc
 go_enter Tryz.func50,Tryz.ntmps50
 go_wp2_with fail
 generalize hW0:World.alloc _ _=W0
 obtain ⟨HB0,XA,XB,XR⟩:=box3 hW0
 clear hW0
 refine (cc W0 HB0.out).mono ?_
 rintro e w1 ⟨v1,rfl,⟨s1,t1,rfl,hs,ht⟩,hB1⟩
 obtain ⟨pa,na,ca,rfl,_⟩:=hs.nums.lst
 obtain ⟨pb,nb,cb,rfl,_⟩:=ht.nums.lst
 clear cc
 obtain ⟨HF,r0,r1,r2,r3,z0,z1⟩:=fin2 XR HB0 hB1 hs ht (by omega)
 clear hs ht
 go_wp2
 exact bodyPost_ret (v:=.tuple #[.agg #[.slice pa na ca,.slice pb nb cb],.int .i64 E]) (by simp [results,Tryz.results50,go_sem,z0,z1]) rfl ⟨_,rfl,HF.out⟩
theorem rk9:RkP 9:=by
 intro p p2 p3 p4 n c n2 c2 n3 c3 n4 c4 dd yy d' y' K hK hg hd' hy' hnc w h1 h2 h3 h4
 have hd:=hg.2.1
 have hx:=hg.2.2
 obtain ⟨_,_,_,e4,HX⟩:=h2.lst
 cases e4
 have hn:1≤n2∧n2≤4096:=by rw [← HX.out.1];exact hg.1.len
 obtain ⟨z,ez⟩:∃ z,allV dd yy=z:=⟨_,rfl⟩
 have eE:rkE 9 dd yy d' y' K=0:=if_pos hg.1
 have eD:rkD 9 dd yy d' y' K = []:=rfl
 have eV:rkV 9 dd yy d' y' K = [z]:=by rw [← ez];exact if_pos hg.1
 rw [eE,eD,eV]
 have cc:∀ W,Below w.heap.size w W→Calls Tryz.prog 77 #[.agg #[.slice p n c,.slice p2 n2 c2]] W fun e w'=>e = .returned (.int .i64 z)∧Below W.heap.size W w':=fun W hW=>by
  rw [← ez]
  have:=rall_any p p2 n c n2 c2 yy hx hn.2 W (h2.up hW)
  unfold allV
  rw [if_pos hg.1]
  exact this
 clear eE eD eV ez h1 h2 h3 h4 hd hx hd' hy' hg hK hnc hn HX
 go_enter Tryz.func50,Tryz.ntmps50
 go_wp2_with fail
 generalize hW0:World.alloc _ _=W0
 obtain ⟨HB0,XA,XB,XR⟩:=box3 hW0
 clear hW0
 refine (cc W0 HB0.out).mono ?_
 rintro e w1 ⟨rfl,hB1⟩
 clear cc
 go_wp2_with fail
 refine (rscalar_any z w1).mono ?_
 rintro e w2 ⟨v2,rfl,⟨s1,t1,rfl,hs,ht⟩,hB2⟩
 obtain ⟨pa,na,ca,rfl,_⟩:=hs.nums.lst
 obtain ⟨pb,nb,cb,rfl,_⟩:=ht.nums.lst
 replace hs:=hs.low hB1.size
 replace ht:=ht.low hB1.size
 have hB3:Below W0.heap.size W0 w2:=bstep hB1 hB2
 clear hB1 hB2
 obtain ⟨HF,r0,r1,r2,r3,z0,z1⟩:=fin2 XR HB0 hB3 hs ht (by omega)
 clear hs ht
 go_wp2
 exact bodyPost_ret (v:=.tuple #[.agg #[.slice pa na ca,.slice pb nb cb],.int .i64 0]) (by simp [results,Tryz.results50,go_sem,z0,z1]) rfl ⟨_,rfl,HF.out⟩
theorem rk10:RkP 10:=by
 intro p p2 p3 p4 n c n2 c2 n3 c3 n4 c4 dd yy d' y' K hK hg hd' hy' hnc w h1 h2 h3 h4
 have hd:=hg.2.1
 have hx:=hg.2.2
 obtain ⟨_,_,_,e4,HX⟩:=h2.lst
 cases e4
 have hn:1≤n2∧n2≤4096:=by rw [← HX.out.1];exact hg.1.len
 obtain ⟨z,ez⟩:∃ z,meanV dd yy=z:=⟨_,rfl⟩
 have eE:rkE 10 dd yy d' y' K=0:=if_pos hg.1
 have eD:rkD 10 dd yy d' y' K = []:=rfl
 have eV:rkV 10 dd yy d' y' K = [z]:=by rw [← ez];exact if_pos hg.1
 rw [eE,eD,eV]
 have cc:∀ W,Below w.heap.size w W→Calls Tryz.prog 78 #[.agg #[.slice p n c,.slice p2 n2 c2]] W fun e w'=>e = .returned (.int .i64 z)∧Below W.heap.size W w':=fun W hW=>by
  rw [← ez]
  have:=rmean_any p p2 n c n2 c2 yy hx hn W (h2.up hW)
  unfold meanV
  rw [if_pos hg.1]
  exact this
 clear eE eD eV ez h1 h2 h3 h4 hd hx hd' hy' hg hK hnc hn HX
 go_enter Tryz.func50,Tryz.ntmps50
 go_wp2_with fail
 generalize hW0:World.alloc _ _=W0
 obtain ⟨HB0,XA,XB,XR⟩:=box3 hW0
 clear hW0
 refine (cc W0 HB0.out).mono ?_
 rintro e w1 ⟨rfl,hB1⟩
 clear cc
 go_wp2_with fail
 refine (rscalar_any z w1).mono ?_
 rintro e w2 ⟨v2,rfl,⟨s1,t1,rfl,hs,ht⟩,hB2⟩
 obtain ⟨pa,na,ca,rfl,_⟩:=hs.nums.lst
 obtain ⟨pb,nb,cb,rfl,_⟩:=ht.nums.lst
 replace hs:=hs.low hB1.size
 replace ht:=ht.low hB1.size
 have hB3:Below W0.heap.size W0 w2:=bstep hB1 hB2
 clear hB1 hB2
 obtain ⟨HF,r0,r1,r2,r3,z0,z1⟩:=fin2 XR HB0 hB3 hs ht (by omega)
 clear hs ht
 go_wp2
 exact bodyPost_ret (v:=.tuple #[.agg #[.slice pa na ca,.slice pb nb cb],.int .i64 0]) (by simp [results,Tryz.results50,go_sem,z0,z1]) rfl ⟨_,rfl,HF.out⟩
theorem rk11:RkP 11:=by
 intro p p2 p3 p4 n c n2 c2 n3 c3 n4 c4 dd yy d' y' K hK hg hd' hy' hnc w h1 h2 h3 h4
 have hd:=hg.2.1
 have hx:=hg.2.2
 obtain ⟨E,eE⟩:∃ E,rkE 11 dd yy d' y' K=E:=⟨_,rfl⟩
 obtain ⟨D,eD⟩:∃ D,rkD 11 dd yy d' y' K=D:=⟨_,rfl⟩
 obtain ⟨V,eV⟩:∃ V,rkV 11 dd yy d' y' K=V:=⟨_,rfl⟩
 rw [eE,eD,eV]
 obtain ⟨z,ez⟩:∃ z,whI K=z:=⟨_,rfl⟩
 have HC:Hid (∀ W,Below w.heap.size w W→Calls Tryz.prog 79 #[.int .i64 z,.agg #[.slice p n c,.slice p2 n2 c2]] W fun e w'=>∃ v',e = .returned (.tuple #[v',.int .i64 E])∧TRes w' W.heap.size v' D V∧Below W.heap.size W w'):=fun W hW=>by
  rw [← eE,← eD,← eV,← ez]
  have hw:=bent_wh (k:=K) (D:=dd) (X:=yy)
  show Calls _ _ _ _ fun e w'=>∃ v',e = .returned (.tuple #[v',.int .i64 (bentE K dd yy)])∧TRes w' W.heap.size v' (bentD K dd yy) (bentV K dd yy)∧Below W.heap.size W w'
  rw [← hw.1,← hw.2.1,← hw.2.2]
  exact rbent_any (whI K) p p2 n c n2 c2 dd yy hd hx W (h1.up hW) (h2.up hW)
 have cw:∀ W,Calls Tryz.prog 75 #[.int .i64 K] W fun e w'=>e = .returned (.int .i64 z)∧w'=W:=fun W=>rwhole_any K z ez W
 haveI:Nonempty World:=⟨w⟩
 clear eE eD eV ez h1 h2 h3 h4 hd hx hd' hy' hg hK hnc
 go_enter Tryz.func50,Tryz.ntmps50
 go_wp2_with fail
 generalize hW0:World.alloc _ _=W0
 obtain ⟨HB0,XA,XB,XR⟩:=box3 hW0
 clear hW0
 obtain ⟨a0,a1,_,_⟩:=XA.out
 obtain ⟨b0,b1,_,_⟩:=XB.out
 have k0:=cell_lt a0
 have k1:=cell_lt b0
 refine rel [⟨3,68,TupP W0.heap.size D V E⟩,⟨4,69,OwnT W0.heap.size D V⟩] 6 100 (by kernel_rfl) rfl rfl (by kernel_rfl) (by rfl) ?_ ?_
 ·intro e he v W W' h hb
  simp only [List.mem_cons,List.not_mem_nil,or_false] at he
  rcases he with rfl|rfl
  ·exact TupP.up h hb
  ·exact OwnT.up h hb
 apply Exists.intro
 refine ⟨fun x=>?_,?_,?_⟩
 ·simp only [List.take_succ_cons,List.take_zero]
  refine relQuiet rfl rfl ?_
  apply Exists.intro
  refine ⟨fun F hF hf K hK=>?_,?_⟩
  ·have hFc:=hF.cell
   have hFf:=hF.frozen
   go_big_quiet_op
   exact hK
  (try simp only [putL])
  refine relQuiet rfl rfl ?_
  apply Exists.intro
  refine ⟨fun F hF hf K hK=>?_,?_⟩
  ·have hFc:=hF.cell
   have hFf:=hF.frozen
   go_big_quiet_op
   first|exact hK|(apply Exists.intro;refine ⟨fun _=>?_,?_⟩;(· exact hF.same (cw _));exact hK)
  (try simp only [putL])
  refine relQuiet rfl rfl ?_
  apply Exists.intro
  refine ⟨fun F hF hf K hK=>?_,?_⟩
  ·have hFc:=hF.cell
   have hFf:=hF.frozen
   go_big_quiet_op
   exact hK
  (try simp only [putL])
  refine relTold rfl rfl ?_ ?_
  ·intro F hF hf d
   have hFc:=hF.cell
   have hFf:=hF.frozen
   simp [yieldsR,yieldsUpon,go_sem]
   refine (HC.out (F d) (bstep HB0.out (hF.below d))).mono ?_
   rintro e' w8 ⟨v8,rfl,h8,hb8⟩
   exact ⟨_,rfl,⟨v8,rfl,(h8.low (hF.below d).size).own⟩,hb8⟩
  (try simp only [putL])
  refine relTold rfl rfl ?_ ?_
  ·intro F hF hf d
   have hFc:=hF.cell
   have hFf:=hF.frozen
   have h9:=hf _ List.mem_cons_self (by rfl) d
   obtain ⟨u9,e9,n9⟩:=h9
   simp only [] at e9 n9
   simp [yieldsR,yieldsUpon,go_sem,e9]
   exact ⟨n9,Below.refl _ _⟩
  (try simp only [putL])
  refine relQuiet rfl rfl ?_
  apply Exists.intro
  refine ⟨fun F hF hf K hK=>?_,?_⟩
  ·have hFc:=hF.cell
   have hFf:=hF.frozen
   have h9:=hf _ List.mem_cons_self (by rfl)
   obtain ⟨u9,e9,_⟩:=h9 w
   simp only [] at e9
   go_big_quiet_op
   exact hK
  (try simp only [putL])
  refine relEnd ?_
  exact rfl
 ·exact fun x=>rfl
 ·intro w1 xs hB1 hf
  simp only [List.drop_succ_cons,List.drop_zero]
  have hT1:=hf _ (List.mem_cons_of_mem _ List.mem_cons_self)
  obtain ⟨xc,ec⟩:∃ q,xs 3=q:=⟨_,rfl⟩
  obtain ⟨xx,ex⟩:∃ q,xs 4=q:=⟨_,rfl⟩
  simp only [ex] at hT1
  simp only [ec,ex]
  obtain ⟨pa,na,ca,pb,nb,cb,rfl,hs,ht⟩:=hT1
  clear ec ex hf HC a0 a1 b0 b1 k0 k1 cw
  obtain ⟨HF,r0,r1,r2,r3,z0,z1⟩:=fin2 XR HB0 hB1 hs ht (by omega)
  clear hs ht
  go_wp2
  exact bodyPost_ret (v:=.tuple #[.agg #[.slice pa na ca,.slice pb nb cb],.int .i64 E]) (by simp [results,Tryz.results50,go_sem,z0,z1]) rfl ⟨_,rfl,HF.out⟩
end Go.Proofs.YtpdkkcnmgiihcaaGreatDoor.Wd
