/- Tensors: what the reference's Fold hands back. · The reference's fold. -/
import Derived.Test.YtpdkkcnmgiihcaaGreatDoorP29
import Derived.Test.YtpdkkcnmgiihcaaGreatDoorP19
import Derived.Test.YtpdkkcnmgiihcaaGreatDoorP13
set_option linter.unusedVariables false
set_option linter.unusedSimpArgs false
set_option maxHeartbeats 16000000
set_option maxRecDepth 16000
namespace Go.Proofs.YtpdkkcnmgiihcaaGreatDoor.Wd
open Go.RowKit
theorem rfold_any (p p2 p3:Option Addr) (n c n2 c2 n3 c3:Nat) (d x d':List Int) (hd:RI d) (hx:RI x) (hd':RI d') (w:World) (h1:Nums .i64 w (.slice p n c) d) (h2:Nums .i64 w (.slice p2 n2 c2) x) (h3:Nums .i64 w (.slice p3 n3 c3) d'):
  Calls Tryz.prog 85 #[.agg #[.slice p n c,.slice p2 n2 c2],.slice p3 n3 c3] w fun e w'=>∃ v',e = .returned (.tuple #[v',.int .i64 (foldE d x d')])∧TRes w' w.heap.size v' (foldD d x d') (foldV d x d')∧Below w.heap.size w w':=by
 have cA:=fun W (hW:Below w.heap.size w W)=>ris_any _ _ d x hd W (h1.up hW) (h2.up hW)
 have cB:=fun W (hW:Below w.heap.size w W)=>rgood_any _ d' hd' W (h3.up hW)
 have cZ:=fun W (hW:Below w.heap.size w W)=>rsize_any _ d' hd' W (h3.up hW)
 have cJ:=fun W (hW:Below w.heap.size w W)=>rjoin_any _ _ d' d hd' hd W (h3.up hW) (h1.up hW)
 have cS:∀ W v',Below w.heap.size w W→Nums .i64 W v' (joinL d' d)→Calls Tryz.prog 36 #[v',.slice p n c] W fun e w'=>e = .returned (.bool (decide (joinL d' d=d)))∧∃ m,w'=W.drewN m:=fun W v' hW hv=>rsame_any _ _ _ d (by have:=joinL_len d' d;omega) W hv (h1.up hW)
 have HN:Hid (Nums .i64 w (.slice p n c) d∧Nums .i64 w (.slice p2 n2 c2) x∧Nums .i64 w (.slice p3 n3 c3) d'):=⟨h1,h2,h3⟩
 obtain ⟨_,_,_,e4,HX⟩:=h2.lst
 cases e4
 by_cases hp:isP d x
 ·rw [decide_eq_true hp] at cA
  by_cases hg:goodN (ntl d')
  ·rw [decide_eq_true hg] at cB
   rw [sizeN_good hg] at cZ
   by_cases hf:joinE d' d=0∧joinL d' d=d
   ·obtain ⟨a,b,hU⟩:=under ⟨⟨hp,hg⟩,hf⟩
    obtain ⟨e1,e2,e3⟩:=hU.V ⟨⟨hp,hg⟩,hf⟩
    rw [e1,e2,e3]
    rw [decide_eq_true hf.2] at cS
    rw [hf.1] at cJ
    rw [hf.2] at cJ cS
    rw [hU.db,ntl_itl] at cZ
    obtain ⟨S,eS⟩:∃ S,prodN b=S:=⟨_,rfl⟩
    obtain ⟨N,eN⟩:∃ N,prodN a=N:=⟨_,rfl⟩
    obtain ⟨D,eD⟩:∃ D,itl b=D:=⟨_,rfl⟩
    obtain ⟨V,eV⟩:∃ V,foldK (fun a b=>Fx.hold (a+b)) (fromN b a) (fun i=>x.getD i 0) S N=V:=⟨_,rfl⟩
    have hnN:n2=N:=by rw [← HX.out.1,hU.lx,eN]
    subst hnN
    have HU:Hid (Under d x d' a b∧prodN b=S∧prodN a=n2∧itl b=D∧RI x∧foldK (fun a b=>Fx.hold (a+b)) (fromN b a) (fun i=>x.getD i 0) S n2=V):=⟨hU,eS,eN,eD,hx,eV⟩
    have hS:1≤S∧S≤4096:=by rw [← eS];exact ⟨hU.gb.pos,hU.gb.2.2⟩
    have hS':1≤(S:Int)∧(S:Int)≤4096:=by omega
    have hN:1≤n2∧n2≤4096:=by rw [← eN];exact ⟨hU.ga.pos,hU.ga.2.2⟩
    have hN':1≤(n2:Int)∧(n2:Int)≤4096:=by omega
    rw [eS] at cZ ⊢
    rw [eN,eD,eV]
    clear e1 e2 e3 hp hg hf h1 h2 h3 hd hx hd' eS eN eD eV hU
    go_enter Tryz.func85,Tryz.ntmps85
    go_wp2_with fail
    generalize hW0:World.alloc _ _=W0
    have HB0:=hidB (w:=w) hW0 (by go_grown)
    have XA:Hid (Cel W0 w.heap.size (.slice p n c) (.slice p2 n2 c2)):=celW hW0 (by simp [go_sem])
    have XR:Hid (Cel W0 (w.heap.size+1) (.slice none 0 0) (.slice none 0 0)):=celW hW0 (by simp [go_sem])
    clear hW0
    refine (cA W0 HB0.out).mono ?_
    rintro e w1 ⟨rfl,hB1⟩
    have HB1:=hid2 (bstep HB0.out hB1) hB1
    clear hB1
    go_wp2_with fail
    refine (cB w1 HB1.out.1).mono ?_
    rintro e w2 ⟨rfl,rfl⟩
    clear cA cB
    obtain ⟨a0,a1,_,_⟩:=XA.out.up HB1.out.2
    go_wp2_with fail
    refine (cJ w2 HB1.out.1).mono ?_
    rintro e w3 ⟨vj,rfl,hO3,hB3⟩
    have HB3:=hid2 (bstep HB1.out.1 hB3) (bstep HB1.out.2 hB3)
    have cs:=cS w3 vj HB3.out.1 hO3.nums
    clear hB3 hO3 a0 a1 cS cJ
    obtain ⟨a0,a1,_,_⟩:=XA.out.up HB3.out.2
    go_wp2_with fail
    refine cs.mono ?_
    rintro e w4 ⟨rfl,m,hw4⟩
    have HB4:Hid (Below w.heap.size w w4∧Below W0.heap.size W0 w4):=by rw [hw4];exact ⟨below_drew HB3.out.1 m,below_drew HB3.out.2 m⟩
    clear cs a0 a1 hw4
    clear cZ
    have cN:=rnew_any (.slice p3 n3 c3) d' (by rw [HU.out.1.db];exact RI_itl HU.out.1.gb.le) (by rw [HU.out.1.db,ntl_itl];exact HU.out.1.gb) 0 w4 (HN.out.2.2.up HB4.out.1)
    rw [HU.out.1.db,ntl_itl,HU.out.2.1,HU.out.2.2.2.1] at cN
    go_wp2_with fail
    refine cN.mono ?_
    rintro e w6 ⟨v4,rfl,⟨s4,g,cg,rfl,hs4,ht4,hOff,hgB⟩,hB4⟩
    obtain ⟨p4,n4,c4,rfl,_⟩:=hs4.nums.lst
    have HOff:Hid (Off g (.slice p4 n4 c4)):=hOff
    go_wp2_with fail
    generalize hW5:World.alloc _ _=W5
    obtain ⟨b5,hb5⟩:∃ b5,w6.heap.size=b5:=⟨_,rfl⟩
    have B5:Below w6.heap.size w6 W5:=by rw [← hW5];exact up_alloc w6 _
    have XT:Hid (Cel W5 b5 (.slice p4 n4 c4) (.slice (some ⟨g,0,none⟩) S cg)):=by
     show Cel _ _ _ _
     unfold Cel
     rw [← hW5,← hb5]
     simp [go_sem]
    have HB5:Hid (Below w.heap.size w W5∧Below W0.heap.size W0 W5):=⟨bstep HB4.out.1 (bstep hB4 B5),bstep HB4.out.2 (bstep hB4 B5)⟩
    have HD5:Hid (OwnK .i64 3 W5 w4.heap.size (.slice p4 n4 c4) D):=hs4.up B5
    have HX5:Hid (Cel W5 w.heap.size (.slice p n c) (.slice p2 n2 c2)∧Cel W5 (w.heap.size+1) (.slice none 0 0) (.slice none 0 0)):=⟨XA.out.up HB5.out.2,XR.out.up HB5.out.2⟩
    have HO5:Hid (OwnK .i64 33 W5 g (.slice (some ⟨g,0,none⟩) S cg) (foldK (fun a b=>Fx.hold (a+b)) (fromN b a) (fun i=>x.getD i 0) S 0)):=by
     show OwnK _ _ _ _ _ _
     show OwnK _ _ _ _ _ (List.replicate S 0)
     exact (ht4.up B5).base
    have hz:=cell_lt XR.out.1
    have hgl:=ht4.size
    have Hg:Hid (W0.heap.size≤g∧w.heap.size+1 < W0.heap.size∧g < b5∧w4.heap.size≤g∧W0.heap.size≤w4.heap.size):=⟨Nat.le_trans HB4.out.2.size hgB,hz,by omega,hgB,HB4.out.2.size⟩
    rw [hb5]
    have cFr:∀ W (k:Nat),Below w.heap.size w W→k < n2→Calls Tryz.prog 69 #[.slice p3 n3 c3,.slice p n c,.int .i64 (k:Int)] W fun e w'=>e = .returned (.tuple #[.int .i64 ((fromN b a k:Nat):Int),.bool true])∧Below W.heap.size W w':=fun W k hW hk=>by
     have:=rfrom_any _ _ d' d (by rw [HU.out.1.db];exact RI_itl HU.out.1.gb.le) (by rw [HU.out.1.da];exact RI_itl HU.out.1.ga.le) (k:Int) W (HN.out.2.2.up hW) (HN.out.1.up hW)
     obtain ⟨f1,f2⟩:=from_at HU.out.1.gb HU.out.1.ga HU.out.1.fb HU.out.1.jb k (by rw [HU.out.2.2.1];exact hk)
     rw [HU.out.1.db,HU.out.1.da,f1,f2] at this
     exact this
    have HFr:Hid (∀ W (k:Nat),Below w.heap.size w W→k < n2→Calls Tryz.prog 69 #[.slice p3 n3 c3,.slice p n c,.int .i64 (k:Int)] W fun e w'=>e = .returned (.tuple #[.int .i64 ((fromN b a k:Nat):Int),.bool true])∧Below W.heap.size W w'):=cFr
    clear hW5 B5 hb5 hz hgl hs4 ht4 hB4 hgB hOff cN cFr
    go_loopg [9] n2 (fun gg i wr=>∃ (k:Nat),k≤n2∧gg=n2 - k∧i = .int .i64 (k:Int)∧Hid (OwnK .i64 33 wr g (.slice (some ⟨g,0,none⟩) S cg) (foldK (fun a b=>Fx.hold (a+b)) (fromN b a) (fun i=>x.getD i 0) S k))∧Hid (Below w.heap.size w wr∧Stay g W5 wr))
    case atStart=>exact ⟨0,by omega,by omega,by first|rfl|simp,HO5,HB5.out.1,Stay.refl _ _⟩
    case round=>
     obtain ⟨k,hk,hgg,rfl,HRk,hBS⟩:=hrel
     obtain ⟨R1,hR1⟩:∃ R1:World,R1=wr:=⟨_,rfl⟩
     subst hR1
     have hne0:w.heap.size≠g:=by have:=Hg.out;omega
     obtain ⟨a0,a1,_,_⟩:=HX5.out.1.stay hBS.out.2 hne0
     by_cases hkn:k < n2
     ·have hk':(k:Int) < (n2:Int):=by omega
      have hnb:b5≠g:=by have:=Hg.out;omega
      have cf:=HFr.out R1 k hBS.out.1 hkn
      have hkJ:k < prodN a:=by rw [HU.out.2.2.1];exact hkn
      have ia:=fromN_lt HU.out.1.gb.2.1 HU.out.1.ga.2.1 HU.out.1.fb HU.out.1.jb k hkJ
      obtain ⟨i,ei⟩:∃ i,fromN b a k=i:=⟨_,rfl⟩
      rw [ei] at cf ia
      rw [HU.out.2.1] at ia
      have ia':(i:Int) < (S:Int):=by omega
      have rx:=HU.out.2.2.2.2.1.in k (by rw [HX.out.1];exact hkn)
      obtain ⟨X,eX⟩:∃ X,x.getD k 0=X:=⟨_,rfl⟩
      rw [eX] at rx
      obtain ⟨FK,eFK⟩:∃ FK,foldK (fun a b=>Fx.hold (a+b)) (fromN b a) (fun i=>x.getD i 0) S k=FK:=⟨_,rfl⟩
      have hFl:FK.length=S:=by rw [← eFK,foldK_len]
      have ry:Fx.InR (FK.getD i 0):=by
       have hmem:FK.getD i 0∈FK:=by
        rw [getD_lt FK i 0 (by omega)]
        exact List.getElem_mem _
       exact foldK_RI k _ (by rw [eFK];exact hmem)
      obtain ⟨Y,eY⟩:∃ Y,FK.getD i 0=Y:=⟨_,rfl⟩
      rw [eFK] at HRk
      rw [eY] at ry
      obtain ⟨Z,eZ⟩:∃ Z,Fx.hold (Y+X)=Z:=⟨_,rfl⟩
      have HZ:Hid (foldK (fun a b=>Fx.hold (a+b)) (fromN b a) (fun i=>x.getD i 0) S (k+1)=FK.set i Z∧FK.length=S∧FK.getD i 0=Y∧x.getD k 0=X):=⟨by rw [foldK,eFK,ei,eY,eX,eZ],hFl,eY,eX⟩
      have cz:∀ W,Calls Tryz.prog 70 #[.int .i64 Y,.int .i64 X] W fun e w'=>e = .returned (.int .i64 Z)∧Below W.heap.size W w':=fun W=>Rf.add_ref Y X ry rx Z eZ W
      clear eX eY eZ ei eFK hkJ rx ry
      go_wp2_with fail
      refine cf.mono ?_
      rintro e R2 ⟨rfl,hbR⟩
      have HBS2:Hid (Below w.heap.size w R2∧Stay g W5 R2):=⟨bstep hBS.out.1 hbR,hBS.out.2.up hbR⟩
      have HRk2:Hid (OwnK .i64 33 R2 g (.slice (some ⟨g,0,none⟩) S cg) FK):=HRk.out.up hbR
      clear cf a0 a1 hbR
      obtain ⟨a0,a1,_,_⟩:=HX5.out.1.stay HBS2.out.2 hne0
      obtain ⟨t0,t1,_,_⟩:=XT.out.stay HBS2.out.2 hnb
      obtain ⟨qx,ox,rfl,hx0⟩:=HX.out.2 k hkn
      have hx1:=cell_low hx0 HBS2.out.1
      rw [HZ.out.2.2.2] at hx1
      obtain ⟨hown,hfz⟩:=HRk2.out.cell HZ.out.2.1 i ia
      rw [HZ.out.2.2.1] at hown
      have z0:=cell_lt a0
      have z1:=cell_lt t0
      have z4:=cell_lt hx1
      have z6:=HRk2.out.size
      clear hx0 hne0 hnb
      go_wp2_with fail
      refine flow 15 71 (by kernel_rfl) rfl rfl (by kernel_rfl) ?_
      apply Exists.intro
      refine ⟨?_,?_⟩
      ·intro F hF
       have hFc:=hF.cell
       have hFf:=hF.frozen
       simp only [List.take_succ_cons,List.take_zero,List.eraseIdx_cons_succ,List.eraseIdx_cons_zero]
       repeat (go_big_quiet_step (exact hF.call (cz _)))
       refine wpQuiet_nil ?_
       exact rfl
      ·intro W1 hb1
       simp only [List.drop_succ_cons,List.drop_zero]
       have HR2:=HRk2.out.up hb1
       clear hown hfz
       obtain ⟨hown,hfz⟩:=HR2.cell HZ.out.2.1 i ia
       have H5:Hid (OwnK .i64 33 (W1.setCell ⟨g,i,none⟩ (.int .i64 Z)) g (.slice (some ⟨g,0,none⟩) S cg) (foldK (fun a b=>Fx.hold (a+b)) (fromN b a) (fun i=>x.getD i 0) S (k+1))):=by
        have:=HR2.store HZ.out.2.1 i Z
        rw [HZ.out.1]
        exact this
       have hgw:w.heap.size≤g:=by have:=Hg.out;omega
       have H6:Hid (Below w.heap.size w (W1.setCell ⟨g,i,none⟩ (.int .i64 Z))∧Stay g W5 (W1.setCell ⟨g,i,none⟩ (.int .i64 Z))):=⟨(bstep HBS2.out.1 hb1).setCell (p:=⟨g,i,none⟩) hgw _,(HBS2.out.2.up hb1).set _ _⟩
       clear HR2 hb1 cz z0 z1 z4 z6 a0 a1 t0 t1
       go_wp2
       go_roundg (n2 - (k+1))
       case measure=>omega
       case rel=>exact ⟨k+1,by omega,rfl,by first|rfl|simp,H5,H6⟩
     ·obtain rfl:k=n2:=by omega
      have hfin:=HRk.out
      rw [HU.out.2.2.2.2.2] at hfin
      have HXR:Hid (Cel W5 (w.heap.size+1) (.slice none 0 0) (.slice none 0 0)):=HX5.out.2
      have hnb:b5≠g:=by have:=Hg.out;omega
      obtain ⟨t0,t1,_,_⟩:=XT.out.stay hBS.out.2 hnb
      have hne1:w.heap.size+1≠g:=by have:=Hg.out;omega
      have hfd:=HD5.out.stay hBS.out.2 (fun ad n1 c1 e1=>HOff.out ad n1 c1 e1)
      have HF:Hid (TRes (set2 R1 (w.heap.size+1) (.slice p4 n4 c4) (.slice (some ⟨g,0,none⟩) S cg)) w.heap.size (.agg #[.slice p4 n4 c4,.slice (some ⟨g,0,none⟩) S cg]) D V∧Below w.heap.size w (set2 R1 (w.heap.size+1) (.slice p4 n4 c4) (.slice (some ⟨g,0,none⟩) S cg))):=
       ⟨(TRes.set (hfd.low Hg.out.2.2.2.2) (hfin.low Hg.out.1) Hg.out.2.1).low HB0.out.size,below_cell hBS.out.1 _ (by omega) _ _⟩
      have xr:=HXR.out.stay hBS.out.2 hne1
      have cf:=xr.set (.slice p4 n4 c4) (.slice (some ⟨g,0,none⟩) S cg)
      obtain ⟨r0,r1,r2,r3⟩:=xr
      obtain ⟨y0,y1,_,_⟩:=cf
      clear hfin hfd hne1 hnb
      go_wp2
      exact bodyPost_ret (v:=.tuple #[.agg #[.slice p4 n4 c4,.slice (some ⟨g,0,none⟩) S cg],.int .i64 0]) (by simp [results,Tryz.results85,go_sem,y0,y1]) rfl ⟨_,rfl,HF.out⟩
   ·have e1:foldE d x d'=4:=by unfold foldE;rw [if_pos ⟨hp,hg⟩,if_neg hf]
    have e2:foldD d x d' = []:=if_neg fun h=>hf h.2
    have e3:foldV d x d' = []:=if_neg fun h=>hf h.2
    rw [e1,e2,e3]
    obtain ⟨E,eE⟩:∃ E,joinE d' d=E:=⟨_,rfl⟩
    by_cases hE:E=0
    ·have hs:¬ joinL d' d=d:=fun h=>hf ⟨by rw [eE];exact hE,h⟩
     rw [decide_eq_false hs] at cS
     rw [eE,hE] at cJ
     clear e1 e2 e3 hp hg hf h1 h2 h3 hd hx hd' eE hE hs cZ
     go_enter Tryz.func85,Tryz.ntmps85
     go_wp2_with fail
     generalize hW0:World.alloc _ _=W0
     have HB0:=hidB (w:=w) hW0 (by go_grown)
     have XA:Hid (Cel W0 w.heap.size (.slice p n c) (.slice p2 n2 c2)):=celW hW0 (by simp [go_sem])
     have XR:Hid (Cel W0 (w.heap.size+1) (.slice none 0 0) (.slice none 0 0)):=celW hW0 (by simp [go_sem])
     clear hW0
     refine (cA W0 HB0.out).mono ?_
     rintro e w1 ⟨rfl,hB1⟩
     have HB1:=hid2 (bstep HB0.out hB1) hB1
     clear hB1
     go_wp2_with fail
     refine (cB w1 HB1.out.1).mono ?_
     rintro e w2 ⟨rfl,rfl⟩
     obtain ⟨a0,a1,_,_⟩:=XA.out.up HB1.out.2
     go_wp2_with fail
     refine (cJ w2 HB1.out.1).mono ?_
     rintro e w3 ⟨vj,rfl,hO3,hB3⟩
     have HB3:=hid2 (bstep HB1.out.1 hB3) (bstep HB1.out.2 hB3)
     have cs:=cS w3 vj HB3.out.1 hO3.nums
     clear hB3 hO3 a0 a1 cS cJ
     obtain ⟨a0,a1,_,_⟩:=XA.out.up HB3.out.2
     go_wp2_with fail
     refine cs.mono ?_
     rintro e w4 ⟨rfl,m,hw4⟩
     have HB4:Hid (Below w.heap.size w w4∧Below W0.heap.size W0 w4):=by rw [hw4];exact ⟨below_drew HB3.out.1 m,below_drew HB3.out.2 m⟩
     clear cs a0 a1 hw4
     have xr:=(XR.out.up HB4.out.2)
     have BF:=below_cell (HB4.out.1) (w.heap.size+1) (by omega) (.slice none 0 0) (.slice none 0 0)
     have cf:=xr.set (.slice none 0 0) (.slice none 0 0)
     obtain ⟨r0,r1,r2,r3⟩:=xr
     obtain ⟨y0,y1,_,_⟩:=cf
     go_wp2
     exact bodyPost_ret (v:=.tuple #[.agg #[.slice none 0 0,.slice none 0 0],.int .i64 4]) (by simp [results,Tryz.results85,go_sem,y0,y1]) rfl ⟨_,rfl,TRes.none _ _,BF⟩
    ·rw [eE] at cJ
     have hE':(E != 0)=true:=by simp [hE]
     clear e1 e2 e3 hp hg hf h1 h2 h3 hd hx hd' eE cZ cS
     go_enter Tryz.func85,Tryz.ntmps85
     go_wp2_with fail
     generalize hW0:World.alloc _ _=W0
     have HB0:=hidB (w:=w) hW0 (by go_grown)
     have XA:Hid (Cel W0 w.heap.size (.slice p n c) (.slice p2 n2 c2)):=celW hW0 (by simp [go_sem])
     have XR:Hid (Cel W0 (w.heap.size+1) (.slice none 0 0) (.slice none 0 0)):=celW hW0 (by simp [go_sem])
     clear hW0
     refine (cA W0 HB0.out).mono ?_
     rintro e w1 ⟨rfl,hB1⟩
     have HB1:=hid2 (bstep HB0.out hB1) hB1
     clear hB1
     go_wp2_with fail
     refine (cB w1 HB1.out.1).mono ?_
     rintro e w2 ⟨rfl,rfl⟩
     obtain ⟨a0,a1,_,_⟩:=XA.out.up HB1.out.2
     go_wp2_with fail
     refine (cJ w2 HB1.out.1).mono ?_
     rintro e w3 ⟨vj,rfl,hO3,hB3⟩
     have HB3:=hid2 (bstep HB1.out.1 hB3) (bstep HB1.out.2 hB3)
     clear hB3 hO3 a0 a1 cJ
     have xr:=(XR.out.up HB3.out.2)
     have BF:=below_cell (HB3.out.1) (w.heap.size+1) (by omega) (.slice none 0 0) (.slice none 0 0)
     have cf:=xr.set (.slice none 0 0) (.slice none 0 0)
     obtain ⟨r0,r1,r2,r3⟩:=xr
     obtain ⟨y0,y1,_,_⟩:=cf
     go_wp2
     exact bodyPost_ret (v:=.tuple #[.agg #[.slice none 0 0,.slice none 0 0],.int .i64 4]) (by simp [results,Tryz.results85,go_sem,y0,y1]) rfl ⟨_,rfl,TRes.none _ _,BF⟩
  ·rw [decide_eq_false hg] at cB
   have e1:foldE d x d'=1:=if_neg fun h=>hg h.2
   have e2:foldD d x d' = []:=if_neg fun h=>hg h.1.2
   have e3:foldV d x d' = []:=if_neg fun h=>hg h.1.2
   rw [e1,e2,e3]
   clear e1 e2 e3 h1 h2 h3 hd hd' hp hg hx cZ cS cJ
   go_enter Tryz.func85,Tryz.ntmps85
   go_wp2_with fail
   generalize hW0:World.alloc _ _=W0
   have HB0:=hidB (w:=w) hW0 (by go_grown)
   have XA:Hid (Cel W0 w.heap.size (.slice p n c) (.slice p2 n2 c2)):=celW hW0 (by simp [go_sem])
   have XR:Hid (Cel W0 (w.heap.size+1) (.slice none 0 0) (.slice none 0 0)):=celW hW0 (by simp [go_sem])
   clear hW0
   refine (cA W0 HB0.out).mono ?_
   rintro e w1 ⟨rfl,hB1⟩
   have HB1:=hid2 (bstep HB0.out hB1) hB1
   clear hB1
   go_wp2_with fail
   refine (cB w1 HB1.out.1).mono ?_
   rintro e w2 ⟨rfl,rfl⟩
   have xr:=(XR.out.up HB1.out.2)
   have BF:=below_cell (HB1.out.1) (w.heap.size+1) (by omega) (.slice none 0 0) (.slice none 0 0)
   have cf:=xr.set (.slice none 0 0) (.slice none 0 0)
   obtain ⟨r0,r1,r2,r3⟩:=xr
   obtain ⟨y0,y1,_,_⟩:=cf
   go_wp2
   exact bodyPost_ret (v:=.tuple #[.agg #[.slice none 0 0,.slice none 0 0],.int .i64 1]) (by simp [results,Tryz.results85,go_sem,y0,y1]) rfl ⟨_,rfl,TRes.none _ _,BF⟩
 ·rw [decide_eq_false hp] at cA
  have e1:foldE d x d'=1:=if_neg fun h=>hp h.1
  have e2:foldD d x d' = []:=if_neg fun h=>hp h.1.1
  have e3:foldV d x d' = []:=if_neg fun h=>hp h.1.1
  rw [e1,e2,e3]
  clear e1 e2 e3 h1 h2 h3 hd hd' hp hx cZ cB cS cJ
  go_enter Tryz.func85,Tryz.ntmps85
  go_wp2_with fail
  generalize hW0:World.alloc _ _=W0
  have HB0:=hidB (w:=w) hW0 (by go_grown)
  have XA:Hid (Cel W0 w.heap.size (.slice p n c) (.slice p2 n2 c2)):=celW hW0 (by simp [go_sem])
  have XR:Hid (Cel W0 (w.heap.size+1) (.slice none 0 0) (.slice none 0 0)):=celW hW0 (by simp [go_sem])
  clear hW0
  refine (cA W0 HB0.out).mono ?_
  rintro e w1 ⟨rfl,hB1⟩
  have HB1:=hid2 (bstep HB0.out hB1) hB1
  clear hB1
  have xr:=(XR.out.up HB1.out.2)
  have BF:=below_cell (HB1.out.1) (w.heap.size+1) (by omega) (.slice none 0 0) (.slice none 0 0)
  have cf:=xr.set (.slice none 0 0) (.slice none 0 0)
  obtain ⟨r0,r1,r2,r3⟩:=xr
  obtain ⟨y0,y1,_,_⟩:=cf
  go_wp2
  exact bodyPost_ret (v:=.tuple #[.agg #[.slice none 0 0,.slice none 0 0],.int .i64 1]) (by simp [results,Tryz.results85,go_sem,y0,y1]) rfl ⟨_,rfl,TRes.none _ _,BF⟩
end Go.Proofs.YtpdkkcnmgiihcaaGreatDoor.Wd
namespace Go.Proofs.YtpdkkcnmgiihcaaGreatDoor.Wd
open Go.RowKit Fx
theorem hid1 {p:Prop} (a:p):Hid p:=a
/-- A return of two tensors under way: the first is stored or not yet; all else stands. -/
def Ret6 (w W4:World) (b6:Nat) (D X:List Int) (f:Bool) (W:World):Prop:=Below w.heap.size w W∧(W4.heap.size≤W.heap.size∧∀ k,k < W4.heap.size→k≠b6→W.heap[k]?=W4.heap[k]?)∧(∃ s t,Cel W b6 s t)∧(f=true→∃ s t,Cel W b6 s t∧OwnK .i64 3 W W4.heap.size s D∧OwnK .i64 33 W W4.heap.size t X)
def TRs (B:Nat) (D X:List Int) (v:Value) (W:World):Prop:=TRes W B v D X
theorem TRs.up {B:Nat} {D X:List Int} {v:Value} {W W':World} (h:TRs B D X v W) (hB:Below W.heap.size W W'):TRs B D X v W':=TRes.up h hB
theorem TRs.stay {B b:Nat} {D X:List Int} {v:Value} {W W':World} (h:TRs B D X v W) (hb:b < B) (hs:Stay b W W'):TRs B D X v W':=by
 obtain ⟨s,t,e,h1,h2⟩:=h
 exact ⟨s,t,e,h1.stay hs (h1.off hb),h2.stay hs (h2.off hb)⟩
theorem Ret6.up {w W4:World} {b6:Nat} {D X:List Int} {f:Bool} {W W':World} (h:Ret6 w W4 b6 D X f W) (hB:Below W.heap.size W W'):Ret6 w W4 b6 D X f W':=by
 obtain ⟨h1,⟨h2,h3⟩,⟨s,t,h4⟩,h5⟩:=h
 refine ⟨bstep h1 hB,⟨Nat.le_trans h2 hB.size,fun k hk hne=>(hB.block k (Nat.lt_of_lt_of_le hk h2)).trans (h3 k hk hne)⟩,⟨s,t,h4.up hB⟩,fun hf=>?_⟩
 obtain ⟨s,t,a,b,c⟩:=h5 hf
 exact ⟨s,t,a.up hB,b.up hB,c.up hB⟩
theorem Ret6.cell {w W4:World} {b6:Nat} {D X:List Int} {f:Bool} {W:World} (h:Ret6 w W4 b6 D X f W) {k o:Nat} {v:Value} (hv:W4.cell? ⟨k,o,none⟩=some v) (hne:k≠b6):W.cell? ⟨k,o,none⟩=some v:=by
 have:=h.2.1.2 k (cell_lt hv) hne
 unfold World.cell? at hv ⊢
 simp only [] at hv ⊢
 rw [this]
 exact hv
theorem Ret6.cel {w W4:World} {b6:Nat} {D X:List Int} {f:Bool} {W:World} (h:Ret6 w W4 b6 D X f W) {k:Nat} {s t:Value} (hv:Cel W4 k s t) (hne:k≠b6):Cel W k s t:=by
 have:=h.2.1.2 k (cell_lt hv.1) hne
 unfold Cel World.cell? World.frozen? at hv ⊢
 simp only [] at hv ⊢
 rw [this]
 exact hv
theorem Ret6.new {w W4 W:World} {b6:Nat} {D X:List Int} {s t:Value} (hw:Below w.heap.size w W4) (h6:Cel W4 b6 s t) (hW:Below W4.heap.size W4 W):Ret6 w W4 b6 D X false W:=
 ⟨bstep hw hW,⟨hW.size,fun k hk _=>hW.block k hk⟩,⟨s,t,h6.up hW⟩,fun h=>by cases h⟩
theorem Ret6.set {w W4:World} {b6:Nat} {D X:List Int} {W:World} (h:Ret6 w W4 b6 D X false W) (hb:w.heap.size≤b6) (hb4:b6 < W4.heap.size) {s t:Value} (hs:OwnK .i64 3 W W4.heap.size s D) (ht:OwnK .i64 33 W W4.heap.size t X):Ret6 w W4 b6 D X true (set2 W b6 s t)∧Stay b6 W (set2 W b6 s t):=by
 obtain ⟨h1,⟨h2,h3⟩,⟨s0,t0,h4⟩,h5⟩:=h
 have e1:=Stay.set2 (g:=b6) W s t
 have hsz:(set2 W b6 s t).heap.size=W.heap.size:=by simp [set2]
 refine ⟨⟨below_set2 h1 b6 hb s t,⟨by rw [hsz];exact h2,fun k hk hne=>?_⟩,⟨s,t,h4.set s t⟩,fun _=>⟨s,t,h4.set s t,hs.stay e1 (hs.off hb4),ht.stay e1 (ht.off hb4)⟩⟩,e1⟩
 unfold set2
 rw [heap_set _ _ _ _ _ hne,heap_set _ _ _ _ _ hne]
 exact h3 k hk hne
theorem fin7 {w W:World} {B b b':Nat} {s t s' t' s1 t1:Value} {D X D' X':List Int} (h6:Cel W b s t) (h7:Cel W b' s1 t1) (hne:b≠b') (hB:Below w.heap.size w W) (hwB:w.heap.size≤B) (hb':w.heap.size≤b') (hbB':b' < B)
  (hs:OwnK .i64 3 W B s D) (ht:OwnK .i64 33 W B t X) (hs':OwnK .i64 3 W B s' D') (ht':OwnK .i64 33 W B t' X'):
  Hid (TRes (set2 W b' s' t') w.heap.size (.agg #[s,t]) D X∧TRes (set2 W b' s' t') w.heap.size (.agg #[s',t']) D' X'∧Below w.heap.size w (set2 W b' s' t'))∧((set2 W b' s' t').cell? ⟨b,0,none⟩=some s∧(set2 W b' s' t').cell? ⟨b,1,none⟩=some t)∧(set2 W b' s' t').cell? ⟨b',0,none⟩=some s'∧(set2 W b' s' t').cell? ⟨b',1,none⟩=some t':=by
 have e2:=Stay.set2 (g:=b') W s' t'
 have q1:∀ {e:TypeId} {v:Value} {l:List Int},OwnK .i64 e W B v l→OwnK .i64 e (set2 W b' s' t') w.heap.size v l:=fun h=>(h.stay e2 (h.off hbB')).low hwB
 have d6:=h6.stay e2 hne
 have d7:=h7.set s' t'
 exact ⟨⟨⟨_,_,rfl,q1 hs,q1 ht⟩,⟨_,_,rfl,q1 hs',q1 ht'⟩,below_set2 hB b' hb' s' t'⟩,⟨d6.1,d6.2.1⟩,d7.1,d7.2.1⟩
theorem rfoldt_any (p p2 p3:Option Addr) (n c n2 c2 n3 c3:Nat) (d x d':List Int) (hd:RI d) (hx:RI x) (hd':RI d') (w:World) (h1:Nums .i64 w (.slice p n c) d) (h2:Nums .i64 w (.slice p2 n2 c2) x) (h3:Nums .i64 w (.slice p3 n3 c3) d'):
  Calls Tryz.prog 54 #[.agg #[.slice p n c,.slice p2 n2 c2],.slice p3 n3 c3] w fun e w'=>∃ v',e = .returned v'∧TRes w' w.heap.size v' (foldD d x d') (foldV d x d')∧Below w.heap.size w w':=by
 have cc:Hid (∀ W,Below w.heap.size w W→Calls Tryz.prog 85 #[.agg #[.slice p n c,.slice p2 n2 c2],.slice p3 n3 c3] W fun e w'=>∃ v',e = .returned (.tuple #[v',.int .i64 (foldE d x d')])∧TRes w' W.heap.size v' (foldD d x d') (foldV d x d')∧Below W.heap.size W w'):=fun W hW=>rfold_any p p2 p3 n c n2 c2 n3 c3 d x d' hd hx hd' W (h1.up hW) (h2.up hW) (h3.up hW)
 clear h1 h2 h3 hd hx hd'
 go_enter Tryz.func54,Tryz.ntmps54
 go_wp2_with fail
 generalize hW0:World.alloc _ _=W0
 have HB0:=hidB (w:=w) hW0 (by go_grown)
 have XR:Hid (Cel W0 (w.heap.size+1) (.slice none 0 0) (.slice none 0 0)):=celW hW0 (by simp [go_sem])
 clear hW0
 refine (cc.out W0 HB0.out).mono ?_
 rintro e w1 ⟨v1,rfl,⟨s1,t1,rfl,hs,ht⟩,hB1⟩
 obtain ⟨ps,ms,cs,rfl⟩:=hs.form_
 obtain ⟨pt,mt,ct,rfl⟩:=ht.form_
 obtain ⟨HZ,r0,r1,r2,r3,y0,y1⟩:=fin2 XR HB0 hB1 hs ht (by omega)
 have z1:=cell_lt r0
 clear cc hs ht hB1 HB0 XR
 go_wp2
 generalize hZ:World.alloc _ _=Z
 have hU:Below (set2 w1 (w.heap.size+1) (.slice ps ms cs) (.slice pt mt ct)).heap.size (set2 w1 (w.heap.size+1) (.slice ps ms cs) (.slice pt mt ct)) Z:=by rw [← hZ];exact up_alloc _ _
 have e0:=cell_low y0 hU
 have e1:=cell_low y1 hU
 exact bodyPost_ret (v:=.agg #[.slice ps ms cs,.slice pt mt ct]) (by simp [results,Tryz.results54,go_sem,e0,e1]) rfl ⟨_,rfl,HZ.out.1.up hU,bstep HZ.out.2 hU⟩
end Go.Proofs.YtpdkkcnmgiihcaaGreatDoor.Wd
