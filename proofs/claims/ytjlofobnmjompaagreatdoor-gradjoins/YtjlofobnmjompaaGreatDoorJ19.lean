/- Tensors: what tens.Fold hands back. -/
import Derived.Test.YtjlofobnmjompaaGreatDoorJ04
set_option linter.unusedVariables false
set_option linter.unusedSimpArgs false
set_option maxHeartbeats 16000000
set_option maxRecDepth 16000
namespace Go.Proofs.YtjlofobnmjompaaGreatDoor.Wd
open Go.RowKit
abbrev foldP (d x d':List Int):Prop:=(isP d x∧goodN (ntl d'))∧joinE d' d=0∧joinL d' d=d
def foldE (d x d':List Int):Int:=if isP d x∧goodN (ntl d') then if joinE d' d=0∧joinL d' d=d then 0 else 4 else 1
def foldD (d x d':List Int):List Int:=if foldP d x d' then d' else []
def foldV (d x d':List Int):List Int:=if foldP d x d' then foldK (fun a b=>Fx.hold (a+b)) (fromN (ntl d') (ntl d)) (fun i=>x.getD i 0) (prodN (ntl d')) x.length else []
/-- The one is spread to the other. -/
structure Under (d x d':List Int) (a b:List Nat):Prop where
 da:d=itl a
 db:d'=itl b
 ga:goodN a
 gb:goodN b
 lx:x.length=prodN a
 fb:fitsN b a
 jb:joinN b a=a
theorem under {d x d':List Int} (h:foldP d x d'):∃ a b,Under d x d' a b:=by
 obtain ⟨⟨⟨h1,h2⟩,h3⟩,h4,h5⟩:=h
 obtain ⟨a,ga,rfl⟩:=good_itl h1
 obtain ⟨b,gb,rfl⟩:=good_itl h3
 obtain ⟨_,_,h8,h9⟩:=joinE_zero h4
 rw [ntl_itl,ntl_itl] at h8 h9
 rw [ntl_itl] at h2
 have hj:=(join_fine gb ga h8 h9).1
 rw [h5] at hj
 exact ⟨a,b,rfl,rfl,ga,gb,h2,h8,(itl_inj hj).symm⟩
theorem Under.V {d x d':List Int} {a b:List Nat} (h:Under d x d' a b) (hp:foldP d x d'):foldE d x d'=0∧foldD d x d'=itl b∧foldV d x d'=foldK (fun a b=>Fx.hold (a+b)) (fromN b a) (fun i=>x.getD i 0) (prodN b) (prodN a):=by
 unfold foldE foldD foldV
 rw [if_pos hp.1,if_pos hp.2,if_pos hp,if_pos hp]
 refine ⟨rfl,h.db,?_⟩
 rw [h.lx,h.da,h.db,ntl_itl,ntl_itl]
theorem foldK_RI {f:Nat→Nat} {v:Nat→Int} {S:Nat} (k:Nat):∀ y,y∈foldK (fun a b=>Fx.hold (a+b)) f v S k→Fx.InR y:=by
 induction k with
 | zero=>
  intro y hy
  have:=List.eq_of_mem_replicate hy
  subst this
  unfold Fx.InR;omega
 | succ k ih=>
  intro y hy
  rw [foldK] at hy
  rcases List.mem_or_eq_of_mem_set hy with h|h
  ·exact ih y h
  ·rw [h];exact Fx.hold_rng _
theorem tfold_any (p p2 p3:Option Addr) (n c n2 c2 n3 c3:Nat) (d x d':List Int) (hd:RI d) (hx:RI x) (hd':RI d') (w:World) (h1:Nums .i64 w (.slice p n c) d) (h2:Nums .i64 w (.slice p2 n2 c2) x) (h3:Nums .i64 w (.slice p3 n3 c3) d'):
  Calls Tryz.prog 103 #[.agg #[.slice p n c,.slice p2 n2 c2],.slice p3 n3 c3] w fun e w'=>∃ v',e = .returned (.tuple #[v',.int .i64 (foldE d x d')])∧TRes w' w.heap.size v' (foldD d x d') (foldV d x d')∧Below w.heap.size w w':=by
 have cA:=fun W (hW:Below w.heap.size w W)=>tgood_any _ _ d x hd W (h1.up hW) (h2.up hW)
 have cB:=fun W (hW:Below w.heap.size w W)=>good_any _ d' hd' W (h3.up hW)
 have cZ:=fun W (hW:Below w.heap.size w W)=>size_any _ d' hd' W (h3.up hW)
 have cJ:=fun W (hW:Below w.heap.size w W)=>join_any _ _ d' d hd' hd W (h3.up hW) (h1.up hW)
 have cS:∀ W v',Below w.heap.size w W→Nums .i64 W v' (joinL d' d)→Calls Tryz.prog 132 #[v',.slice p n c] W fun e w'=>e = .returned (.bool (decide (joinL d' d=d)))∧∃ m,w'=W.drewN m:=fun W v' hW hv=>same_any _ _ _ d (by have:=joinL_len d' d;omega) W hv (h1.up hW)
 have HN:Hid (Nums .i64 w (.slice p n c) d∧Nums .i64 w (.slice p2 n2 c2) x∧Nums .i64 w (.slice p3 n3 c3) d'):=⟨h1,h2,h3⟩
 obtain ⟨_,_,_,e4,HX⟩:=h2.lst
 cases e4
 by_cases hp:isP d x
 ·rw [decide_eq_true hp] at cA
  by_cases hg:goodN (ntl d')
  ·rw [decide_eq_true hg] at cB
   rw [sizeN_good hg] at cZ
   by_cases hf:joinE d' d=0∧joinL d' d=d
   ·obtain ⟨a,b,hU⟩:=under ⟨⟨hp,hg⟩,hf⟩
    obtain ⟨e1,e2,e3⟩:=hU.V ⟨⟨hp,hg⟩,hf⟩
    rw [e1,e2,e3]
    rw [decide_eq_true hf.2] at cS
    rw [hf.1] at cJ
    rw [hf.2] at cJ cS
    rw [hU.db,ntl_itl] at cZ
    obtain ⟨S,eS⟩:∃ S,prodN b=S:=⟨_,rfl⟩
    obtain ⟨N,eN⟩:∃ N,prodN a=N:=⟨_,rfl⟩
    obtain ⟨D,eD⟩:∃ D,itl b=D:=⟨_,rfl⟩
    obtain ⟨V,eV⟩:∃ V,foldK (fun a b=>Fx.hold (a+b)) (fromN b a) (fun i=>x.getD i 0) S N=V:=⟨_,rfl⟩
    have hnN:n2=N:=by rw [← HX.out.1,hU.lx,eN]
    subst hnN
    have HU:Hid (Under d x d' a b∧prodN b=S∧prodN a=n2∧itl b=D∧RI x∧foldK (fun a b=>Fx.hold (a+b)) (fromN b a) (fun i=>x.getD i 0) S n2=V):=⟨hU,eS,eN,eD,hx,eV⟩
    have hS:1≤S∧S≤4096:=by rw [← eS];exact ⟨hU.gb.pos,hU.gb.2.2⟩
    have hS':1≤(S:Int)∧(S:Int)≤4096:=by omega
    have hN:1≤n2∧n2≤4096:=by rw [← eN];exact ⟨hU.ga.pos,hU.ga.2.2⟩
    have hN':1≤(n2:Int)∧(n2:Int)≤4096:=by omega
    rw [eS] at cZ ⊢
    rw [eN,eD,eV]
    clear e1 e2 e3 hp hg hf h1 h2 h3 hd hx hd' eS eN eD eV hU
    go_enter Tryz.func103,Tryz.ntmps103
    go_wp2_with fail
    generalize hW0:World.alloc _ _=W0
    have HB0:=hidB (w:=w) hW0 (by go_grown)
    have XA:Hid (Cel W0 w.heap.size (.slice p n c) (.slice p2 n2 c2)):=celW hW0 (by simp [go_sem])
    have XR:Hid (Cel W0 (w.heap.size+1) (.slice none 0 0) (.slice none 0 0)):=celW hW0 (by simp [go_sem])
    clear hW0
    refine (cA W0 HB0.out).mono ?_
    rintro e w1 ⟨rfl,hB1⟩
    have HB1:=hid2 (bstep HB0.out hB1) hB1
    clear hB1
    go_wp2_with fail
    refine (cB w1 HB1.out.1).mono ?_
    rintro e w2 ⟨rfl,rfl⟩
    clear cA cB
    obtain ⟨a0,a1,_,_⟩:=XA.out.up HB1.out.2
    go_wp2_with fail
    refine (cJ w2 HB1.out.1).mono ?_
    rintro e w3 ⟨vj,rfl,hO3,hB3⟩
    have HB3:=hid2 (bstep HB1.out.1 hB3) (bstep HB1.out.2 hB3)
    have cs:=cS w3 vj HB3.out.1 hO3.nums
    clear hB3 hO3 a0 a1 cS cJ
    obtain ⟨a0,a1,_,_⟩:=XA.out.up HB3.out.2
    go_wp2_with fail
    refine cs.mono ?_
    rintro e w4 ⟨rfl,m,hw4⟩
    have HB4:Hid (Below w.heap.size w w4∧Below W0.heap.size W0 w4):=by rw [hw4];exact ⟨below_drew HB3.out.1 m,below_drew HB3.out.2 m⟩
    clear cs a0 a1 hw4
    go_wp2_with fail
    refine (cZ w4 HB4.out.1).mono ?_
    rintro e w5 ⟨rfl,rfl⟩
    clear cZ
    obtain ⟨a0,a1,_,_⟩:=XA.out.up HB4.out.2
    go_wp2_with (at_make;refine wpList_makeK fixT (by decide) _ rfl (.tmp 38) (.tmp 38) rfl .i64 .i64 S S S rfl rfl rfl rfl (by omega) w.heap.size w HB4.out.1.size HB4.out.1 ?_;intro w6 HO6 B6 B6';clear B6';have XA6:=(XA.out.up (bstep HB4.out.2 B6));obtain ⟨a2,a3,_,_⟩:=XA6)
    obtain ⟨g,hg⟩:∃ g,w5.heap.size=g:=⟨_,rfl⟩
    have HB6:=hid2 (bstep HB4.out.1 B6) (bstep HB4.out.2 B6)
    rw [hg] at HO6 ⊢
    have hz:=cell_lt XR.out.1
    have Hg:Hid (W0.heap.size≤g∧w.heap.size+1 < W0.heap.size∧g < w6.heap.size):=⟨by rw [← hg];exact HB4.out.2.size,hz,HO6.out.size⟩
    have cSp:=spread_any _ _ b a HU.out.1.gb HU.out.1.ga (join_le HU.out.1.jb) w6 (by rw [← HU.out.1.db];exact HN.out.2.2.up HB6.out.1) (by rw [← HU.out.1.da];exact HN.out.1.up HB6.out.1)
    refine cSp.mono ?_
    rintro e w7 ⟨vs,rfl,h7,hB7⟩
    obtain ⟨ps,ns,cs,rfl,HL7⟩:=h7.nums.lst
    obtain rfl:ns=n2:=by rw [← HL7.out.1,itl_len,spreadN_len,HU.out.2.2.1]
    have HS7:Hid (OwnK .i64 3 w7 w6.heap.size (.slice ps ns cs) (itl (spreadN b a))):=h7
    have HB7:=hid2 (bstep HB6.out.1 hB7) (bstep HB6.out.2 hB7)
    have HO7:Hid (OwnK .i64 23 w7 g (.slice (some ⟨g,0,none⟩) S S) (foldK (fun a b=>Fx.hold (a+b)) (fromN b a) (fun i=>x.getD i 0) S 0)):=HO6.out.up hB7
    have HX7:Hid (Cel w7 w.heap.size (.slice p n c) (.slice p2 ns c2)∧Cel w7 (w.heap.size+1) (.slice none 0 0) (.slice none 0 0)):=⟨XA.out.up HB7.out.2,XR.out.up HB7.out.2⟩
    clear cSp h7 hB7 HL7 a0 a1 a2 a3 HO6 B6 hg hz
    go_wp2_with fail
    go_loopg [45] ns (fun gg i wr=>∃ (k:Nat),k≤ns∧gg=ns - k∧i = .int .i64 (k:Int)∧Hid (OwnK .i64 23 wr g (.slice (some ⟨g,0,none⟩) S S) (foldK (fun a b=>Fx.hold (a+b)) (fromN b a) (fun i=>x.getD i 0) S k))∧Hid (Below w.heap.size w wr∧Stay g w7 wr))
    case atStart=>exact ⟨0,by omega,by omega,by first|rfl|simp,HO7,HB7.out.1,Stay.refl _ _⟩
    case round=>
     obtain ⟨k,hk,hg,rfl,HRk,hBS⟩:=hrel
     obtain ⟨R1,hR1⟩:∃ R1:World,R1=wr:=⟨_,rfl⟩
     subst hR1
     by_cases hkn:k < ns
     ·have hk':(k:Int) < (ns:Int):=by omega
      obtain ⟨_,_,_,e4,HLs⟩:=(HS7.out.nums.stay hBS.out.2 (HS7.out.off Hg.out.2.2)).lst
      cases e4
      obtain ⟨qa,oa,rfl,ha1⟩:=HLs.out.2 k hkn
      have hkJ:k < prodN a:=by rw [HU.out.2.2.1];exact hkn
      rw [itl_getD,spread_at HU.out.1.gb HU.out.1.ga HU.out.1.fb HU.out.1.jb k hkJ] at ha1
      have ia:=fromN_lt HU.out.1.gb.2.1 HU.out.1.ga.2.1 HU.out.1.fb HU.out.1.jb k hkJ
      obtain ⟨i,ei⟩:∃ i,fromN b a k=i:=⟨_,rfl⟩
      rw [ei] at ha1 ia
      rw [HU.out.2.1] at ia
      have ia':(i:Int) < (S:Int):=by omega
      obtain ⟨qx,ox,rfl,hx0⟩:=HX.out.2 k hkn
      have hx1:=cell_low hx0 hBS.out.1
      have rx:=HU.out.2.2.2.2.1.in k (by rw [HX.out.1];exact hkn)
      obtain ⟨X,eX⟩:∃ X,x.getD k 0=X:=⟨_,rfl⟩
      rw [eX] at hx1 rx
      obtain ⟨FK,eFK⟩:∃ FK,foldK (fun a b=>Fx.hold (a+b)) (fromN b a) (fun i=>x.getD i 0) S k=FK:=⟨_,rfl⟩
      have hFl:FK.length=S:=by rw [← eFK,foldK_len]
      have ry:Fx.InR (FK.getD i 0):=by
       have hmem:FK.getD i 0∈FK:=by
        rw [getD_lt FK i 0 (by omega)]
        exact List.getElem_mem _
       exact foldK_RI k _ (by rw [eFK];exact hmem)
      obtain ⟨Y,eY⟩:∃ Y,FK.getD i 0=Y:=⟨_,rfl⟩
      rw [eFK] at HRk
      obtain ⟨hown,hfz⟩:=HRk.out.cell hFl i ia
      rw [eY] at hown ry
      obtain ⟨Z,eZ⟩:∃ Z,Fx.hold (Y+X)=Z:=⟨_,rfl⟩
      have HZ:Hid (foldK (fun a b=>Fx.hold (a+b)) (fromN b a) (fun i=>x.getD i 0) S (k+1)=FK.set i Z∧FK.length=S):=⟨by rw [foldK,eFK,ei,eY,eX,eZ],hFl⟩
      have cz:∀ W,Calls Tryz.prog 118 #[.int .i64 Y,.int .i64 X] W fun e w'=>e = .returned (.int .i64 Z)∧w'=W:=fun W=>by rw [← eZ];exact Fx.add_any Y X ry rx W
      have hne0:w.heap.size≠g:=by have:=Hg.out;omega
      obtain ⟨a0,a1,_,_⟩:=HX7.out.1.stay hBS.out.2 hne0
      have z0:=cell_lt a0
      have z2:=cell_lt ha1
      have z4:=cell_lt hx1
      have z6:=HRk.out.size
      clear eX eY eZ ei eFK HLs hne0 hkJ hx0 rx ry
      go_wp2_with fail
      refine flow 13 68 (by kernel_rfl) rfl rfl (by kernel_rfl) ?_
      apply Exists.intro
      refine ⟨?_,?_⟩
      ·intro F hF
       have hFc:=hF.cell
       have hFf:=hF.frozen
       simp only [List.take_succ_cons,List.take_zero,List.eraseIdx_cons_succ,List.eraseIdx_cons_zero]
       repeat (go_big_quiet_step (exact hF.same (cz _)))
       refine wpQuiet_nil ?_
       exact rfl
      ·intro W1 hb1
       simp only [List.drop_succ_cons,List.drop_zero]
       have HR2:=HRk.out.up hb1
       clear hown hfz
       obtain ⟨hown,hfz⟩:=HR2.cell HZ.out.2 i ia
       have H5:Hid (OwnK .i64 23 (W1.setCell ⟨g,i,none⟩ (.int .i64 Z)) g (.slice (some ⟨g,0,none⟩) S S) (foldK (fun a b=>Fx.hold (a+b)) (fromN b a) (fun i=>x.getD i 0) S (k+1))):=by
        have:=HR2.store HZ.out.2 i Z
        rw [HZ.out.1]
        exact this
       have hgw:w.heap.size≤g:=by have:=Hg.out;omega
       have H6:Hid (Below w.heap.size w (W1.setCell ⟨g,i,none⟩ (.int .i64 Z))∧Stay g w7 (W1.setCell ⟨g,i,none⟩ (.int .i64 Z))):=⟨(bstep hBS.out.1 hb1).setCell (p:=⟨g,i,none⟩) hgw _,(hBS.out.2.up hb1).set _ _⟩
       clear HR2 hb1 cz z0 z2 z4 z6 a0 a1
       go_wp2
       go_roundg (ns - (k+1))
       case measure=>omega
       case rel=>exact ⟨k+1,by omega,rfl,by first|rfl|simp,H5,H6⟩
     ·obtain rfl:k=ns:=by omega
      have hne1:w.heap.size+1≠g:=by have:=Hg.out;omega
      have HXR:Hid (Cel R1 (w.heap.size+1) (.slice none 0 0) (.slice none 0 0)):=HX7.out.2.stay hBS.out.2 hne1
      have HF1:Hid (OwnK .i64 23 R1 g (.slice (some ⟨g,0,none⟩) S S) V):=by
       have:=HRk.out
       rw [HU.out.2.2.2.2.2] at this
       exact this
      have cc:=cloneI_any _ d' (by rw [HU.out.1.db,itl_len];have:=HU.out.1.gb.1;omega) R1 (HN.out.2.2.up hBS.out.1)
      rw [HU.out.1.db,HU.out.2.2.2.1] at cc
      clear hne1
      go_wp2_with fail
      refine cc.mono ?_
      rintro e w8 ⟨v8,rfl,h8,hB8⟩
      obtain ⟨p8,n8,c8,rfl,_⟩:=h8.nums.lst
      have HF:Hid (TRes (set2 w8 (w.heap.size+1) (.slice p8 n8 c8) (.slice (some ⟨g,0,none⟩) S S)) w.heap.size (.agg #[.slice p8 n8 c8,.slice (some ⟨g,0,none⟩) S S]) D V∧Below w.heap.size w (set2 w8 (w.heap.size+1) (.slice p8 n8 c8) (.slice (some ⟨g,0,none⟩) S S))):=by
       have hs:g≤R1.heap.size:=Nat.le_of_lt HF1.out.size
       exact ⟨(TRes.set (h8.low (Nat.le_trans Hg.out.1 hs)) ((HF1.out.up hB8).low Hg.out.1) Hg.out.2.1).low HB0.out.size,below_cell (bstep hBS.out.1 hB8) _ (by omega) _ _⟩
      clear cc h8
      have xr:=(HXR.out.up hB8)
      have cf:=xr.set (.slice p8 n8 c8) (.slice (some ⟨g,0,none⟩) S S)
      obtain ⟨r0,r1,r2,r3⟩:=xr
      obtain ⟨y0,y1,_,_⟩:=cf
      go_wp2
      exact bodyPost_ret (v:=.tuple #[.agg #[.slice p8 n8 c8,.slice (some ⟨g,0,none⟩) S S],.int .i64 0]) (by simp [results,Tryz.results103,go_sem,y0,y1]) rfl ⟨_,rfl,HF.out⟩
   ·have e1:foldE d x d'=4:=by unfold foldE;rw [if_pos ⟨hp,hg⟩,if_neg hf]
    have e2:foldD d x d' = []:=if_neg fun h=>hf h.2
    have e3:foldV d x d' = []:=if_neg fun h=>hf h.2
    rw [e1,e2,e3]
    obtain ⟨E,eE⟩:∃ E,joinE d' d=E:=⟨_,rfl⟩
    by_cases hE:E=0
    ·have hs:¬ joinL d' d=d:=fun h=>hf ⟨by rw [eE];exact hE,h⟩
     rw [decide_eq_false hs] at cS
     rw [eE,hE] at cJ
     clear e1 e2 e3 hp hg hf h1 h2 h3 hd hx hd' eE hE hs cZ
     go_enter Tryz.func103,Tryz.ntmps103
     go_wp2_with fail
     generalize hW0:World.alloc _ _=W0
     have HB0:=hidB (w:=w) hW0 (by go_grown)
     have XA:Hid (Cel W0 w.heap.size (.slice p n c) (.slice p2 n2 c2)):=celW hW0 (by simp [go_sem])
     have XR:Hid (Cel W0 (w.heap.size+1) (.slice none 0 0) (.slice none 0 0)):=celW hW0 (by simp [go_sem])
     clear hW0
     refine (cA W0 HB0.out).mono ?_
     rintro e w1 ⟨rfl,hB1⟩
     have HB1:=hid2 (bstep HB0.out hB1) hB1
     clear hB1
     go_wp2_with fail
     refine (cB w1 HB1.out.1).mono ?_
     rintro e w2 ⟨rfl,rfl⟩
     obtain ⟨a0,a1,_,_⟩:=XA.out.up HB1.out.2
     go_wp2_with fail
     refine (cJ w2 HB1.out.1).mono ?_
     rintro e w3 ⟨vj,rfl,hO3,hB3⟩
     have HB3:=hid2 (bstep HB1.out.1 hB3) (bstep HB1.out.2 hB3)
     have cs:=cS w3 vj HB3.out.1 hO3.nums
     clear hB3 hO3 a0 a1 cS cJ
     obtain ⟨a0,a1,_,_⟩:=XA.out.up HB3.out.2
     go_wp2_with fail
     refine cs.mono ?_
     rintro e w4 ⟨rfl,m,hw4⟩
     have HB4:Hid (Below w.heap.size w w4∧Below W0.heap.size W0 w4):=by rw [hw4];exact ⟨below_drew HB3.out.1 m,below_drew HB3.out.2 m⟩
     clear cs a0 a1 hw4
     have xr:=(XR.out.up HB4.out.2)
     have BF:=below_cell (HB4.out.1) (w.heap.size+1) (by omega) (.slice none 0 0) (.slice none 0 0)
     have cf:=xr.set (.slice none 0 0) (.slice none 0 0)
     obtain ⟨r0,r1,r2,r3⟩:=xr
     obtain ⟨y0,y1,_,_⟩:=cf
     go_wp2
     exact bodyPost_ret (v:=.tuple #[.agg #[.slice none 0 0,.slice none 0 0],.int .i64 4]) (by simp [results,Tryz.results103,go_sem,y0,y1]) rfl ⟨_,rfl,TRes.none _ _,BF⟩
    ·rw [eE] at cJ
     have hE':(E != 0)=true:=by simp [hE]
     clear e1 e2 e3 hp hg hf h1 h2 h3 hd hx hd' eE cZ cS
     go_enter Tryz.func103,Tryz.ntmps103
     go_wp2_with fail
     generalize hW0:World.alloc _ _=W0
     have HB0:=hidB (w:=w) hW0 (by go_grown)
     have XA:Hid (Cel W0 w.heap.size (.slice p n c) (.slice p2 n2 c2)):=celW hW0 (by simp [go_sem])
     have XR:Hid (Cel W0 (w.heap.size+1) (.slice none 0 0) (.slice none 0 0)):=celW hW0 (by simp [go_sem])
     clear hW0
     refine (cA W0 HB0.out).mono ?_
     rintro e w1 ⟨rfl,hB1⟩
     have HB1:=hid2 (bstep HB0.out hB1) hB1
     clear hB1
     go_wp2_with fail
     refine (cB w1 HB1.out.1).mono ?_
     rintro e w2 ⟨rfl,rfl⟩
     obtain ⟨a0,a1,_,_⟩:=XA.out.up HB1.out.2
     go_wp2_with fail
     refine (cJ w2 HB1.out.1).mono ?_
     rintro e w3 ⟨vj,rfl,hO3,hB3⟩
     have HB3:=hid2 (bstep HB1.out.1 hB3) (bstep HB1.out.2 hB3)
     clear hB3 hO3 a0 a1 cJ
     have xr:=(XR.out.up HB3.out.2)
     have BF:=below_cell (HB3.out.1) (w.heap.size+1) (by omega) (.slice none 0 0) (.slice none 0 0)
     have cf:=xr.set (.slice none 0 0) (.slice none 0 0)
     obtain ⟨r0,r1,r2,r3⟩:=xr
     obtain ⟨y0,y1,_,_⟩:=cf
     go_wp2
     exact bodyPost_ret (v:=.tuple #[.agg #[.slice none 0 0,.slice none 0 0],.int .i64 4]) (by simp [results,Tryz.results103,go_sem,y0,y1]) rfl ⟨_,rfl,TRes.none _ _,BF⟩
  ·rw [decide_eq_false hg] at cB
   have e1:foldE d x d'=1:=if_neg fun h=>hg h.2
   have e2:foldD d x d' = []:=if_neg fun h=>hg h.1.2
   have e3:foldV d x d' = []:=if_neg fun h=>hg h.1.2
   rw [e1,e2,e3]
   clear e1 e2 e3 h1 h2 h3 hd hd' hp hg hx cZ cS cJ
   go_enter Tryz.func103,Tryz.ntmps103
   go_wp2_with fail
   generalize hW0:World.alloc _ _=W0
   have HB0:=hidB (w:=w) hW0 (by go_grown)
   have XA:Hid (Cel W0 w.heap.size (.slice p n c) (.slice p2 n2 c2)):=celW hW0 (by simp [go_sem])
   have XR:Hid (Cel W0 (w.heap.size+1) (.slice none 0 0) (.slice none 0 0)):=celW hW0 (by simp [go_sem])
   clear hW0
   refine (cA W0 HB0.out).mono ?_
   rintro e w1 ⟨rfl,hB1⟩
   have HB1:=hid2 (bstep HB0.out hB1) hB1
   clear hB1
   go_wp2_with fail
   refine (cB w1 HB1.out.1).mono ?_
   rintro e w2 ⟨rfl,rfl⟩
   have xr:=(XR.out.up HB1.out.2)
   have BF:=below_cell (HB1.out.1) (w.heap.size+1) (by omega) (.slice none 0 0) (.slice none 0 0)
   have cf:=xr.set (.slice none 0 0) (.slice none 0 0)
   obtain ⟨r0,r1,r2,r3⟩:=xr
   obtain ⟨y0,y1,_,_⟩:=cf
   go_wp2
   exact bodyPost_ret (v:=.tuple #[.agg #[.slice none 0 0,.slice none 0 0],.int .i64 1]) (by simp [results,Tryz.results103,go_sem,y0,y1]) rfl ⟨_,rfl,TRes.none _ _,BF⟩
 ·rw [decide_eq_false hp] at cA
  have e1:foldE d x d'=1:=if_neg fun h=>hp h.1
  have e2:foldD d x d' = []:=if_neg fun h=>hp h.1.1
  have e3:foldV d x d' = []:=if_neg fun h=>hp h.1.1
  rw [e1,e2,e3]
  clear e1 e2 e3 h1 h2 h3 hd hd' hp hx cZ cB cS cJ
  go_enter Tryz.func103,Tryz.ntmps103
  go_wp2_with fail
  generalize hW0:World.alloc _ _=W0
  have HB0:=hidB (w:=w) hW0 (by go_grown)
  have XA:Hid (Cel W0 w.heap.size (.slice p n c) (.slice p2 n2 c2)):=celW hW0 (by simp [go_sem])
  have XR:Hid (Cel W0 (w.heap.size+1) (.slice none 0 0) (.slice none 0 0)):=celW hW0 (by simp [go_sem])
  clear hW0
  refine (cA W0 HB0.out).mono ?_
  rintro e w1 ⟨rfl,hB1⟩
  have HB1:=hid2 (bstep HB0.out hB1) hB1
  clear hB1
  have xr:=(XR.out.up HB1.out.2)
  have BF:=below_cell (HB1.out.1) (w.heap.size+1) (by omega) (.slice none 0 0) (.slice none 0 0)
  have cf:=xr.set (.slice none 0 0) (.slice none 0 0)
  obtain ⟨r0,r1,r2,r3⟩:=xr
  obtain ⟨y0,y1,_,_⟩:=cf
  go_wp2
  exact bodyPost_ret (v:=.tuple #[.agg #[.slice none 0 0,.slice none 0 0],.int .i64 1]) (by simp [results,Tryz.results103,go_sem,y0,y1]) rfl ⟨_,rfl,TRes.none _ _,BF⟩
end Go.Proofs.YtjlofobnmjompaaGreatDoor.Wd
