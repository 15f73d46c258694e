/- Tensors: what tens.Scale and tens.Reshape hand back. · Plain arithmetic of numbers of 128 bits with a sign: two words stand for a number. Nothing of the program is named here. -/
import Derived.Test.YtjlofobnmjompaaGreatDoorJ03
import Derived.Test.YtjlofobnmjompaaGreatDoorJ01
import Derived.Lib.TrailingZeros
set_option linter.unusedVariables false
set_option linter.unusedSimpArgs false
set_option maxHeartbeats 16000000
set_option maxRecDepth 16000
namespace Go.Proofs.YtjlofobnmjompaaGreatDoor.Wd
open Go.RowKit
def scaleE (d x:List Int):Int:=if isP d x then 0 else 1
def scaleD (d x:List Int):List Int:=if isP d x then d else []
def scaleV (d x:List Int) (k:Int):List Int:=if isP d x then x.map fun y=>Fx.mulI y k else []
def shpE (d x d':List Int):Int:=if isP d x∧goodN (ntl d') then if prodN (ntl d')=x.length then 0 else 4 else 1
def shpD (d x d':List Int):List Int:=if (isP d x∧goodN (ntl d'))∧prodN (ntl d')=x.length then d' else []
def shpV (d x d':List Int):List Int:=if (isP d x∧goodN (ntl d'))∧prodN (ntl d')=x.length then x else []
theorem tscale_any (p p2:Option Addr) (n c n2 c2:Nat) (d x:List Int) (hd:RI d) (hx:RI x) (K:Int) (hK:Fx.InR K) (w:World) (h1:Nums .i64 w (.slice p n c) d) (h2:Nums .i64 w (.slice p2 n2 c2) x):
  Calls Tryz.prog 105 #[.agg #[.slice p n c,.slice p2 n2 c2],.int .i64 K] w fun e w'=>∃ v',e = .returned (.tuple #[v',.int .i64 (scaleE d x)])∧TRes w' w.heap.size v' (scaleD d x) (scaleV d x K)∧Below w.heap.size w w':=by
 have cA:=fun W (hW:Below w.heap.size w W)=>tgood_any _ _ d x hd W (h1.up hW) (h2.up hW)
 by_cases hp:isP d x
 ·rw [decide_eq_true hp] at cA
  unfold scaleE scaleD scaleV
  rw [if_pos hp,if_pos hp,if_pos hp]
  obtain ⟨V,eV⟩:∃ V,(x.map fun y=>Fx.mulI y K)=V:=⟨_,rfl⟩
  rw [eV]
  have HN:Hid (Nums .i64 w (.slice p n c) d∧Nums .i64 w (.slice p2 n2 c2) x):=⟨h1,h2⟩
  obtain ⟨_,_,_,e4,HX⟩:=h2.lst
  cases e4
  have hlen:x.length≤4096:=by rw [hp.2];exact hp.1.2.2
  rw [HX.out.1] at hlen
  have hlen':(n2:Int)≤4096:=by omega
  have HV:Hid ((x.map fun y=>Fx.mulI y K)=V∧V.length=n2∧isP d x∧RI x∧Fx.InR K∧x.length=n2):=⟨eV,by rw [← eV,List.length_map];exact HX.out.1,hp,hx,hK,HX.out.1⟩
  clear eV h1 h2 hd hx hp hK
  go_enter Tryz.func105,Tryz.ntmps105
  go_wp2_with fail
  generalize hW0:World.alloc _ _=W0
  have HB0:=hidB (w:=w) hW0 (by go_grown)
  have XA:Hid (Cel W0 w.heap.size (.slice p n c) (.slice p2 n2 c2)):=celW hW0 (by simp [go_sem])
  have XR:Hid (Cel W0 (w.heap.size+1) (.slice none 0 0) (.slice none 0 0)):=celW hW0 (by simp [go_sem])
  clear hW0
  refine (cA W0 HB0.out).mono ?_
  rintro e w1 ⟨rfl,hB1⟩
  have HB1:=hid2 (bstep HB0.out hB1) hB1
  clear hB1
  obtain ⟨a0,a1,_,_⟩:=XA.out.up HB1.out.2
  go_wp2_with (at_make;refine wpList_makeK fixT (by decide) _ rfl (.tmp 15) (.tmp 15) rfl .i64 .i64 n2 n2 n2 rfl rfl rfl rfl (by omega) w.heap.size w HB1.out.1.size HB1.out.1 ?_;intro w4 HO4 B4 B4';clear B4';have XA4:=(XA.out.up (bstep HB1.out.2 B4));obtain ⟨a2,a3,_,_⟩:=XA4)
  obtain ⟨g,hg⟩:∃ g,w1.heap.size=g:=⟨_,rfl⟩
  have HB4:=hid2 (bstep HB1.out.1 B4) (bstep HB1.out.2 B4)
  rw [hg] at HO4 ⊢
  have hz:=cell_lt XR.out.1
  have Hg:Hid (W0.heap.size≤g∧w.heap.size+1 < W0.heap.size):=⟨by rw [← hg];exact HB1.out.2.size,hz⟩
  have HO5:Hid (OwnK .i64 23 w4 g (.slice (some ⟨g,0,none⟩) n2 n2) (rowF V 0)):=by
   show OwnK _ _ _ _ _ _
   rw [rowF_zero,HV.out.2.1]
   exact HO4.out
  clear a0 a1 a2 a3 HO4 B4 hg hz
  go_loopg [20] n2 (fun gg i wr=>∃ (k:Nat),k≤n2∧gg=n2 - k∧i = .int .i64 (k:Int)∧Hid (OwnK .i64 23 wr g (.slice (some ⟨g,0,none⟩) n2 n2) (rowF V k))∧Hid (Below w.heap.size w wr∧Stay g w4 wr))
  case atStart=>exact ⟨0,by omega,by omega,by first|rfl|simp,HO5,HB4.out.1,Stay.refl _ _⟩
  case round=>
   obtain ⟨k,hk,hg,rfl,HRk,hBS⟩:=hrel
   obtain ⟨R1,hR1⟩:∃ R1:World,R1=wr:=⟨_,rfl⟩
   subst hR1
   by_cases hkn:k < n2
   ·have hk':(k:Int) < (n2:Int):=by omega
    obtain ⟨q,o,rfl,hc0⟩:=HX.out.2 k hkn
    have hc1:=cell_low hc0 hBS.out.1
    have rx:=HV.out.2.2.2.1.in k (by rw [HV.out.2.2.2.2.2];exact hkn)
    obtain ⟨X,eX⟩:∃ X,x.getD k 0=X:=⟨_,rfl⟩
    rw [eX] at hc1 rx
    obtain ⟨Z,eZ⟩:∃ Z,Fx.mulI X K=Z:=⟨_,rfl⟩
    have HZ:Hid (V.getD k 0=Z):=by
     show _=_
     rw [← HV.out.1,List.getD_eq_getElem?_getD,List.getElem?_map,List.getElem?_eq_getElem (by rw [HV.out.2.2.2.2.2];exact hkn),← eZ,← eX,getD_lt x k 0 (by rw [HV.out.2.2.2.2.2];exact hkn)]
     rfl
    have cz:∀ W,Calls Tryz.prog 134 #[.int .i64 X,.int .i64 K] W fun e w'=>e = .returned (.int .i64 Z)∧w'=W:=fun W=>by rw [← eZ];exact Fx.mul_any X K rx HV.out.2.2.2.2.1 W
    obtain ⟨hown,hfz⟩:=HRk.out.cell (by rw [rowF_len];exact HV.out.2.1) k hkn
    have H5:Hid (OwnK .i64 23 (R1.setCell ⟨g,k,none⟩ (.int .i64 Z)) g (.slice (some ⟨g,0,none⟩) n2 n2) (rowF V (k+1))):=by
     have:=HRk.out.store (by rw [rowF_len];exact HV.out.2.1) k Z
     rw [← HZ.out,rowF_set V k (by rw [HV.out.2.1];exact hkn)] at this
     rw [← HZ.out]
     exact this
    have hgw:w.heap.size≤g:=by have:=Hg.out;omega
    have H6:Hid (Below w.heap.size w (R1.setCell ⟨g,k,none⟩ (.int .i64 Z))∧Stay g w4 (R1.setCell ⟨g,k,none⟩ (.int .i64 Z))):=⟨hBS.out.1.setCell (p:=⟨g,k,none⟩) hgw _,hBS.out.2.set _ _⟩
    clear eX eZ hc0
    go_wp2_with fail
    refine (cz _).mono ?_
    rintro e w5 ⟨rfl,rfl⟩
    clear cz
    go_wp2
    go_roundg (n2 - (k+1))
    case measure=>omega
    case rel=>exact ⟨k+1,by omega,rfl,by first|rfl|simp,H5,H6⟩
   ·obtain rfl:k=n2:=by omega
    have hne0:w.heap.size≠g:=by have:=Hg.out;omega
    have hne1:w.heap.size+1≠g:=by have:=Hg.out;omega
    obtain ⟨a0,a1,_,_⟩:=(XA.out.up HB4.out.2).stay hBS.out.2 hne0
    have xr1:=(XR.out.up HB4.out.2).stay hBS.out.2 hne1
    have hfin:=HRk.out
    rw [← HV.out.2.1,rowF_full,HV.out.2.1] at hfin
    have HF1:Hid (OwnK .i64 23 R1 g (.slice (some ⟨g,0,none⟩) k k) V):=hfin
    have cc:=cloneI_any _ d (by have:=HV.out.2.2.1.1.1;rw [ntl_len] at this;omega) R1 (HN.out.1.up hBS.out.1)
    have HXR:Hid (Cel R1 (w.heap.size+1) (.slice none 0 0) (.slice none 0 0)):=xr1
    clear hfin xr1 hne0 hne1
    go_wp2_with fail
    refine cc.mono ?_
    rintro e w6 ⟨v6,rfl,h6,hB6⟩
    obtain ⟨p6,n6,c6,rfl,_⟩:=h6.nums.lst
    have HF:Hid (TRes (set2 w6 (w.heap.size+1) (.slice p6 n6 c6) (.slice (some ⟨g,0,none⟩) k k)) w.heap.size (.agg #[.slice p6 n6 c6,.slice (some ⟨g,0,none⟩) k k]) d V∧Below w.heap.size w (set2 w6 (w.heap.size+1) (.slice p6 n6 c6) (.slice (some ⟨g,0,none⟩) k k))):=by
     have hs:g≤R1.heap.size:=Nat.le_of_lt HF1.out.size
     exact ⟨(TRes.set (h6.low (Nat.le_trans Hg.out.1 hs)) ((HF1.out.up hB6).low Hg.out.1) Hg.out.2).low HB0.out.size,below_cell (bstep hBS.out.1 hB6) _ (by omega) _ _⟩
    clear cc h6 a0 a1
    have xr:=(HXR.out.up hB6)
    have cf:=xr.set (.slice p6 n6 c6) (.slice (some ⟨g,0,none⟩) k k)
    obtain ⟨r0,r1,r2,r3⟩:=xr
    obtain ⟨y0,y1,_,_⟩:=cf
    go_wp2
    exact bodyPost_ret (v:=.tuple #[.agg #[.slice p6 n6 c6,.slice (some ⟨g,0,none⟩) k k],.int .i64 0]) (by simp [results,Tryz.results105,go_sem,y0,y1]) rfl ⟨_,rfl,HF.out⟩
 ·rw [decide_eq_false hp] at cA
  unfold scaleE scaleD scaleV
  rw [if_neg hp,if_neg hp,if_neg hp]
  clear h1 h2 hd hx hp hK
  go_enter Tryz.func105,Tryz.ntmps105
  go_wp2_with fail
  generalize hW0:World.alloc _ _=W0
  have HB0:=hidB (w:=w) hW0 (by go_grown)
  have XA:Hid (Cel W0 w.heap.size (.slice p n c) (.slice p2 n2 c2)):=celW hW0 (by simp [go_sem])
  have XR:Hid (Cel W0 (w.heap.size+1) (.slice none 0 0) (.slice none 0 0)):=celW hW0 (by simp [go_sem])
  clear hW0
  refine (cA W0 HB0.out).mono ?_
  rintro e w1 ⟨rfl,hB1⟩
  have HB1:=hid2 (bstep HB0.out hB1) hB1
  clear hB1
  have xr:=(XR.out.up HB1.out.2)
  have BF:=below_cell (HB1.out.1) (w.heap.size+1) (by omega) (.slice none 0 0) (.slice none 0 0)
  have cf:=xr.set (.slice none 0 0) (.slice none 0 0)
  obtain ⟨r0,r1,r2,r3⟩:=xr
  obtain ⟨y0,y1,_,_⟩:=cf
  go_wp2
  exact bodyPost_ret (v:=.tuple #[.agg #[.slice none 0 0,.slice none 0 0],.int .i64 1]) (by simp [results,Tryz.results105,go_sem,y0,y1]) rfl ⟨_,rfl,TRes.none _ _,BF⟩
theorem treshape_any (p p2 p3:Option Addr) (n c n2 c2 n3 c3:Nat) (d x d':List Int) (hd:RI d) (hd':RI d') (w:World) (h1:Nums .i64 w (.slice p n c) d) (h2:Nums .i64 w (.slice p2 n2 c2) x) (h3:Nums .i64 w (.slice p3 n3 c3) d'):
  Calls Tryz.prog 113 #[.agg #[.slice p n c,.slice p2 n2 c2],.slice p3 n3 c3] w fun e w'=>∃ v',e = .returned (.tuple #[v',.int .i64 (shpE d x d')])∧TRes w' w.heap.size v' (shpD d x d') (shpV d x d')∧Below w.heap.size w w':=by
 have cA:=fun W (hW:Below w.heap.size w W)=>tgood_any _ _ d x hd W (h1.up hW) (h2.up hW)
 have cB:=fun W (hW:Below w.heap.size w W)=>good_any _ d' hd' W (h3.up hW)
 have cZ:=fun W (hW:Below w.heap.size w W)=>size_any _ d' hd' W (h3.up hW)
 have HN:Hid (Nums .i64 w (.slice p n c) d∧Nums .i64 w (.slice p2 n2 c2) x∧Nums .i64 w (.slice p3 n3 c3) d'):=⟨h1,h2,h3⟩
 obtain ⟨_,_,_,e4,HX⟩:=h2.lst
 cases e4
 unfold shpE shpD shpV
 by_cases hp:isP d x
 ·rw [decide_eq_true hp] at cA
  by_cases hg:goodN (ntl d')
  ·rw [decide_eq_true hg] at cB
   rw [sizeN_good hg] at cZ
   rw [if_pos ⟨hp,hg⟩]
   have hlen:x.length≤4096:=by rw [hp.2];exact hp.1.2.2
   have HP:Hid (isP d x∧goodN (ntl d')∧x.length≤4096):=⟨hp,hg,hlen⟩
   by_cases hN:prodN (ntl d')=x.length
   ·rw [if_pos hN,if_pos ⟨⟨hp,hg⟩,hN⟩,if_pos ⟨⟨hp,hg⟩,hN⟩]
    rw [hN,HX.out.1] at cZ
    clear hN h1 h2 h3 hd hd' hp hg hlen
    go_enter Tryz.func113,Tryz.ntmps113
    go_wp2_with fail
    generalize hW0:World.alloc _ _=W0
    have HB0:=hidB (w:=w) hW0 (by go_grown)
    have XA:Hid (Cel W0 w.heap.size (.slice p n c) (.slice p2 n2 c2)):=celW hW0 (by simp [go_sem])
    have XR:Hid (Cel W0 (w.heap.size+1) (.slice none 0 0) (.slice none 0 0)):=celW hW0 (by simp [go_sem])
    clear hW0
    refine (cA W0 HB0.out).mono ?_
    rintro e w1 ⟨rfl,hB1⟩
    have HB1:=hid2 (bstep HB0.out hB1) hB1
    clear hB1
    go_wp2_with fail
    refine (cB w1 HB1.out.1).mono ?_
    rintro e w2 ⟨rfl,rfl⟩
    clear cB
    obtain ⟨a0,a1,_,_⟩:=XA.out.up HB1.out.2
    have cz:∀ m,Calls Tryz.prog 87 #[.slice p3 n3 c3] (w2.drewN m) fun e w'=>e = .returned (.int .i64 (n2:Int))∧w'=w2.drewN m:=fun m=>cZ _ (below_drew HB1.out.1 m)
    go_wp2_with fail
    go_quiet (exact Calls.quiet_of_same (cz _))
    generalize hw5:World.drewN w2 nq=w5
    have HB5:Hid (Below w.heap.size w w5∧Below W0.heap.size W0 w5):=by rw [← hw5];exact ⟨below_drew HB1.out.1 nq,below_drew HB1.out.2 nq⟩
    clear a0 a1 hw5
    obtain ⟨a0,a1,_,_⟩:=XA.out.up HB5.out.2
    have cCD:∀ W,Below w5.heap.size w5 W→Calls Tryz.prog 75 #[.slice p3 n3 c3] W fun e w'=>∃ v',e = .returned v'∧OwnK .i64 3 w' w5.heap.size v' d'∧Below W.heap.size W w':=fun W hW=>by
     refine (cloneI_any _ d' (by have:=HP.out.2.1.1;rw [ntl_len] at this;omega) W (HN.out.2.2.up (bstep HB5.out.1 hW))).mono ?_
     rintro e w' ⟨v',rfl,h,hb⟩
     exact ⟨v',rfl,h.low hW.size,hb⟩
    have cCX:∀ W,Below w5.heap.size w5 W→Calls Tryz.prog 91 #[.slice p2 n2 c2] W fun e w'=>∃ v',e = .returned v'∧OwnK .i64 23 w' w5.heap.size v' x∧Below W.heap.size W w':=fun W hW=>by
     refine (cloneF_any _ x (by have:=HP.out.2.2;omega) W (HN.out.2.1.up (bstep HB5.out.1 hW))).mono ?_
     rintro e w' ⟨v',rfl,h,hb⟩
     exact ⟨v',rfl,h.low hW.size,hb⟩
    have z0:=cell_lt a0
    haveI:Nonempty World:=⟨w⟩
    clear cz cZ cA
    go_wp2_with fail
    refine rel [⟨1,23,fun v W=>OwnK .i64 3 W w5.heap.size v d'⟩,⟨4,26,fun v W=>OwnK .i64 23 W w5.heap.size v x⟩] 5 28 (by kernel_rfl) rfl rfl (by kernel_rfl) (by rfl) ?_ ?_
    ·intro e he v W W' h hb
     simp only [List.mem_cons,List.not_mem_nil,or_false] at he
     rcases he with rfl|rfl
     ·exact OwnK.up h hb
     ·exact OwnK.up h hb
    apply Exists.intro
    refine ⟨fun x=>?_,?_,?_⟩
    ·simp only [List.take_succ_cons,List.take_zero]
     refine relQuiet rfl rfl ?_
     apply Exists.intro
     refine ⟨fun F hF hf K hK=>?_,?_⟩
     ·have hFc:=hF.cell
      have hFf:=hF.frozen
      go_big_quiet_op
      exact hK
     (try simp only [putL])
     refine relTold rfl rfl ?_ ?_
     ·intro F hF hf d_
      have hFc:=hF.cell
      have hFf:=hF.frozen
      simp [yieldsR,yieldsUpon,go_sem]
      refine (cCD _ (hF.below d_)).mono ?_
      rintro e' w8 ⟨v8,rfl,h8,hb8⟩
      exact ⟨_,rfl,h8,hb8⟩
     iterate 2
      (try simp only [putL])
      refine relQuiet rfl rfl ?_
      apply Exists.intro
      refine ⟨fun F hF hf K hK=>?_,?_⟩
      ·have hFc:=hF.cell
       have hFf:=hF.frozen
       go_big_quiet_op
       exact hK
     (try simp only [putL])
     refine relTold rfl rfl ?_ ?_
     ·intro F hF hf d_
      have hFc:=hF.cell
      have hFf:=hF.frozen
      simp [yieldsR,yieldsUpon,go_sem]
      refine (cCX _ (hF.below d_)).mono ?_
      rintro e' w8 ⟨v8,rfl,h8,hb8⟩
      exact ⟨_,rfl,h8,hb8⟩
     (try simp only [putL])
     refine relEnd ?_
     exact rfl
    ·exact fun x=>rfl
    ·intro w6 xs hB6 hf
     simp only [List.drop_succ_cons,List.drop_zero]
     have hfa:=hf _ List.mem_cons_self
     have hfb:=hf _ (List.mem_cons_of_mem _ List.mem_cons_self)
     obtain ⟨fa,efa⟩:∃ fa,xs 1=fa:=⟨_,rfl⟩
     obtain ⟨fb,efb⟩:∃ fb,xs 4=fb:=⟨_,rfl⟩
     simp only [efa,efb] at hfa hfb ⊢
     clear efa efb hf
     obtain ⟨pa,na,ca,rfl,_⟩:=hfa.nums.lst
     obtain ⟨pb,nb,cb,rfl,_⟩:=hfb.nums.lst
     have HF:Hid (TRes (set2 w6 (w.heap.size+1) (.slice pa na ca) (.slice pb nb cb)) w.heap.size (.agg #[.slice pa na ca,.slice pb nb cb]) d' x∧Below w.heap.size w (set2 w6 (w.heap.size+1) (.slice pa na ca) (.slice pb nb cb))):=by
      exact ⟨(TRes.set hfa hfb (Nat.lt_of_lt_of_le (cell_lt XR.out.1) HB5.out.2.size)).low HB5.out.1.size,below_cell (bstep HB5.out.1 hB6) _ (by omega) _ _⟩
     clear hfa hfb a0 a1 z0
     have xr:=(XR.out.up (bstep HB5.out.2 hB6))
     have cf:=xr.set (.slice pa na ca) (.slice pb nb cb)
     obtain ⟨r0,r1,r2,r3⟩:=xr
     obtain ⟨y0,y1,_,_⟩:=cf
     go_wp2
     exact bodyPost_ret (v:=.tuple #[.agg #[.slice pa na ca,.slice pb nb cb],.int .i64 0]) (by simp [results,Tryz.results113,go_sem,y0,y1]) rfl ⟨_,rfl,HF.out⟩
   ·rw [if_neg hN,if_neg (fun h=>hN h.2),if_neg (fun h=>hN h.2)]
    obtain ⟨N,eN⟩:∃ N,prodN (ntl d')=N:=⟨_,rfl⟩
    rw [eN] at cZ hN
    rw [HX.out.1] at hN
    have hN':((N:Int) != (n2:Int))=true:=by simp;omega
    have hN2:¬ ((N:Int)=(n2:Int)):=by omega
    clear eN h1 h2 h3 hd hd' hp hg hlen hN
    go_enter Tryz.func113,Tryz.ntmps113
    go_wp2_with fail
    generalize hW0:World.alloc _ _=W0
    have HB0:=hidB (w:=w) hW0 (by go_grown)
    have XA:Hid (Cel W0 w.heap.size (.slice p n c) (.slice p2 n2 c2)):=celW hW0 (by simp [go_sem])
    have XR:Hid (Cel W0 (w.heap.size+1) (.slice none 0 0) (.slice none 0 0)):=celW hW0 (by simp [go_sem])
    clear hW0
    refine (cA W0 HB0.out).mono ?_
    rintro e w1 ⟨rfl,hB1⟩
    have HB1:=hid2 (bstep HB0.out hB1) hB1
    clear hB1
    go_wp2_with fail
    refine (cB w1 HB1.out.1).mono ?_
    rintro e w2 ⟨rfl,rfl⟩
    clear cB
    obtain ⟨a0,a1,_,_⟩:=XA.out.up HB1.out.2
    have cz:∀ m,Calls Tryz.prog 87 #[.slice p3 n3 c3] (w2.drewN m) fun e w'=>e = .returned (.int .i64 (N:Int))∧w'=w2.drewN m:=fun m=>cZ _ (below_drew HB1.out.1 m)
    go_wp2_with fail
    go_quiet (exact Calls.quiet_of_same (cz _))
    clear cz a0 a1
    have xr:=(XR.out.up (below_drew HB1.out.2 nq))
    have BF:=below_cell (below_drew HB1.out.1 nq) (w.heap.size+1) (by omega) (.slice none 0 0) (.slice none 0 0)
    have cf:=xr.set (.slice none 0 0) (.slice none 0 0)
    obtain ⟨r0,r1,r2,r3⟩:=xr
    obtain ⟨y0,y1,_,_⟩:=cf
    go_wp2
    exact bodyPost_ret (v:=.tuple #[.agg #[.slice none 0 0,.slice none 0 0],.int .i64 4]) (by simp [results,Tryz.results113,go_sem,y0,y1]) rfl ⟨_,rfl,TRes.none _ _,BF⟩
  ·rw [decide_eq_false hg] at cB
   rw [if_neg (fun h=>hg h.2),if_neg (fun h=>hg h.1.2),if_neg (fun h=>hg h.1.2)]
   clear h1 h2 h3 hd hd' hp hg cZ
   go_enter Tryz.func113,Tryz.ntmps113
   go_wp2_with fail
   generalize hW0:World.alloc _ _=W0
   have HB0:=hidB (w:=w) hW0 (by go_grown)
   have XA:Hid (Cel W0 w.heap.size (.slice p n c) (.slice p2 n2 c2)):=celW hW0 (by simp [go_sem])
   have XR:Hid (Cel W0 (w.heap.size+1) (.slice none 0 0) (.slice none 0 0)):=celW hW0 (by simp [go_sem])
   clear hW0
   refine (cA W0 HB0.out).mono ?_
   rintro e w1 ⟨rfl,hB1⟩
   have HB1:=hid2 (bstep HB0.out hB1) hB1
   clear hB1
   go_wp2_with fail
   refine (cB w1 HB1.out.1).mono ?_
   rintro e w2 ⟨rfl,rfl⟩
   have xr:=(XR.out.up HB1.out.2)
   have BF:=below_cell (HB1.out.1) (w.heap.size+1) (by omega) (.slice none 0 0) (.slice none 0 0)
   have cf:=xr.set (.slice none 0 0) (.slice none 0 0)
   obtain ⟨r0,r1,r2,r3⟩:=xr
   obtain ⟨y0,y1,_,_⟩:=cf
   go_wp2
   exact bodyPost_ret (v:=.tuple #[.agg #[.slice none 0 0,.slice none 0 0],.int .i64 1]) (by simp [results,Tryz.results113,go_sem,y0,y1]) rfl ⟨_,rfl,TRes.none _ _,BF⟩
 ·rw [decide_eq_false hp] at cA
  rw [if_neg (fun h=>hp h.1),if_neg (fun h=>hp h.1.1),if_neg (fun h=>hp h.1.1)]
  clear h1 h2 h3 hd hd' hp cZ cB
  go_enter Tryz.func113,Tryz.ntmps113
  go_wp2_with fail
  generalize hW0:World.alloc _ _=W0
  have HB0:=hidB (w:=w) hW0 (by go_grown)
  have XA:Hid (Cel W0 w.heap.size (.slice p n c) (.slice p2 n2 c2)):=celW hW0 (by simp [go_sem])
  have XR:Hid (Cel W0 (w.heap.size+1) (.slice none 0 0) (.slice none 0 0)):=celW hW0 (by simp [go_sem])
  clear hW0
  refine (cA W0 HB0.out).mono ?_
  rintro e w1 ⟨rfl,hB1⟩
  have HB1:=hid2 (bstep HB0.out hB1) hB1
  clear hB1
  have xr:=(XR.out.up HB1.out.2)
  have BF:=below_cell (HB1.out.1) (w.heap.size+1) (by omega) (.slice none 0 0) (.slice none 0 0)
  have cf:=xr.set (.slice none 0 0) (.slice none 0 0)
  obtain ⟨r0,r1,r2,r3⟩:=xr
  obtain ⟨y0,y1,_,_⟩:=cf
  go_wp2
  exact bodyPost_ret (v:=.tuple #[.agg #[.slice none 0 0,.slice none 0 0],.int .i64 1]) (by simp [results,Tryz.results113,go_sem,y0,y1]) rfl ⟨_,rfl,TRes.none _ _,BF⟩
end Go.Proofs.YtjlofobnmjompaaGreatDoor.Wd
namespace Go.Proofs.YtjlofobnmjompaaGreatDoor.Wd
open Go.RowKit Fx
/-- Two words that stand for a number. -/
def wd (v:Int):Value:=.agg #[.int .i64 (v / 18446744073709551616),.int .u64 (v % 18446744073709551616)]
def InW (v:Int):Prop:=-170141183460469231731687303715884105728≤v∧v < 170141183460469231731687303715884105728
def wr (v:Int):Int:=(v+170141183460469231731687303715884105728) % 340282366920938463463374607431768211456 - 170141183460469231731687303715884105728
theorem wr_rng (v:Int):InW (wr v):=by unfold InW wr;omega
theorem wr_in {v:Int} (h:InW v):wr v=v:=by unfold InW at h;unfold wr;omega
theorem InR.w {a:Int} (h:InR a):InW a:=by unfold InR at h;unfold InW;omega
theorem wd_eq {h l v:Int} (e1:h=v / 18446744073709551616) (e2:l=v % 18446744073709551616):Value.agg #[.int .i64 h,.int .u64 l]=wd v:=by
 subst e1 e2;rfl
/-- A quotient, rounded: to the nearest, of two that are as near to the even one; on both sides of 0. -/
def rqI (x d:Int):Int:=if d < 2*(x % d)∨(2*(x % d)=d∧x / d % 2=1) then x / d+1 else x / d
theorem rqI_neg (x d:Int) (hd:0 < d):rqI (-x) d = -rqI x d:=by
 obtain ⟨q,eq⟩:∃ q,x / d=q:=⟨_,rfl⟩
 obtain ⟨r,er⟩:∃ r,x % d=r:=⟨_,rfl⟩
 have h0:0≤r:=er ▸ Int.emod_nonneg x (by omega)
 have h1:r < d:=er ▸ Int.emod_lt_of_pos x hd
 have hx:d*q+r=x:=by rw [← eq,← er];exact Int.mul_ediv_add_emod x d
 by_cases hr:r=0
 ·have e:(-x) / d = -q∧(-x) % d=0:=by
   rw [Int.ediv_emod_unique hd]
   refine ⟨?_,by omega,hd⟩
   rw [← hx,hr,Int.mul_neg];omega
  unfold rqI
  rw [e.1,e.2,eq,er,hr]
  split <;> split <;> omega
 ·have e:(-x) / d = -q - 1∧(-x) % d=d - r:=by
   rw [Int.ediv_emod_unique hd]
   refine ⟨?_,by omega,by omega⟩
   rw [← hx,Int.mul_sub,Int.mul_neg];omega
  unfold rqI
  rw [e.1,e.2,eq,er]
  split <;> split <;> omega
theorem rqI_nat (x d:Nat):rqI (x:Int) (d:Int)=((rq x d:Nat):Int):=by
 unfold rqI rq
 have e1:(x:Int) % d=((x % d:Nat):Int):=by omega
 have e2:(x:Int) / d=((x / d:Nat):Int):=by omega
 rw [e1,e2]
 split <;> split <;> omega
theorem rqI_sg (s:Bool) (x d:Nat) (hd:0 < d):rqI (sg s x) d=sg s (rq x d):=by
 cases s
 ·exact rqI_nat x d
 ·show rqI (-(x:Int)) d = -((rq x d:Nat):Int)
  rw [rqI_neg _ _ (by omega),rqI_nat]
theorem dd (x:Int) {p q:Int} (hp:0 < p):x / p / q=x / (p*q):=by
 rw [Int.ediv_ediv,if_neg (fun c=>by omega),Int.sub_zero]
end Go.Proofs.YtjlofobnmjompaaGreatDoor.Wd
