/- Tensors: what tens.Scale and tens.Reshape hand back. · Plain arithmetic of numbers of 128 bits with a sign: two words stand for a number. Nothing of the program is named here. · What the functions of package wide hand back, for all numbers: sums, differences, products. What the functions of package wide hand back: the sign, products, a number held. -/
import Derived.Test.YtaiigfhicaelkabGreatDoorW02
import Derived.Lib.TrailingZeros
import Derived.Test.YtaiigfhicaelkabGreatDoorProg
import Derived.Shelf.Spec.BitsCarry
import Derived.Shelf.Spec.TrailingZeros
import Derived.WalkKit
import Derived.ProofKit
import Derived.WalkSpells
import Derived.Handy
import Derived.Deep.RegionWith
set_option linter.unusedVariables false
set_option linter.unusedSimpArgs false
set_option maxHeartbeats 16000000
set_option maxRecDepth 16000
namespace Go.Proofs.YtaiigfhicaelkabGreatDoor.Wd
open Go.RowKit
def scaleE (d x:List Int):Int:=if isP d x then 0 else 1
def scaleD (d x:List Int):List Int:=if isP d x then d else []
def scaleV (d x:List Int) (k:Int):List Int:=if isP d x then x.map fun y=>Fx.mulI y k else []
def shpE (d x d':List Int):Int:=if isP d x∧goodN (ntl d') then if prodN (ntl d')=x.length then 0 else 4 else 1
def shpD (d x d':List Int):List Int:=if (isP d x∧goodN (ntl d'))∧prodN (ntl d')=x.length then d' else []
def shpV (d x d':List Int):List Int:=if (isP d x∧goodN (ntl d'))∧prodN (ntl d')=x.length then x else []
theorem tscale_any (p p2:Option Addr) (n c n2 c2:Nat) (d x:List Int) (hd:RI d) (hx:RI x) (K:Int) (hK:Fx.InR K) (w:World) (h1:Nums .i64 w (.slice p n c) d) (h2:Nums .i64 w (.slice p2 n2 c2) x):
  Calls Tryz.prog 45 #[.agg #[.slice p n c,.slice p2 n2 c2],.int .i64 K] w fun e w'=>∃ v',e = .returned (.tuple #[v',.int .i64 (scaleE d x)])∧TRes w' w.heap.size v' (scaleD d x) (scaleV d x K)∧Below w.heap.size w w':=by
 have cA:=fun W (hW:Below w.heap.size w W)=>tgood_any _ _ d x hd W (h1.up hW) (h2.up hW)
 by_cases hp:isP d x
 ·rw [decide_eq_true hp] at cA
  unfold scaleE scaleD scaleV
  rw [if_pos hp,if_pos hp,if_pos hp]
  obtain ⟨V,eV⟩:∃ V,(x.map fun y=>Fx.mulI y K)=V:=⟨_,rfl⟩
  rw [eV]
  have HN:Hid (Nums .i64 w (.slice p n c) d∧Nums .i64 w (.slice p2 n2 c2) x):=⟨h1,h2⟩
  obtain ⟨_,_,_,e4,HX⟩:=h2.lst
  cases e4
  have hlen:x.length≤4096:=by rw [hp.2];exact hp.1.2.2
  rw [HX.out.1] at hlen
  have hlen':(n2:Int)≤4096:=by omega
  have HV:Hid ((x.map fun y=>Fx.mulI y K)=V∧V.length=n2∧isP d x∧RI x∧Fx.InR K∧x.length=n2):=⟨eV,by rw [← eV,List.length_map];exact HX.out.1,hp,hx,hK,HX.out.1⟩
  clear eV h1 h2 hd hx hp hK
  go_enter Tryz.func45,Tryz.ntmps45
  go_wp2_with fail
  generalize hW0:World.alloc _ _=W0
  have HB0:=hidB (w:=w) hW0 (by go_grown)
  have XA:Hid (Cel W0 w.heap.size (.slice p n c) (.slice p2 n2 c2)):=celW hW0 (by simp [go_sem])
  have XR:Hid (Cel W0 (w.heap.size+1) (.slice none 0 0) (.slice none 0 0)):=celW hW0 (by simp [go_sem])
  clear hW0
  refine (cA W0 HB0.out).mono ?_
  rintro e w1 ⟨rfl,hB1⟩
  have HB1:=hid2 (bstep HB0.out hB1) hB1
  clear hB1
  obtain ⟨a0,a1,_,_⟩:=XA.out.up HB1.out.2
  go_wp2_with (at_make;refine wpList_makeK fixT (by decide) _ rfl (.tmp 15) (.tmp 15) rfl .i64 .i64 n2 n2 n2 rfl rfl rfl rfl (by omega) w.heap.size w HB1.out.1.size HB1.out.1 ?_;intro w4 HO4 B4 B4';clear B4';have XA4:=(XA.out.up (bstep HB1.out.2 B4));obtain ⟨a2,a3,_,_⟩:=XA4)
  obtain ⟨g,hg⟩:∃ g,w1.heap.size=g:=⟨_,rfl⟩
  have HB4:=hid2 (bstep HB1.out.1 B4) (bstep HB1.out.2 B4)
  rw [hg] at HO4 ⊢
  have hz:=cell_lt XR.out.1
  have Hg:Hid (W0.heap.size≤g∧w.heap.size+1 < W0.heap.size):=⟨by rw [← hg];exact HB1.out.2.size,hz⟩
  have HO5:Hid (OwnK .i64 22 w4 g (.slice (some ⟨g,0,none⟩) n2 n2) (rowF V 0)):=by
   show OwnK _ _ _ _ _ _
   rw [rowF_zero,HV.out.2.1]
   exact HO4.out
  clear a0 a1 a2 a3 HO4 B4 hg hz
  go_loopg [20] n2 (fun gg i wr=>∃ (k:Nat),k≤n2∧gg=n2 - k∧i = .int .i64 (k:Int)∧Hid (OwnK .i64 22 wr g (.slice (some ⟨g,0,none⟩) n2 n2) (rowF V k))∧Hid (Below w.heap.size w wr∧Stay g w4 wr))
  case atStart=>exact ⟨0,by omega,by omega,by first|rfl|simp,HO5,HB4.out.1,Stay.refl _ _⟩
  case round=>
   obtain ⟨k,hk,hg,rfl,HRk,hBS⟩:=hrel
   obtain ⟨R1,hR1⟩:∃ R1:World,R1=wr:=⟨_,rfl⟩
   subst hR1
   by_cases hkn:k < n2
   ·have hk':(k:Int) < (n2:Int):=by omega
    obtain ⟨q,o,rfl,hc0⟩:=HX.out.2 k hkn
    have hc1:=cell_low hc0 hBS.out.1
    have rx:=HV.out.2.2.2.1.in k (by rw [HV.out.2.2.2.2.2];exact hkn)
    obtain ⟨X,eX⟩:∃ X,x.getD k 0=X:=⟨_,rfl⟩
    rw [eX] at hc1 rx
    obtain ⟨Z,eZ⟩:∃ Z,Fx.mulI X K=Z:=⟨_,rfl⟩
    have HZ:Hid (V.getD k 0=Z):=by
     show _=_
     rw [← HV.out.1,List.getD_eq_getElem?_getD,List.getElem?_map,List.getElem?_eq_getElem (by rw [HV.out.2.2.2.2.2];exact hkn),← eZ,← eX,getD_lt x k 0 (by rw [HV.out.2.2.2.2.2];exact hkn)]
     rfl
    have cz:∀ W,Calls Tryz.prog 88 #[.int .i64 X,.int .i64 K] W fun e w'=>e = .returned (.int .i64 Z)∧w'=W:=fun W=>by rw [← eZ];exact Fx.mul_any X K rx HV.out.2.2.2.2.1 W
    obtain ⟨hown,hfz⟩:=HRk.out.cell (by rw [rowF_len];exact HV.out.2.1) k hkn
    have H5:Hid (OwnK .i64 22 (R1.setCell ⟨g,k,none⟩ (.int .i64 Z)) g (.slice (some ⟨g,0,none⟩) n2 n2) (rowF V (k+1))):=by
     have:=HRk.out.store (by rw [rowF_len];exact HV.out.2.1) k Z
     rw [← HZ.out,rowF_set V k (by rw [HV.out.2.1];exact hkn)] at this
     rw [← HZ.out]
     exact this
    have hgw:w.heap.size≤g:=by have:=Hg.out;omega
    have H6:Hid (Below w.heap.size w (R1.setCell ⟨g,k,none⟩ (.int .i64 Z))∧Stay g w4 (R1.setCell ⟨g,k,none⟩ (.int .i64 Z))):=⟨hBS.out.1.setCell (p:=⟨g,k,none⟩) hgw _,hBS.out.2.set _ _⟩
    clear eX eZ hc0
    go_wp2_with fail
    refine (cz _).mono ?_
    rintro e w5 ⟨rfl,rfl⟩
    clear cz
    go_wp2
    go_roundg (n2 - (k+1))
    case measure=>omega
    case rel=>exact ⟨k+1,by omega,rfl,by first|rfl|simp,H5,H6⟩
   ·obtain rfl:k=n2:=by omega
    have hne0:w.heap.size≠g:=by have:=Hg.out;omega
    have hne1:w.heap.size+1≠g:=by have:=Hg.out;omega
    obtain ⟨a0,a1,_,_⟩:=(XA.out.up HB4.out.2).stay hBS.out.2 hne0
    have xr1:=(XR.out.up HB4.out.2).stay hBS.out.2 hne1
    have hfin:=HRk.out
    rw [← HV.out.2.1,rowF_full,HV.out.2.1] at hfin
    have HF1:Hid (OwnK .i64 22 R1 g (.slice (some ⟨g,0,none⟩) k k) V):=hfin
    have cc:=cloneI_any _ d (by have:=HV.out.2.2.1.1.1;rw [ntl_len] at this;omega) R1 (HN.out.1.up hBS.out.1)
    have HXR:Hid (Cel R1 (w.heap.size+1) (.slice none 0 0) (.slice none 0 0)):=xr1
    clear hfin xr1 hne0 hne1
    go_wp2_with fail
    refine cc.mono ?_
    rintro e w6 ⟨v6,rfl,h6,hB6⟩
    obtain ⟨p6,n6,c6,rfl,_⟩:=h6.nums.lst
    have HF:Hid (TRes (set2 w6 (w.heap.size+1) (.slice p6 n6 c6) (.slice (some ⟨g,0,none⟩) k k)) w.heap.size (.agg #[.slice p6 n6 c6,.slice (some ⟨g,0,none⟩) k k]) d V∧Below w.heap.size w (set2 w6 (w.heap.size+1) (.slice p6 n6 c6) (.slice (some ⟨g,0,none⟩) k k))):=by
     have hs:g≤R1.heap.size:=Nat.le_of_lt HF1.out.size
     exact ⟨(TRes.set (h6.low (Nat.le_trans Hg.out.1 hs)) ((HF1.out.up hB6).low Hg.out.1) Hg.out.2).low HB0.out.size,below_cell (bstep hBS.out.1 hB6) _ (by omega) _ _⟩
    clear cc h6 a0 a1
    have xr:=(HXR.out.up hB6)
    have cf:=xr.set (.slice p6 n6 c6) (.slice (some ⟨g,0,none⟩) k k)
    obtain ⟨r0,r1,r2,r3⟩:=xr
    obtain ⟨y0,y1,_,_⟩:=cf
    go_wp2
    exact bodyPost_ret (v:=.tuple #[.agg #[.slice p6 n6 c6,.slice (some ⟨g,0,none⟩) k k],.int .i64 0]) (by simp [results,Tryz.results45,go_sem,y0,y1]) rfl ⟨_,rfl,HF.out⟩
 ·rw [decide_eq_false hp] at cA
  unfold scaleE scaleD scaleV
  rw [if_neg hp,if_neg hp,if_neg hp]
  clear h1 h2 hd hx hp hK
  go_enter Tryz.func45,Tryz.ntmps45
  go_wp2_with fail
  generalize hW0:World.alloc _ _=W0
  have HB0:=hidB (w:=w) hW0 (by go_grown)
  have XA:Hid (Cel W0 w.heap.size (.slice p n c) (.slice p2 n2 c2)):=celW hW0 (by simp [go_sem])
  have XR:Hid (Cel W0 (w.heap.size+1) (.slice none 0 0) (.slice none 0 0)):=celW hW0 (by simp [go_sem])
  clear hW0
  refine (cA W0 HB0.out).mono ?_
  rintro e w1 ⟨rfl,hB1⟩
  have HB1:=hid2 (bstep HB0.out hB1) hB1
  clear hB1
  have xr:=(XR.out.up HB1.out.2)
  have BF:=below_cell (HB1.out.1) (w.heap.size+1) (by omega) (.slice none 0 0) (.slice none 0 0)
  have cf:=xr.set (.slice none 0 0) (.slice none 0 0)
  obtain ⟨r0,r1,r2,r3⟩:=xr
  obtain ⟨y0,y1,_,_⟩:=cf
  go_wp2
  exact bodyPost_ret (v:=.tuple #[.agg #[.slice none 0 0,.slice none 0 0],.int .i64 1]) (by simp [results,Tryz.results45,go_sem,y0,y1]) rfl ⟨_,rfl,TRes.none _ _,BF⟩
theorem treshape_any (p p2 p3:Option Addr) (n c n2 c2 n3 c3:Nat) (d x d':List Int) (hd:RI d) (hd':RI d') (w:World) (h1:Nums .i64 w (.slice p n c) d) (h2:Nums .i64 w (.slice p2 n2 c2) x) (h3:Nums .i64 w (.slice p3 n3 c3) d'):
  Calls Tryz.prog 55 #[.agg #[.slice p n c,.slice p2 n2 c2],.slice p3 n3 c3] w fun e w'=>∃ v',e = .returned (.tuple #[v',.int .i64 (shpE d x d')])∧TRes w' w.heap.size v' (shpD d x d') (shpV d x d')∧Below w.heap.size w w':=by
 have cA:=fun W (hW:Below w.heap.size w W)=>tgood_any _ _ d x hd W (h1.up hW) (h2.up hW)
 have cB:=fun W (hW:Below w.heap.size w W)=>good_any _ d' hd' W (h3.up hW)
 have cZ:=fun W (hW:Below w.heap.size w W)=>size_any _ d' hd' W (h3.up hW)
 have HN:Hid (Nums .i64 w (.slice p n c) d∧Nums .i64 w (.slice p2 n2 c2) x∧Nums .i64 w (.slice p3 n3 c3) d'):=⟨h1,h2,h3⟩
 obtain ⟨_,_,_,e4,HX⟩:=h2.lst
 cases e4
 unfold shpE shpD shpV
 by_cases hp:isP d x
 ·rw [decide_eq_true hp] at cA
  by_cases hg:goodN (ntl d')
  ·rw [decide_eq_true hg] at cB
   rw [sizeN_good hg] at cZ
   rw [if_pos ⟨hp,hg⟩]
   have hlen:x.length≤4096:=by rw [hp.2];exact hp.1.2.2
   have HP:Hid (isP d x∧goodN (ntl d')∧x.length≤4096):=⟨hp,hg,hlen⟩
   by_cases hN:prodN (ntl d')=x.length
   ·rw [if_pos hN,if_pos ⟨⟨hp,hg⟩,hN⟩,if_pos ⟨⟨hp,hg⟩,hN⟩]
    rw [hN,HX.out.1] at cZ
    clear hN h1 h2 h3 hd hd' hp hg hlen
    go_enter Tryz.func55,Tryz.ntmps55
    go_wp2_with fail
    generalize hW0:World.alloc _ _=W0
    have HB0:=hidB (w:=w) hW0 (by go_grown)
    have XA:Hid (Cel W0 w.heap.size (.slice p n c) (.slice p2 n2 c2)):=celW hW0 (by simp [go_sem])
    have XR:Hid (Cel W0 (w.heap.size+1) (.slice none 0 0) (.slice none 0 0)):=celW hW0 (by simp [go_sem])
    clear hW0
    refine (cA W0 HB0.out).mono ?_
    rintro e w1 ⟨rfl,hB1⟩
    have HB1:=hid2 (bstep HB0.out hB1) hB1
    clear hB1
    go_wp2_with fail
    refine (cB w1 HB1.out.1).mono ?_
    rintro e w2 ⟨rfl,rfl⟩
    clear cB
    obtain ⟨a0,a1,_,_⟩:=XA.out.up HB1.out.2
    have cz:∀ m,Calls Tryz.prog 39 #[.slice p3 n3 c3] (w2.drewN m) fun e w'=>e = .returned (.int .i64 (n2:Int))∧w'=w2.drewN m:=fun m=>cZ _ (below_drew HB1.out.1 m)
    go_wp2_with fail
    go_quiet (exact Calls.quiet_of_same (cz _))
    generalize hw5:World.drewN w2 nq=w5
    have HB5:Hid (Below w.heap.size w w5∧Below W0.heap.size W0 w5):=by rw [← hw5];exact ⟨below_drew HB1.out.1 nq,below_drew HB1.out.2 nq⟩
    clear a0 a1 hw5
    obtain ⟨a0,a1,_,_⟩:=XA.out.up HB5.out.2
    have cCD:∀ W,Below w5.heap.size w5 W→Calls Tryz.prog 40 #[.slice p3 n3 c3] W fun e w'=>∃ v',e = .returned v'∧OwnK .i64 3 w' w5.heap.size v' d'∧Below W.heap.size W w':=fun W hW=>by
     refine (cloneI_any _ d' (by have:=HP.out.2.1.1;rw [ntl_len] at this;omega) W (HN.out.2.2.up (bstep HB5.out.1 hW))).mono ?_
     rintro e w' ⟨v',rfl,h,hb⟩
     exact ⟨v',rfl,h.low hW.size,hb⟩
    have cCX:∀ W,Below w5.heap.size w5 W→Calls Tryz.prog 41 #[.slice p2 n2 c2] W fun e w'=>∃ v',e = .returned v'∧OwnK .i64 22 w' w5.heap.size v' x∧Below W.heap.size W w':=fun W hW=>by
     refine (cloneF_any _ x (by have:=HP.out.2.2;omega) W (HN.out.2.1.up (bstep HB5.out.1 hW))).mono ?_
     rintro e w' ⟨v',rfl,h,hb⟩
     exact ⟨v',rfl,h.low hW.size,hb⟩
    have z0:=cell_lt a0
    haveI:Nonempty World:=⟨w⟩
    clear cz cZ cA
    go_wp2_with fail
    refine rel [⟨1,23,fun v W=>OwnK .i64 3 W w5.heap.size v d'⟩,⟨4,26,fun v W=>OwnK .i64 22 W w5.heap.size v x⟩] 5 28 (by kernel_rfl) rfl rfl (by kernel_rfl) (by rfl) ?_ ?_
    ·intro e he v W W' h hb
     simp only [List.mem_cons,List.not_mem_nil,or_false] at he
     rcases he with rfl|rfl
     ·exact OwnK.up h hb
     ·exact OwnK.up h hb
    apply Exists.intro
    refine ⟨fun x=>?_,?_,?_⟩
    ·simp only [List.take_succ_cons,List.take_zero]
     refine relQuiet rfl rfl ?_
     apply Exists.intro
     refine ⟨fun F hF hf K hK=>?_,?_⟩
     ·have hFc:=hF.cell
      have hFf:=hF.frozen
      go_big_quiet_op
      exact hK
     (try simp only [putL])
     refine relTold rfl rfl ?_ ?_
     ·intro F hF hf d_
      have hFc:=hF.cell
      have hFf:=hF.frozen
      simp [yieldsR,yieldsUpon,go_sem]
      refine (cCD _ (hF.below d_)).mono ?_
      rintro e' w8 ⟨v8,rfl,h8,hb8⟩
      exact ⟨_,rfl,h8,hb8⟩
     iterate 2
      (try simp only [putL])
      refine relQuiet rfl rfl ?_
      apply Exists.intro
      refine ⟨fun F hF hf K hK=>?_,?_⟩
      ·have hFc:=hF.cell
       have hFf:=hF.frozen
       go_big_quiet_op
       exact hK
     (try simp only [putL])
     refine relTold rfl rfl ?_ ?_
     ·intro F hF hf d_
      have hFc:=hF.cell
      have hFf:=hF.frozen
      simp [yieldsR,yieldsUpon,go_sem]
      refine (cCX _ (hF.below d_)).mono ?_
      rintro e' w8 ⟨v8,rfl,h8,hb8⟩
      exact ⟨_,rfl,h8,hb8⟩
     (try simp only [putL])
     refine relEnd ?_
     exact rfl
    ·exact fun x=>rfl
    ·intro w6 xs hB6 hf
     simp only [List.drop_succ_cons,List.drop_zero]
     have hfa:=hf _ List.mem_cons_self
     have hfb:=hf _ (List.mem_cons_of_mem _ List.mem_cons_self)
     obtain ⟨fa,efa⟩:∃ fa,xs 1=fa:=⟨_,rfl⟩
     obtain ⟨fb,efb⟩:∃ fb,xs 4=fb:=⟨_,rfl⟩
     simp only [efa,efb] at hfa hfb ⊢
     clear efa efb hf
     obtain ⟨pa,na,ca,rfl,_⟩:=hfa.nums.lst
     obtain ⟨pb,nb,cb,rfl,_⟩:=hfb.nums.lst
     have HF:Hid (TRes (set2 w6 (w.heap.size+1) (.slice pa na ca) (.slice pb nb cb)) w.heap.size (.agg #[.slice pa na ca,.slice pb nb cb]) d' x∧Below w.heap.size w (set2 w6 (w.heap.size+1) (.slice pa na ca) (.slice pb nb cb))):=by
      exact ⟨(TRes.set hfa hfb (Nat.lt_of_lt_of_le (cell_lt XR.out.1) HB5.out.2.size)).low HB5.out.1.size,below_cell (bstep HB5.out.1 hB6) _ (by omega) _ _⟩
     clear hfa hfb a0 a1 z0
     have xr:=(XR.out.up (bstep HB5.out.2 hB6))
     have cf:=xr.set (.slice pa na ca) (.slice pb nb cb)
     obtain ⟨r0,r1,r2,r3⟩:=xr
     obtain ⟨y0,y1,_,_⟩:=cf
     go_wp2
     exact bodyPost_ret (v:=.tuple #[.agg #[.slice pa na ca,.slice pb nb cb],.int .i64 0]) (by simp [results,Tryz.results55,go_sem,y0,y1]) rfl ⟨_,rfl,HF.out⟩
   ·rw [if_neg hN,if_neg (fun h=>hN h.2),if_neg (fun h=>hN h.2)]
    obtain ⟨N,eN⟩:∃ N,prodN (ntl d')=N:=⟨_,rfl⟩
    rw [eN] at cZ hN
    rw [HX.out.1] at hN
    have hN':((N:Int) != (n2:Int))=true:=by simp;omega
    have hN2:¬ ((N:Int)=(n2:Int)):=by omega
    clear eN h1 h2 h3 hd hd' hp hg hlen hN
    go_enter Tryz.func55,Tryz.ntmps55
    go_wp2_with fail
    generalize hW0:World.alloc _ _=W0
    have HB0:=hidB (w:=w) hW0 (by go_grown)
    have XA:Hid (Cel W0 w.heap.size (.slice p n c) (.slice p2 n2 c2)):=celW hW0 (by simp [go_sem])
    have XR:Hid (Cel W0 (w.heap.size+1) (.slice none 0 0) (.slice none 0 0)):=celW hW0 (by simp [go_sem])
    clear hW0
    refine (cA W0 HB0.out).mono ?_
    rintro e w1 ⟨rfl,hB1⟩
    have HB1:=hid2 (bstep HB0.out hB1) hB1
    clear hB1
    go_wp2_with fail
    refine (cB w1 HB1.out.1).mono ?_
    rintro e w2 ⟨rfl,rfl⟩
    clear cB
    obtain ⟨a0,a1,_,_⟩:=XA.out.up HB1.out.2
    have cz:∀ m,Calls Tryz.prog 39 #[.slice p3 n3 c3] (w2.drewN m) fun e w'=>e = .returned (.int .i64 (N:Int))∧w'=w2.drewN m:=fun m=>cZ _ (below_drew HB1.out.1 m)
    go_wp2_with fail
    go_quiet (exact Calls.quiet_of_same (cz _))
    clear cz a0 a1
    have xr:=(XR.out.up (below_drew HB1.out.2 nq))
    have BF:=below_cell (below_drew HB1.out.1 nq) (w.heap.size+1) (by omega) (.slice none 0 0) (.slice none 0 0)
    have cf:=xr.set (.slice none 0 0) (.slice none 0 0)
    obtain ⟨r0,r1,r2,r3⟩:=xr
    obtain ⟨y0,y1,_,_⟩:=cf
    go_wp2
    exact bodyPost_ret (v:=.tuple #[.agg #[.slice none 0 0,.slice none 0 0],.int .i64 4]) (by simp [results,Tryz.results55,go_sem,y0,y1]) rfl ⟨_,rfl,TRes.none _ _,BF⟩
  ·rw [decide_eq_false hg] at cB
   rw [if_neg (fun h=>hg h.2),if_neg (fun h=>hg h.1.2),if_neg (fun h=>hg h.1.2)]
   clear h1 h2 h3 hd hd' hp hg cZ
   go_enter Tryz.func55,Tryz.ntmps55
   go_wp2_with fail
   generalize hW0:World.alloc _ _=W0
   have HB0:=hidB (w:=w) hW0 (by go_grown)
   have XA:Hid (Cel W0 w.heap.size (.slice p n c) (.slice p2 n2 c2)):=celW hW0 (by simp [go_sem])
   have XR:Hid (Cel W0 (w.heap.size+1) (.slice none 0 0) (.slice none 0 0)):=celW hW0 (by simp [go_sem])
   clear hW0
   refine (cA W0 HB0.out).mono ?_
   rintro e w1 ⟨rfl,hB1⟩
   have HB1:=hid2 (bstep HB0.out hB1) hB1
   clear hB1
   go_wp2_with fail
   refine (cB w1 HB1.out.1).mono ?_
   rintro e w2 ⟨rfl,rfl⟩
   have xr:=(XR.out.up HB1.out.2)
   have BF:=below_cell (HB1.out.1) (w.heap.size+1) (by omega) (.slice none 0 0) (.slice none 0 0)
   have cf:=xr.set (.slice none 0 0) (.slice none 0 0)
   obtain ⟨r0,r1,r2,r3⟩:=xr
   obtain ⟨y0,y1,_,_⟩:=cf
   go_wp2
   exact bodyPost_ret (v:=.tuple #[.agg #[.slice none 0 0,.slice none 0 0],.int .i64 1]) (by simp [results,Tryz.results55,go_sem,y0,y1]) rfl ⟨_,rfl,TRes.none _ _,BF⟩
 ·rw [decide_eq_false hp] at cA
  rw [if_neg (fun h=>hp h.1),if_neg (fun h=>hp h.1.1),if_neg (fun h=>hp h.1.1)]
  clear h1 h2 h3 hd hd' hp cZ cB
  go_enter Tryz.func55,Tryz.ntmps55
  go_wp2_with fail
  generalize hW0:World.alloc _ _=W0
  have HB0:=hidB (w:=w) hW0 (by go_grown)
  have XA:Hid (Cel W0 w.heap.size (.slice p n c) (.slice p2 n2 c2)):=celW hW0 (by simp [go_sem])
  have XR:Hid (Cel W0 (w.heap.size+1) (.slice none 0 0) (.slice none 0 0)):=celW hW0 (by simp [go_sem])
  clear hW0
  refine (cA W0 HB0.out).mono ?_
  rintro e w1 ⟨rfl,hB1⟩
  have HB1:=hid2 (bstep HB0.out hB1) hB1
  clear hB1
  have xr:=(XR.out.up HB1.out.2)
  have BF:=below_cell (HB1.out.1) (w.heap.size+1) (by omega) (.slice none 0 0) (.slice none 0 0)
  have cf:=xr.set (.slice none 0 0) (.slice none 0 0)
  obtain ⟨r0,r1,r2,r3⟩:=xr
  obtain ⟨y0,y1,_,_⟩:=cf
  go_wp2
  exact bodyPost_ret (v:=.tuple #[.agg #[.slice none 0 0,.slice none 0 0],.int .i64 1]) (by simp [results,Tryz.results55,go_sem,y0,y1]) rfl ⟨_,rfl,TRes.none _ _,BF⟩
end Go.Proofs.YtaiigfhicaelkabGreatDoor.Wd
namespace Go.Proofs.YtaiigfhicaelkabGreatDoor.Wd
open Go.RowKit Fx
/-- Two words that stand for a number. -/
def wd (v:Int):Value:=.agg #[.int .i64 (v / 18446744073709551616),.int .u64 (v % 18446744073709551616)]
def InW (v:Int):Prop:=-170141183460469231731687303715884105728≤v∧v < 170141183460469231731687303715884105728
def wr (v:Int):Int:=(v+170141183460469231731687303715884105728) % 340282366920938463463374607431768211456 - 170141183460469231731687303715884105728
theorem wr_rng (v:Int):InW (wr v):=by unfold InW wr;omega
theorem wr_in {v:Int} (h:InW v):wr v=v:=by unfold InW at h;unfold wr;omega
theorem InR.w {a:Int} (h:InR a):InW a:=by unfold InR at h;unfold InW;omega
theorem wd_mk (h l:Int) (hl:0≤l∧l < 18446744073709551616):Value.agg #[.int .i64 h,.int .u64 l]=wd (h*18446744073709551616+l):=by
 unfold wd
 have e1:(h*18446744073709551616+l) / 18446744073709551616=h:=by omega
 have e2:(h*18446744073709551616+l) % 18446744073709551616=l:=by omega
 rw [e1,e2]
theorem wd_eq {h l v:Int} (e1:h=v / 18446744073709551616) (e2:l=v % 18446744073709551616):Value.agg #[.int .i64 h,.int .u64 l]=wd v:=by
 subst e1 e2;rfl
theorem ret_wd {h l v:Int} (e1:h=v / 18446744073709551616) (e2:l=v % 18446744073709551616):Ending.returned (.agg #[.int .i64 h,.int .u64 l]) = .returned (wd v):=by
 rw [wd_eq e1 e2]
/-- A quotient, rounded: to the nearest, of two that are as near to the even one; on both sides of 0. -/
def rqI (x d:Int):Int:=if d < 2*(x % d)∨(2*(x % d)=d∧x / d % 2=1) then x / d+1 else x / d
theorem rqI_neg (x d:Int) (hd:0 < d):rqI (-x) d = -rqI x d:=by
 obtain ⟨q,eq⟩:∃ q,x / d=q:=⟨_,rfl⟩
 obtain ⟨r,er⟩:∃ r,x % d=r:=⟨_,rfl⟩
 have h0:0≤r:=er ▸ Int.emod_nonneg x (by omega)
 have h1:r < d:=er ▸ Int.emod_lt_of_pos x hd
 have hx:d*q+r=x:=by rw [← eq,← er];exact Int.mul_ediv_add_emod x d
 by_cases hr:r=0
 ·have e:(-x) / d = -q∧(-x) % d=0:=by
   rw [Int.ediv_emod_unique hd]
   refine ⟨?_,by omega,hd⟩
   rw [← hx,hr,Int.mul_neg];omega
  unfold rqI
  rw [e.1,e.2,eq,er,hr]
  split <;> split <;> omega
 ·have e:(-x) / d = -q - 1∧(-x) % d=d - r:=by
   rw [Int.ediv_emod_unique hd]
   refine ⟨?_,by omega,by omega⟩
   rw [← hx,Int.mul_sub,Int.mul_neg];omega
  unfold rqI
  rw [e.1,e.2,eq,er]
  split <;> split <;> omega
theorem rqI_nat (x d:Nat):rqI (x:Int) (d:Int)=((rq x d:Nat):Int):=by
 unfold rqI rq
 have e1:(x:Int) % d=((x % d:Nat):Int):=by omega
 have e2:(x:Int) / d=((x / d:Nat):Int):=by omega
 rw [e1,e2]
 split <;> split <;> omega
theorem rqI_sg (s:Bool) (x d:Nat) (hd:0 < d):rqI (sg s x) d=sg s (rq x d):=by
 cases s
 ·exact rqI_nat x d
 ·show rqI (-(x:Int)) d = -((rq x d:Nat):Int)
  rw [rqI_neg _ _ (by omega),rqI_nat]
theorem dd (x:Int) {p q:Int} (hp:0 < p):x / p / q=x / (p*q):=by
 rw [Int.ediv_ediv,if_neg (fun c=>by omega),Int.sub_zero]
theorem emod_two (x p:Int) (hp:0 < p):x % (p*2)=x % p+p*(x / p % 2):=by
 have h1:=Int.mul_ediv_add_emod x p
 have h2:=Int.mul_ediv_add_emod x (p*2)
 have h3:=Int.mul_ediv_add_emod (x / p) 2
 rw [dd x hp] at h3
 rw [Int.mul_assoc] at h2
 have:p*(x / p)=p*(2*(x / (p*2)))+p*(x / p % 2):=by rw [← Int.mul_add,h3]
 omega
/-- Rounding towards the lower one, then the half's bit, then what is below. -/
theorem rq_down (x:Int) (k:Nat) (hb:x / 2 ^ k % 2=0):rqI x (2 ^ (k+1))=x / 2 ^ (k+1):=by
 obtain ⟨p,ep⟩:∃ p:Int,(2:Int) ^ k=p:=⟨_,rfl⟩
 have hp:0 < p:=ep ▸ Int.pow_pos (by decide)
 have e1:(2:Int) ^ (k+1)=p*2:=by rw [Int.pow_succ,ep]
 rw [ep] at hb
 have e2:x % (p*2)=x % p+p*(x / p % 2):=emod_two x p hp
 unfold rqI
 rw [e1,e2,hb]
 have:=Int.emod_lt_of_pos x hp
 have:=Int.emod_nonneg x (show p≠0 by omega)
 rw [if_neg]
 omega
theorem rq_up (x:Int) (k:Nat) (hb:x / 2 ^ k % 2=1):rqI x (2 ^ (k+1))=x / 2 ^ (k+1)+(if x / 2 ^ (k+1) % 2=1∨x % 2 ^ k≠0 then 1 else 0):=by
 obtain ⟨p,ep⟩:∃ p:Int,(2:Int) ^ k=p:=⟨_,rfl⟩
 have hp:0 < p:=ep ▸ Int.pow_pos (by decide)
 have e1:(2:Int) ^ (k+1)=p*2:=by rw [Int.pow_succ,ep]
 rw [ep] at hb ⊢
 have e2:x % (p*2)=x % p+p*(x / p % 2):=emod_two x p hp
 unfold rqI
 rw [e1,e2,hb]
 have:=Int.emod_lt_of_pos x hp
 have:=Int.emod_nonneg x (show p≠0 by omega)
 split <;> split <;> omega
/-- The lower one, in its words. -/
theorem fl_hi (a:Int) (n:Nat):a / 2 ^ n / 18446744073709551616=a / 18446744073709551616 / 2 ^ n:=by
 rw [dd a (Int.pow_pos (by decide)),dd a (by decide),Int.mul_comm]
theorem fl_far (a:Int) (n:Nat) (h:64≤n):a / 2 ^ n=a / 18446744073709551616 / 2 ^ (n - 64):=by
 rw [dd a (by decide),show (18446744073709551616:Int)=2 ^ 64 by decide,← Int.pow_add,show 64+(n - 64)=n by omega]
theorem or_nat (x y:Nat) (hx:x < 18446744073709551616) (hy:y < 18446744073709551616):bits .or .u64 (x:Int) (y:Int)=((x ||| y:Nat):Int):=by
 show IntKind.u64.wrap ((BitVec.ofInt 64 (x:Int) ||| BitVec.ofInt 64 (y:Int)).toNat:Int)=_
 have h1:(BitVec.ofInt 64 (x:Int)).toNat=x:=by
  rw [BitVec.ofInt_natCast,BitVec.toNat_ofNat];exact Nat.mod_eq_of_lt (by omega)
 have h2:(BitVec.ofInt 64 (y:Int)).toNat=y:=by
  rw [BitVec.ofInt_natCast,BitVec.toNat_ofNat];exact Nat.mod_eq_of_lt (by omega)
 have h3:x ||| y < 2 ^ 64:=Nat.or_lt_two_pow (by omega) (by omega)
 rw [BitVec.toNat_or,h1,h2,IntKind.wrap_u64]
 omega
theorem or_split (x y:Int) (i:Nat) (hi:i≤64) (hx:0≤x) (hx':x*2 ^ i < 18446744073709551616) (hy:0≤y) (hy':y < 2 ^ i):bits .or .u64 (x*2 ^ i) y=x*2 ^ i+y:=by
 obtain ⟨m,rfl⟩:=Int.eq_ofNat_of_zero_le hx
 obtain ⟨l,rfl⟩:=Int.eq_ofNat_of_zero_le hy
 have e:((m:Int)*2 ^ i)=((m*2 ^ i:Nat):Int):=by rw [Int.natCast_mul,Int.natCast_pow];rfl
 have hl:l < 2 ^ i:=by
  have:((l:Nat):Int) < ((2 ^ i:Nat):Int):=by rw [Int.natCast_pow];exact hy'
  omega
 have h64:2 ^ i≤2 ^ 64:=Nat.pow_le_pow_right (by decide) hi
 rw [e] at hx' ⊢
 rw [or_nat _ _ (by omega) (by omega),← Nat.shiftLeft_eq,← Nat.shiftLeft_add_eq_or_of_lt hl]
 omega
theorem fl_lo (h l:Int) (n:Nat) (hn:n < 64) (hl:0≤l∧l < 18446744073709551616):
  bits .or .u64 (h*2 ^ (64 - n) % 18446744073709551616) (l / 2 ^ n)=(h*18446744073709551616+l) / 2 ^ n % 18446744073709551616:=by
 obtain ⟨p,ep⟩:∃ p:Int,(2:Int) ^ n=p:=⟨_,rfl⟩
 obtain ⟨c,ec⟩:∃ c:Int,(2:Int) ^ (64 - n)=c:=⟨_,rfl⟩
 have hp:0 < p:=ep ▸ Int.pow_pos (by decide)
 have hc:0 < c:=ec ▸ Int.pow_pos (by decide)
 have hpc:c*p=18446744073709551616:=by rw [← ep,← ec,← Int.pow_add,show 64 - n+n=64 by omega];rfl
 have e0:h*2 ^ (64 - n) % 18446744073709551616=(h % p)*2 ^ (64 - n):=by
  rw [ec,← hpc,Int.mul_comm c p,Int.mul_comm h c,Int.mul_comm p c,Int.mul_emod_mul_of_pos _ _ hc,Int.mul_comm]
 have r0:=Int.emod_nonneg h (show p≠0 by omega)
 have r1:=Int.emod_lt_of_pos h hp
 have q0:0≤l / p:=Int.ediv_nonneg hl.1 (by omega)
 have q1:l / p < c:=Int.ediv_lt_of_lt_mul hp (by rw [hpc];exact hl.2)
 have m1:(h % p)*c < 18446744073709551616:=by
  have:(h % p+1)*c≤p*c:=Int.mul_le_mul_of_nonneg_right (by omega) (by omega)
  rw [Int.mul_comm p c,hpc,Int.add_mul] at this
  omega
 rw [e0,or_split _ _ _ (by omega) r0 (by rw [ec];exact m1) (by rw [ep];exact q0) (by rw [ec,ep];exact q1),ec,ep]
 have e1:(h*18446744073709551616+l) / p=h*c+l / p:=by
  rw [← hpc,← Int.mul_assoc,Int.add_comm,Int.add_mul_ediv_right _ _ (by omega),Int.add_comm]
 have e2:h*c=(h / p)*18446744073709551616+(h % p)*c:=by
  have:=Int.mul_ediv_add_emod h p
  conv=>lhs;rw [← this]
  rw [← hpc,Int.add_mul,Int.mul_comm p (h / p),Int.mul_assoc,Int.mul_comm p c]
 rw [e1,e2]
 have m2:0≤(h % p)*c:=Int.mul_nonneg r0 (by omega)
 have m3:(h % p)*c+l / p < 18446744073709551616:=by
  have:(h % p+1)*c≤p*c:=Int.mul_le_mul_of_nonneg_right (by omega) (by omega)
  rw [Int.mul_comm p c,hpc,Int.add_mul] at this
  omega
 omega
/-- How many of the lowest bits are 0. -/
theorem ctz_lt (x k:Nat) (hx:0 < x) (h:x < 18446744073709551616):Lib.ctz 64 x < k↔x % 2 ^ k≠0:=by
 obtain ⟨m,e,h2⟩:=Lib.ctzFrom_spec 64 x hx (by omega)
 have ec:Lib.ctz 64 x=Lib.ctzFrom 64 x:=by unfold Lib.ctz;rw [if_neg (by omega)]
 rw [ec]
 obtain ⟨z,ez⟩:∃ z,Lib.ctzFrom 64 x=z:=⟨_,rfl⟩
 rw [ez] at e ⊢
 constructor
 ·intro hk h0
  obtain ⟨q,hq⟩:=Nat.dvd_of_mod_eq_zero h0
  have:2 ^ k=2 ^ z*(2*2 ^ (k - z - 1)):=by
   rw [← Nat.pow_succ',← Nat.pow_add];congr 1;omega
  rw [this,Nat.mul_assoc] at hq
  rw [hq] at e
  have:=Nat.eq_of_mul_eq_mul_left (Nat.two_pow_pos z) e
  rw [Nat.mul_assoc] at this
  omega
 ·intro h0
  apply Classical.byContradiction
  intro hk
  apply h0
  rw [e,show z=k+(z - k) by omega,Nat.pow_add,Nat.mul_assoc]
  exact Nat.mul_mod_right ..
theorem bcell {B:Nat} {W w1:World} (hb:Below B W w1):(∀ b o,b < B→w1.cell? ⟨b,o,none⟩=W.cell? ⟨b,o,none⟩)∧(∀ b o,b < B→w1.frozen? ⟨b,o,none⟩=W.frozen? ⟨b,o,none⟩):=
 ⟨fun b o h=>hb.cell (p:=⟨b,o,none⟩) h,fun b o h=>hb.frozen (p:=⟨b,o,none⟩) h⟩
theorem wset_same {W:World} {p:Addr} {x v:Value} (h:W.cell? p=some v):(W.setCell p x).cell? p=some x:=World.cell?_setCell_same _ _ _ h
theorem wset_off {W:World} {b i j:Nat} {x:Value} (hij:j≠i):(W.setCell ⟨b,i,none⟩ x).cell? ⟨b,j,none⟩=W.cell? ⟨b,j,none⟩:=World.cell?_setCell_other _ _ _ _ (by simp;try omega)
theorem two (W:World) (b:Nat) (x0 x1:Value) {y0 y1:Value} (h0:W.cell? ⟨b,0,none⟩=some y0) (h1:W.cell? ⟨b,1,none⟩=some y1):
  ((W.setCell ⟨b,0,none⟩ x0).setCell ⟨b,1,none⟩ x1).cell? ⟨b,0,none⟩=some x0∧((W.setCell ⟨b,0,none⟩ x0).setCell ⟨b,1,none⟩ x1).cell? ⟨b,1,none⟩=some x1:=by
 refine ⟨?_,?_⟩
 ·rw [wset_off (by omega)];exact wset_same h0
 ·exact wset_same (by rw [wset_off (by omega)];exact h1)
theorem ret_int {k:IntKind} {a b:Int} (h:a=b):Ending.returned (.int k a) = .returned (.int k b):=by rw [h]
/-- The two words of a number. -/
theorem words {v:Int} (hv:InW v):∃ h l:Int,wd v = .agg #[.int .i64 h,.int .u64 l]∧-9223372036854775808≤h∧h≤9223372036854775807∧0≤l∧l≤18446744073709551615∧Hid (v=h*18446744073709551616+l):=by
 refine ⟨_,_,rfl,?_⟩
 unfold InW at hv
 refine ⟨by omega,by omega,by omega,by omega,show _=_ by omega⟩
theorem of_any (n:Int) (hn:InR n) (w:World):
  Calls Tryz.prog 132 #[.int .i64 n] w fun e w'=>e = .returned (wd n)∧Below w.heap.size w w':=by
 obtain ⟨h,l,e,h1,h2,l1,l2,H⟩:=words (InR.w hn)
 rw [e]
 unfold InR at hn
 go_enter Tryz.func132,Tryz.ntmps132
 go_wp2
 refine bodyPost_ret (v:=.agg #[.int .i64 h,.int .u64 l]) ?_ rfl ⟨rfl,by go_grown⟩
 have:=H.out
 simp [results,Tryz.results132,go_sem]
 try simp only [IntKind.wrap_u64,wrap64]
 constructor <;> omega
theorem add64 (x y:Int) (hx:0≤x) (hy:0≤y) (w:World):(callFunc 171 #[.int .u64 x,.int .u64 y,.int .u64 0]).run Tryz.prog w =
  .ok (.value (.tuple #[.int .u64 ((x+y) % 18446744073709551616),.int .u64 ((x+y) / 18446744073709551616)])) w:=by
 obtain ⟨x,rfl⟩:=Int.eq_ofNat_of_zero_le hx
 obtain ⟨y,rfl⟩:=Int.eq_ofNat_of_zero_le hy
 rw [run_callFunc_extern Tryz.func171 (by kernel_rfl) (by kernel_rfl) (by kernel_rfl) (e:=add64Entry) (by kernel_rfl)]
 refine (congrArg (fun r=>Result.andThen r _) (run_add64 (x:Int) (y:Int) 0 (by omega) (by omega) (by omega) (by omega) w)).trans ?_
 simp only [Result.andThen]
 congr 5 <;> omega
theorem sub64 (x y:Int) (hx:0≤x) (hy:0≤y) (hy':y≤18446744073709551615) (w:World):(callFunc 196 #[.int .u64 x,.int .u64 y,.int .u64 0]).run Tryz.prog w =
  .ok (.value (.tuple #[.int .u64 ((x+18446744073709551616 - y) % 18446744073709551616),.int .u64 (if x < y then 1 else 0)])) w:=by
 obtain ⟨x,rfl⟩:=Int.eq_ofNat_of_zero_le hx
 obtain ⟨y,rfl⟩:=Int.eq_ofNat_of_zero_le hy
 rw [run_callFunc_extern Tryz.func196 (by kernel_rfl) (by kernel_rfl) (by kernel_rfl) (e:=sub64Entry) (by kernel_rfl)]
 refine (congrArg (fun r=>Result.andThen r _) (run_sub64 x y 0 (by omega) w)).trans ?_
 simp only [Result.andThen]
 congr 5
 ·have:((x+18446744073709551616 - y - 0:Nat):Int)=(x:Int)+18446744073709551616 - y:=by omega
  rw [← this];rfl
 ·by_cases h:x < y
  ·rw [if_pos (by omega),if_pos (by omega)];rfl
  ·rw [if_neg (by omega),if_neg (by omega)];rfl
theorem add_any (a b:Int) (ha:InW a) (hb:InW b) (w:World):
  Calls Tryz.prog 134 #[wd a,wd b] w fun e w'=>e = .returned (wd (wr (a+b)))∧Below w.heap.size w w':=by
 obtain ⟨ah,al,ea,a1,a2,a3,a4,Ha⟩:=words ha
 obtain ⟨bh,bl,eb,b1,b2,b3,b4,Hb⟩:=words hb
 obtain ⟨h,l,e,h1,h2,l1,l2,H⟩:=words (wr_rng (a+b))
 rw [ea,eb,e]
 go_enter Tryz.func134,Tryz.ntmps134
 go_wp2_with (simp only [add64 al bl a3 b3])
 refine bodyPost_ret (v:=.agg #[.int .i64 h,.int .u64 l]) ?_ rfl ⟨rfl,by go_grown⟩
 have:=Ha.out
 have:=Hb.out
 have:=H.out
 simp [results,Tryz.results134,go_sem]
 try simp only [IntKind.wrap_u64,wrap64]
 unfold wr at *
 constructor <;> omega
theorem sub_any (a b:Int) (ha:InW a) (hb:InW b) (w:World):
  Calls Tryz.prog 191 #[wd a,wd b] w fun e w'=>e = .returned (wd (wr (a - b)))∧Below w.heap.size w w':=by
 obtain ⟨ah,al,ea,a1,a2,a3,a4,Ha⟩:=words ha
 obtain ⟨bh,bl,eb,b1,b2,b3,b4,Hb⟩:=words hb
 obtain ⟨h,l,e,h1,h2,l1,l2,H⟩:=words (wr_rng (a - b))
 rw [ea,eb,e]
 have hs:=sub64 al bl a3 b3 b4
 obtain ⟨bo,eo⟩:∃ bo:Int,(if al < bl then 1 else 0)=bo:=⟨_,rfl⟩
 rw [eo] at hs
 have hbo:(al < bl∧bo=1)∨(bl≤al∧bo=0):=by rw [← eo];split <;> omega
 have Hbo:Hid ((al < bl∧bo=1)∨(bl≤al∧bo=0)):=hbo
 have hb1:0≤bo∧bo≤1:=by omega
 clear hbo eo
 go_enter Tryz.func191,Tryz.ntmps191
 go_wp2_with (simp only [hs])
 refine bodyPost_ret (v:=.agg #[.int .i64 h,.int .u64 l]) ?_ rfl ⟨rfl,by go_grown⟩
 have:=Ha.out
 have:=Hb.out
 have:=H.out
 have:=Hbo.out
 simp [results,Tryz.results191,go_sem]
 try simp only [IntKind.wrap_u64,wrap64]
 unfold wr at *
 constructor <;> omega
theorem neg_any (a:Int) (ha:InW a) (w:World):
  Calls Tryz.prog 173 #[wd a] w fun e w'=>e = .returned (wd (wr (-a)))∧Below w.heap.size w w':=by
 obtain ⟨ah,al,ea,a1,a2,a3,a4,Ha⟩:=words ha
 obtain ⟨h,l,e,h1,h2,l1,l2,H⟩:=words (wr_rng (-a))
 have hs:∀ W:World,Calls Tryz.prog 191 #[.agg #[.int .i64 0,.int .u64 0],.agg #[.int .i64 ah,.int .u64 al]] W fun e w'=>e = .returned (.agg #[.int .i64 h,.int .u64 l])∧Below W.heap.size W w':=by
  intro W
  have:=sub_any 0 a (by unfold InW;omega) ha W
  rw [Int.zero_sub,e,ea] at this
  exact this
 rw [ea,e]
 clear ea e
 go_enter Tryz.func173,Tryz.ntmps173
 go_wp2_with fail
 refine (hs _).mono ?_
 rintro e' w1 ⟨rfl,hb⟩
 obtain ⟨hcell,hfroz⟩:=bcell hb
 have hB:Below w.heap.size w w1:=Below.trans (by go_grown) (hb.mono (by simp;try omega))
 have hsz:=hb.size
 simp at hsz
 go_wp2
 obtain ⟨f0,f1⟩:=two w1 (w.heap.size+1) (.int .i64 h) (.int .u64 l) (by rw [hcell _ _ (by simp)];simp [go_sem];rfl) (by rw [hcell _ _ (by simp)];simp [go_sem];rfl)
 refine bodyPost_ret (v:=.agg #[.int .i64 h,.int .u64 l]) (by simp [results,Tryz.results173,go_sem,f0,f1]) rfl ⟨rfl,by go_grown⟩
theorem bound_any (b:Bool) (w:World):
  Calls Tryz.prog 133 #[.bool b] w fun e w'=>e = .returned (.int .i64 (lim b))∧w'=w:=by
 cases b
 all_goals
  go_enter Tryz.func133,Tryz.ntmps133
  go_wp2
  go_ret
  exact ⟨rfl,rfl⟩
theorem wsize_any (a n:Int) (ha:InR a) (hn:(a.natAbs:Int)=n) (w:World):
  Calls Tryz.prog 137 #[.int .i64 a] w fun e w'=>e = .returned (.int .u64 n)∧w'=w:=by
 unfold InR at ha
 have H:Hid ((a.natAbs:Int)=n):=hn
 clear hn
 by_cases h:a < 0
 all_goals
  go_enter Tryz.func137,Tryz.ntmps137
  go_wp2
  go_ret
  refine ⟨ret_int ?_,rfl⟩
  have hn:=H.out
  try simp only [IntKind.wrap_u64]
  omega
theorem signed_any (b:Bool) (a:Int) (ha:InW a) (w:World):
  Calls Tryz.prog 136 #[.bool b,wd a] w fun e w'=>e = .returned (wd (if b then wr (-a) else a))∧Below w.heap.size w w':=by
 obtain ⟨ah,al,ea,a1,a2,a3,a4,Ha⟩:=words ha
 cases b
 ·simp only [Bool.false_eq_true,if_false]
  rw [ea]
  clear ea
  go_enter Tryz.func136,Tryz.ntmps136
  go_wp2
  exact bodyPost_ret (v:=.agg #[.int .i64 ah,.int .u64 al]) (by simp [results,Tryz.results136,go_sem]) rfl ⟨rfl,by go_grown⟩
 ·simp only [if_true]
  obtain ⟨h,l,e,h1,h2,l1,l2,H⟩:=words (wr_rng (-a))
  have hs:∀ W:World,Calls Tryz.prog 173 #[.agg #[.int .i64 ah,.int .u64 al]] W fun e w'=>e = .returned (.agg #[.int .i64 h,.int .u64 l])∧Below W.heap.size W w':=by
   intro W
   have:=neg_any a ha W
   rw [e,ea] at this
   exact this
  rw [ea,e]
  clear ea e
  go_enter Tryz.func136,Tryz.ntmps136
  go_wp2_with fail
  refine (hs _).mono ?_
  rintro e' w1 ⟨rfl,hb⟩
  obtain ⟨hcell,hfroz⟩:=bcell hb
  have hB:Below w.heap.size w w1:=Below.trans (by go_grown) (hb.mono (by simp;try omega))
  have hsz:=hb.size
  simp at hsz
  go_wp2
  obtain ⟨f0,f1⟩:=two w1 (w.heap.size+1) (.int .i64 h) (.int .u64 l) (by rw [hcell _ _ (by simp)];simp [go_sem];rfl) (by rw [hcell _ _ (by simp)];simp [go_sem];rfl)
  refine bodyPost_ret (v:=.agg #[.int .i64 h,.int .u64 l]) (by simp [results,Tryz.results136,go_sem,f0,f1]) rfl ⟨rfl,by go_grown⟩
theorem prod_sign (a b:Int):a*b=sg (Fx.differ a b) (a.natAbs*b.natAbs):=by
 unfold sg Fx.differ
 rw [← Int.natAbs_mul]
 have hab:0≤a→0≤b→0≤a*b:=Int.mul_nonneg
 have h2:a < 0→b < 0→0≤a*b:=fun h h'=>Int.mul_nonneg_of_nonpos_of_nonpos (by omega) (by omega)
 have h3:a < 0→0≤b→a*b≤0:=fun h h'=>Int.mul_nonpos_of_nonpos_of_nonneg (by omega) h'
 have h4:0≤a→b < 0→a*b≤0:=fun h h'=>Int.mul_nonpos_of_nonneg_of_nonpos h (by omega)
 by_cases c1:a < 0 <;> by_cases c2:b < 0 <;> simp [c1,c2] <;> omega
theorem prod_size (a b:Int) (ha:InR a) (hb:InR b):a.natAbs*b.natAbs≤85070591730234615865843651857942052864:=by
 unfold InR at *
 calc a.natAbs*b.natAbs≤9223372036854775808*9223372036854775808:=Nat.mul_le_mul (by omega) (by omega)
  _=_:=by decide
theorem prod_any (a b:Int) (ha:InR a) (hb:InR b) (w:World):
  Calls Tryz.prog 150 #[.int .i64 a,.int .i64 b] w fun e w'=>e = .returned (wd (a*b))∧Below w.heap.size w w':=by
 have hp:=prod_size a b ha hb
 have hsg:=prod_sign a b
 obtain ⟨m,em⟩:∃ m,a.natAbs*b.natAbs=m:=⟨_,rfl⟩
 rw [em] at hp hsg
 obtain ⟨x,hi,lo,hx,h1,l1⟩:∃ x hi lo:Int,x=(m:Int)∧hi=x / 18446744073709551616∧lo=x % 18446744073709551616:=⟨_,_,_,rfl,rfl,rfl⟩
 have hw:InW x:=by unfold InW;omega
 have e0:Value.agg #[.int .i64 hi,.int .u64 lo]=wd x:=by rw [h1,l1];rfl
 have hwp:InW (a*b):=by rw [hsg];unfold InW sg;split <;> omega
 obtain ⟨h,l,e,g1,g2,g3,g4,H⟩:=words hwp
 have hm:∀ W:World,Calls Tryz.prog 124 #[.int .u64 (a.natAbs:Int),.int .u64 (b.natAbs:Int)] W fun e w'=>e = .returned (.tuple #[.int .u64 hi,.int .u64 lo])∧w'=W:=by
  intro W
  have:=Tryz.bits_Mul64 a.natAbs b.natAbs (by unfold InR at ha;omega) (by unfold InR at hb;omega) W
  rw [em] at this
  have q1:((m / 18446744073709551616:Nat):Int)=hi:=by omega
  have q2:((m % 18446744073709551616:Nat):Int)=lo:=by omega
  rw [q1,q2] at this
  exact this
 have hs:∀ W:World,Calls Tryz.prog 136 #[.bool (Fx.differ a b),.agg #[.int .i64 hi,.int .u64 lo]] W fun e w'=>e = .returned (.agg #[.int .i64 h,.int .u64 l])∧Below W.heap.size W w':=by
  intro W
  have:=signed_any (Fx.differ a b) x hw W
  have e2:(if Fx.differ a b then wr (-x) else x)=a*b:=by
   rw [hsg];unfold sg
   split
   ·unfold wr;omega
   ·omega
  rw [e2,e,← e0] at this
  exact this
 have b1:0≤hi∧hi≤4611686018427387904:=by omega
 have b2:0≤lo∧lo≤18446744073709551615:=by omega
 obtain ⟨p,ep⟩:∃ p:Int,(a.natAbs:Int)=p:=⟨_,rfl⟩
 obtain ⟨q,eq⟩:∃ q:Int,(b.natAbs:Int)=q:=⟨_,rfl⟩
 have ca:∀ W:World,Calls Tryz.prog 137 #[.int .i64 a] W fun e w'=>e = .returned (.int .u64 p)∧w'=W:=fun W=>wsize_any a p ha ep W
 have cb:∀ W:World,Calls Tryz.prog 137 #[.int .i64 b] W fun e w'=>e = .returned (.int .u64 q)∧w'=W:=fun W=>wsize_any b q hb eq W
 rw [ep,eq] at hm
 unfold InR at ha hb
 have p1:0≤p∧p≤9223372036854775808:=by omega
 have q1:0≤q∧q≤9223372036854775808:=by omega
 rw [e]
 clear e e0 hwp hw hx h1 l1 hp hsg em H ep eq
 unfold Fx.differ at hs
 go_enter Tryz.func150,Tryz.ntmps150
 go_wp2_with fail
 refine (ca _).mono ?_
 rintro e' w1 ⟨rfl,rfl⟩
 go_wp2_with fail
 refine (cb _).mono ?_
 rintro e' w1 ⟨rfl,rfl⟩
 go_wp2_with fail
 refine (hm _).mono ?_
 rintro e' w1 ⟨rfl,rfl⟩
 go_wp2_with fail
 refine (hs _).mono ?_
 rintro e' w1 ⟨rfl,hb⟩
 obtain ⟨hcell,hfroz⟩:=bcell hb
 have hB:Below w.heap.size w w1:=Below.trans (by go_grown) (hb.mono (by simp;try omega))
 have hsz:=hb.size
 simp at hsz
 go_wp2
 obtain ⟨f0,f1⟩:=two w1 w.heap.size (.int .i64 h) (.int .u64 l) (by rw [hcell _ _ (by simp)];simp [go_sem];rfl) (by rw [hcell _ _ (by simp)];simp [go_sem];rfl)
 refine bodyPost_ret (v:=.agg #[.int .i64 h,.int .u64 l]) (by simp [results,Tryz.results150,go_sem,f0,f1]) rfl ⟨rfl,by go_grown⟩
theorem wrapi_in (x:Int):InR (IntKind.i64.wrap x):=by unfold InR;rw [IntKind.wrap_i64];omega
theorem of_at (al:Int) (ha:0≤al∧al≤18446744073709551615) (W:World):Calls Tryz.prog 132 #[.int .i64 (IntKind.i64.wrap al)] W fun e w'=>e = .returned (.agg #[.int .i64 (if al < 9223372036854775808 then 0 else -1),.int .u64 al])∧Below W.heap.size W w':=by
 have:=of_any (IntKind.i64.wrap al) (wrapi_in al) W
 have e:wd (IntKind.i64.wrap al) = .agg #[.int .i64 (if al < 9223372036854775808 then 0 else -1),.int .u64 al]:=by
  refine (wd_eq ?_ ?_).symm
  ·rw [IntKind.wrap_i64];split <;> omega
  ·rw [IntKind.wrap_i64];omega
 rw [e] at this
 exact this
theorem fix_any (a:Int) (ha:InW a) (w:World):
  Calls Tryz.prog 93 #[wd a] w fun e w'=>e = .returned (.int .i64 (hold a))∧Below w.heap.size w w':=by
 obtain ⟨ah,al,ea,a1,a2,a3,a4,Ha⟩:=words ha
 have hs:=of_at al ⟨a3,a4⟩
 obtain ⟨oh,eo⟩:∃ oh:Int,(if al < 9223372036854775808 then 0 else -1)=oh:=⟨_,rfl⟩
 rw [eo] at hs
 have Ho:Hid ((if al < 9223372036854775808 then 0 else -1)=oh):=eo
 have ob:-1≤oh∧oh≤0:=by rw [← eo];split <;> omega
 rw [ea]
 clear ea eo
 by_cases h:oh=ah
 ·subst h
  go_enter Tryz.func93,Tryz.ntmps93
  go_wp2_with fail
  go_region_with (go_at_call 132;refine (hs _).mono ?_;rintro e' w1 ⟨rfl,hb⟩;obtain ⟨hcell,hfroz⟩:=bcell hb;have hB:Below w.heap.size w w1:=Below.trans (by go_grown) (hb.mono (by simp;try omega));have hsz:=hb.size;simp at hsz)
  all_goals
   go_wp2
   go_ret
   refine ⟨ret_int ?_,by go_grown⟩
   have h1:=Ha.out
   have h2:=Ho.out
   try simp only [IntKind.wrap_i64,wrap64]
   unfold hold
   split at h2 <;> split <;> (try split) <;> omega
 ·have hne:(oh==ah)=false:=by simpa using h
  go_enter Tryz.func93,Tryz.ntmps93
  go_wp2_with fail
  go_region_with (go_at_call 132;refine (hs _).mono ?_;rintro e' w1 ⟨rfl,hb⟩;obtain ⟨hcell,hfroz⟩:=bcell hb;have hB:Below w.heap.size w w1:=Below.trans (by go_grown) (hb.mono (by simp;try omega));have hsz:=hb.size;simp at hsz)
  all_goals
   go_wp2_with (go_at_call 133;refine (bound_any _ _).mono ?_;rintro e' w2 ⟨rfl,rfl⟩)
   go_ret
   refine ⟨ret_int ?_,by go_grown⟩
   have h1:=Ha.out
   have h2:=Ho.out
   unfold InW at ha
   unfold lim hold
   simp only [decide_eq_true_eq]
   split at h2 <;> split <;> split <;> (try split) <;> omega
end Go.Proofs.YtaiigfhicaelkabGreatDoor.Wd
