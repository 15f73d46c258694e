/- Tensors: what the reference's Scale and Reshape hand back. · The reference's Leaf: the node that it adds, or why it adds none. -/
import Derived.Test.YtlhpmjcdkpfjdaaGreatDoorY10
import Derived.Test.YtlhpmjcdkpfjdaaGreatDoorY04
import Derived.Test.YtlhpmjcdkpfjdaaGreatDoorY20
import Derived.ArgAppend
import Derived.Test.YtlhpmjcdkpfjdaaGreatDoorY14
set_option linter.unusedVariables false
set_option linter.unusedSimpArgs false
set_option maxHeartbeats 16000000
set_option maxRecDepth 16000
namespace Go.Proofs.YtlhpmjcdkpfjdaaGreatDoor.Wd
open Go.RowKit
theorem rscale_any (p p2:Option Addr) (n c n2 c2:Nat) (d x:List Int) (hd:RI d) (hx:RI x) (K:Int) (hK:Fx.InR K) (w:World) (h1:Nums .i64 w (.slice p n c) d) (h2:Nums .i64 w (.slice p2 n2 c2) x):
  Calls Tryz.prog 89 #[.agg #[.slice p n c,.slice p2 n2 c2],.int .i64 K] w fun e w'=>∃ v',e = .returned (.tuple #[v',.int .i64 (scaleE d x)])∧TRes w' w.heap.size v' (scaleD d x) (scaleV d x K)∧Below w.heap.size w w':=by
 have cA:=fun W (hW:Below w.heap.size w W)=>ris_any _ _ d x hd W (h1.up hW) (h2.up hW)
 by_cases hp:isP d x
 ·rw [decide_eq_true hp] at cA
  unfold scaleE scaleD scaleV
  rw [if_pos hp,if_pos hp,if_pos hp]
  have cN:=fun W (hW:Below w.heap.size w W)=>rnew_any _ d hd hp.1 0 W (h1.up hW)
  obtain ⟨V,eV⟩:∃ V,(x.map fun y=>Fx.mulI y K)=V:=⟨_,rfl⟩
  rw [eV]
  obtain ⟨_,_,_,e4,HX⟩:=h2.lst
  cases e4
  have hlen:x.length≤4096:=by rw [hp.2];exact hp.1.2.2
  have hpos:1≤x.length:=by rw [hp.2];exact hp.1.pos
  rw [← hp.2] at cN
  rw [HX.out.1] at hlen hpos cN
  have hlen':(n2:Int)≤4096:=by omega
  have HV:Hid ((x.map fun y=>Fx.mulI y K)=V∧V.length=n2∧RI x∧Fx.InR K∧x.length=n2):=⟨eV,by rw [← eV,List.length_map];exact HX.out.1,hx,hK,HX.out.1⟩
  clear eV h1 h2 hd hx hp hK
  go_enter Tryz.func89,Tryz.ntmps89
  go_wp2_with fail
  generalize hW0:World.alloc _ _=W0
  have HB0:=hidB (w:=w) hW0 (by go_grown)
  have XA:Hid (Cel W0 w.heap.size (.slice p n c) (.slice p2 n2 c2)):=celW hW0 (by simp [go_sem])
  have XR:Hid (Cel W0 (w.heap.size+1) (.slice none 0 0) (.slice none 0 0)):=celW hW0 (by simp [go_sem])
  clear hW0
  refine (cA W0 HB0.out).mono ?_
  rintro e w1 ⟨rfl,hB1⟩
  have HB1:=hid2 (bstep HB0.out hB1) hB1
  clear hB1
  clear cA
  obtain ⟨a0,a1,_,_⟩:=XA.out.up HB1.out.2
  go_wp2_with fail
  refine (cN w1 HB1.out.1).mono ?_
  rintro e w4 ⟨v4,rfl,⟨s4,g,cg,rfl,hs4,ht4,hOff,hgB⟩,hB4⟩
  obtain ⟨p4,n4,c4,rfl,_⟩:=hs4.nums.lst
  have HOff:Hid (Off g (.slice p4 n4 c4)):=hOff
  go_wp2_with fail
  generalize hW5:World.alloc _ _=W5
  obtain ⟨b5,hb5⟩:∃ b5,w4.heap.size=b5:=⟨_,rfl⟩
  have B5:Below w4.heap.size w4 W5:=by rw [← hW5];exact up_alloc w4 _
  have XT:Hid (Cel W5 b5 (.slice p4 n4 c4) (.slice (some ⟨g,0,none⟩) n2 cg)):=by
   show Cel _ _ _ _
   unfold Cel
   rw [← hW5,← hb5]
   simp [go_sem]
  have HB5:Hid (Below w.heap.size w W5∧Below W0.heap.size W0 W5):=⟨bstep HB1.out.1 (bstep hB4 B5),bstep HB1.out.2 (bstep hB4 B5)⟩
  have HD5:Hid (OwnK .i64 3 W5 w1.heap.size (.slice p4 n4 c4) d):=hs4.up B5
  have HX5:Hid (Cel W5 w.heap.size (.slice p n c) (.slice p2 n2 c2)∧Cel W5 (w.heap.size+1) (.slice none 0 0) (.slice none 0 0)):=⟨XA.out.up HB5.out.2,XR.out.up HB5.out.2⟩
  have HO5:Hid (OwnK .i64 33 W5 g (.slice (some ⟨g,0,none⟩) n2 cg) (rowF V 0)):=by
   show OwnK _ _ _ _ _ _
   rw [rowF_zero,HV.out.2.1]
   exact (ht4.up B5).base
  have hz:=cell_lt XR.out.1
  have hgl:=ht4.size
  have Hg:Hid (W0.heap.size≤g∧w.heap.size+1 < W0.heap.size∧g < b5∧w1.heap.size≤g∧W0.heap.size≤w1.heap.size):=⟨Nat.le_trans HB1.out.2.size hgB,hz,by omega,hgB,HB1.out.2.size⟩
  rw [hb5]
  clear hW5 B5 hb5 hz hgl hs4 ht4 hB4 hgB hOff a0 a1 cN
  go_loopg [7] n2 (fun gg i wr=>∃ (k:Nat),k≤n2∧gg=n2 - k∧i = .int .i64 (k:Int)∧Hid (OwnK .i64 33 wr g (.slice (some ⟨g,0,none⟩) n2 cg) (rowF V k))∧Hid (Below w.heap.size w wr∧Stay g W5 wr))
  case atStart=>exact ⟨0,by omega,by omega,by first|rfl|simp,HO5,HB5.out.1,Stay.refl _ _⟩
  case round=>
   obtain ⟨k,hk,hgg,rfl,HRk,hBS⟩:=hrel
   obtain ⟨R1,hR1⟩:∃ R1:World,R1=wr:=⟨_,rfl⟩
   subst hR1
   by_cases hkn:k < n2
   ·have hk':(k:Int) < (n2:Int):=by omega
    have hnb:b5≠g:=by have:=Hg.out;omega
    have hne0:w.heap.size≠g:=by have:=Hg.out;omega
    obtain ⟨t0,t1,_,_⟩:=XT.out.stay hBS.out.2 hnb
    obtain ⟨a0,a1,_,_⟩:=HX5.out.1.stay hBS.out.2 hne0
    obtain ⟨q,o,rfl,hc0⟩:=HX.out.2 k hkn
    have hc1:=cell_low hc0 hBS.out.1
    have rx:=HV.out.2.2.1.in k (by rw [HV.out.2.2.2.2];exact hkn)
    obtain ⟨X,eX⟩:∃ X,x.getD k 0=X:=⟨_,rfl⟩
    rw [eX] at hc1 rx
    obtain ⟨Z,eZ⟩:∃ Z,Fx.mulI X K=Z:=⟨_,rfl⟩
    have HZ:Hid (V.getD k 0=Z):=by
     show _=_
     rw [← HV.out.1,List.getD_eq_getElem?_getD,List.getElem?_map,List.getElem?_eq_getElem (by rw [HV.out.2.2.2.2];exact hkn),← eZ,← eX,getD_lt x k 0 (by rw [HV.out.2.2.2.2];exact hkn)]
     rfl
    have cz:∀ W,Calls Tryz.prog 130 #[.int .i64 X,.int .i64 K] W fun e w'=>e = .returned (.int .i64 Z)∧Below W.heap.size W w':=fun W=>Rf.mul_ref X K rx HV.out.2.2.2.1 Z eZ W
    have z0:=cell_lt a0
    have z1:=cell_lt t0
    have z2:=cell_lt hc1
    have z3:=HRk.out.size
    clear eX eZ hc0 hnb hne0
    go_wp2_with fail
    refine flow 11 34 (by kernel_rfl) rfl rfl (by kernel_rfl) ?_
    apply Exists.intro
    refine ⟨?_,?_⟩
    ·intro F hF
     have hFc:=hF.cell
     have hFf:=hF.frozen
     simp only [List.take_succ_cons,List.take_zero,List.eraseIdx_cons_succ,List.eraseIdx_cons_zero]
     repeat (go_big_quiet_step (exact hF.call (cz _)))
     refine wpQuiet_nil ?_
     exact rfl
    ·intro W1 hb1
     simp only [List.drop_succ_cons,List.drop_zero]
     have HR2:=HRk.out.up hb1
     obtain ⟨hown,hfz⟩:=HR2.cell (by rw [rowF_len];exact HV.out.2.1) k hkn
     have H5:Hid (OwnK .i64 33 (W1.setCell ⟨g,k,none⟩ (.int .i64 Z)) g (.slice (some ⟨g,0,none⟩) n2 cg) (rowF V (k+1))):=by
      have:=HR2.store (by rw [rowF_len];exact HV.out.2.1) k Z
      have e2:=rowF_set V k (by rw [HV.out.2.1];exact hkn)
      rw [HZ.out] at e2
      rw [e2] at this
      exact this
     have hgw:w.heap.size≤g:=by have:=Hg.out;omega
     have H6:Hid (Below w.heap.size w (W1.setCell ⟨g,k,none⟩ (.int .i64 Z))∧Stay g W5 (W1.setCell ⟨g,k,none⟩ (.int .i64 Z))):=⟨(bstep hBS.out.1 hb1).setCell (p:=⟨g,k,none⟩) hgw _,(hBS.out.2.up hb1).set _ _⟩
     clear HR2 hb1 cz z0 z1 z2 z3 a0 a1 t0 t1 hgw
     go_wp2
     go_roundg (n2 - (k+1))
     case measure=>omega
     case rel=>exact ⟨k+1,by omega,rfl,by first|rfl|simp,H5,H6⟩
   ·obtain rfl:k=n2:=by omega
    have hfin:=HRk.out
    rw [← HV.out.2.1,rowF_full,HV.out.2.1] at hfin
    have HXR:Hid (Cel W5 (w.heap.size+1) (.slice none 0 0) (.slice none 0 0)):=HX5.out.2
    have hnb:b5≠g:=by have:=Hg.out;omega
    obtain ⟨t0,t1,_,_⟩:=XT.out.stay hBS.out.2 hnb
    have hne1:w.heap.size+1≠g:=by have:=Hg.out;omega
    have hfd:=HD5.out.stay hBS.out.2 (fun ad n1 c1 e1=>HOff.out ad n1 c1 e1)
    have HF:Hid (TRes (set2 R1 (w.heap.size+1) (.slice p4 n4 c4) (.slice (some ⟨g,0,none⟩) k cg)) w.heap.size (.agg #[.slice p4 n4 c4,.slice (some ⟨g,0,none⟩) k cg]) d V∧Below w.heap.size w (set2 R1 (w.heap.size+1) (.slice p4 n4 c4) (.slice (some ⟨g,0,none⟩) k cg))):=
     ⟨(TRes.set (hfd.low Hg.out.2.2.2.2) (hfin.low Hg.out.1) Hg.out.2.1).low HB0.out.size,below_cell hBS.out.1 _ (by omega) _ _⟩
    have xr:=HXR.out.stay hBS.out.2 hne1
    have cf:=xr.set (.slice p4 n4 c4) (.slice (some ⟨g,0,none⟩) k cg)
    obtain ⟨r0,r1,r2,r3⟩:=xr
    obtain ⟨y0,y1,_,_⟩:=cf
    clear hfin hfd hne1 hnb
    go_wp2
    exact bodyPost_ret (v:=.tuple #[.agg #[.slice p4 n4 c4,.slice (some ⟨g,0,none⟩) k cg],.int .i64 0]) (by simp [results,Tryz.results89,go_sem,y0,y1]) rfl ⟨_,rfl,HF.out⟩
 ·rw [decide_eq_false hp] at cA
  unfold scaleE scaleD scaleV
  rw [if_neg hp,if_neg hp,if_neg hp]
  clear h1 h2 hd hx hp hK
  go_enter Tryz.func89,Tryz.ntmps89
  go_wp2_with fail
  generalize hW0:World.alloc _ _=W0
  have HB0:=hidB (w:=w) hW0 (by go_grown)
  have XA:Hid (Cel W0 w.heap.size (.slice p n c) (.slice p2 n2 c2)):=celW hW0 (by simp [go_sem])
  have XR:Hid (Cel W0 (w.heap.size+1) (.slice none 0 0) (.slice none 0 0)):=celW hW0 (by simp [go_sem])
  clear hW0
  refine (cA W0 HB0.out).mono ?_
  rintro e w1 ⟨rfl,hB1⟩
  have HB1:=hid2 (bstep HB0.out hB1) hB1
  clear hB1
  have xr:=(XR.out.up HB1.out.2)
  have BF:=below_cell (HB1.out.1) (w.heap.size+1) (by omega) (.slice none 0 0) (.slice none 0 0)
  have cf:=xr.set (.slice none 0 0) (.slice none 0 0)
  obtain ⟨r0,r1,r2,r3⟩:=xr
  obtain ⟨y0,y1,_,_⟩:=cf
  go_wp2
  exact bodyPost_ret (v:=.tuple #[.agg #[.slice none 0 0,.slice none 0 0],.int .i64 1]) (by simp [results,Tryz.results89,go_sem,y0,y1]) rfl ⟨_,rfl,TRes.none _ _,BF⟩
/-- An empty slice of the call's own. -/
def Emp (k:IntKind) (e:TypeId) (B:Nat) (v:Value) (W:World):Prop:=∃ g,v = .slice (some ⟨g,0,none⟩) 0 0∧OwnK k e W B v []
theorem app0 {P:Program} {t e:TypeId} {k:IntKind} {b:Nat} (T:NumT P t e k b) (hb8:b≤8) (ty:TypeId) (W:World) (B g:Nat) (h0:OwnK k e W B (.slice (some ⟨g,0,none⟩) 0 0) []) (hB:B≤W.heap.size) (v:Value) (l:List Int) (hv:Nums k W v l) (hl:l.length≤1073741824):
  ∃ v' w',(Builtin.append_ #[t,t] ty #[.slice (some ⟨g,0,none⟩) 0 0,v]).run P W = .ok v' w'∧OwnK k e w' B v' l∧Below W.heap.size W w':=by
 obtain ⟨i0,hi,hz0,hz1,hz2⟩:=info_of T
 rcases hv with ⟨rfl,rfl⟩|⟨ad,c,rfl,hc⟩
 ·exact ⟨_,W,run_append_owned_none W B t ty e i0 1 T.ht hi _ _ _ h0,h0,Below.refl _ _⟩
 ·by_cases h:l = []
  ·subst h
   refine ⟨.slice (some ⟨g,0,none⟩) 0 0,W,?_,h0,Below.refl _ _⟩
   have hf:=run_firstCells_some (P:=P) W i0.size 0 ad 0 c [] (by simp) (fun j u hu=>by simp at hu)
   simp [Builtin.append_,run_underlying T.ht,sizeOf,typeInfo,hi,Builtin.lenOf,hf,storeCells]
  ·have hpos:0 < l.length:=by cases l with|nil=>exact absurd rfl h|cons a l=>simp
   have hm:(0+l.length)*b≤1073741824*8:=Nat.mul_le_mul (by omega) hb8
   obtain ⟨v',w',hr,ho,hgr⟩:=run_append_arg_grows (P:=P) (w:=W) t ty e i0 (.int k 0) 1 b T.ht hi hz0 hz1 hz2 rfl (by decide) ⟨g,0,none⟩ 0 0 [] rfl (fun j u hu=>by simp at hu) ad l.length c (vals k l) (by simp [vals]) hc (by omega) (by unfold maxLen;omega) (by omega)
   refine ⟨v',w',hr,?_,Below.grown (Below.refl _ _) hgr (Nat.le_refl _) (fun j hj=>by cases hj)⟩
   rw [Nat.zero_add,List.nil_append] at ho
   exact OwnK.low (B:=W.heap.size) ho hB
theorem rreshape_any (p p2 p3:Option Addr) (n c n2 c2 n3 c3:Nat) (d x d':List Int) (hd:RI d) (hd':RI d') (w:World) (h1:Nums .i64 w (.slice p n c) d) (h2:Nums .i64 w (.slice p2 n2 c2) x) (h3:Nums .i64 w (.slice p3 n3 c3) d'):
  Calls Tryz.prog 100 #[.agg #[.slice p n c,.slice p2 n2 c2],.slice p3 n3 c3] w fun e w'=>∃ v',e = .returned (.tuple #[v',.int .i64 (shpE d x d')])∧TRes w' w.heap.size v' (shpD d x d') (shpV d x d')∧Below w.heap.size w w':=by
 have cA:=fun W (hW:Below w.heap.size w W)=>ris_any _ _ d x hd W (h1.up hW) (h2.up hW)
 have cB:=fun W (hW:Below w.heap.size w W)=>rgood_any _ d' hd' W (h3.up hW)
 have cZ:=fun W (hW:Below w.heap.size w W)=>rsize_any _ d' hd' W (h3.up hW)
 have HN:Hid (Nums .i64 w (.slice p n c) d∧Nums .i64 w (.slice p2 n2 c2) x∧Nums .i64 w (.slice p3 n3 c3) d'):=⟨h1,h2,h3⟩
 obtain ⟨_,_,_,e4,HX⟩:=h2.lst
 cases e4
 unfold shpE shpD shpV
 by_cases hp:isP d x
 ·rw [decide_eq_true hp] at cA
  by_cases hg:goodN (ntl d')
  ·rw [decide_eq_true hg] at cB
   rw [sizeN_good hg] at cZ
   rw [if_pos ⟨hp,hg⟩]
   have hlen:x.length≤4096:=by rw [hp.2];exact hp.1.2.2
   have HP:Hid (isP d x∧goodN (ntl d')∧x.length≤4096):=⟨hp,hg,hlen⟩
   by_cases hN:prodN (ntl d')=x.length
   ·rw [if_pos hN,if_pos ⟨⟨hp,hg⟩,hN⟩,if_pos ⟨⟨hp,hg⟩,hN⟩]
    rw [hN,HX.out.1] at cZ
    clear hN h1 h2 h3 hd hd' hp hg hlen
    go_enter Tryz.func100,Tryz.ntmps100
    go_wp2_with fail
    generalize hW0:World.alloc _ _=W0
    have HB0:=hidB (w:=w) hW0 (by go_grown)
    have XA:Hid (Cel W0 w.heap.size (.slice p n c) (.slice p2 n2 c2)):=celW hW0 (by simp [go_sem])
    have XR:Hid (Cel W0 (w.heap.size+1) (.slice none 0 0) (.slice none 0 0)):=celW hW0 (by simp [go_sem])
    clear hW0
    refine (cA W0 HB0.out).mono ?_
    rintro e w1 ⟨rfl,hB1⟩
    have HB1:=hid2 (bstep HB0.out hB1) hB1
    clear hB1
    go_wp2_with fail
    refine (cB w1 HB1.out.1).mono ?_
    rintro e w2 ⟨rfl,rfl⟩
    clear cB
    obtain ⟨a0,a1,_,_⟩:=XA.out.up HB1.out.2
    have cz:∀ m,Calls Tryz.prog 87 #[.slice p3 n3 c3] (w2.drewN m) fun e w'=>e = .returned (.int .i64 (n2:Int))∧w'=w2.drewN m:=fun m=>cZ _ (below_drew HB1.out.1 m)
    go_wp2_with fail
    go_quiet (exact Calls.quiet_of_same (cz _))
    generalize hw5:World.drewN w2 nq=w5
    have HB5:Hid (Below w.heap.size w w5∧Below W0.heap.size W0 w5):=by rw [← hw5];exact ⟨below_drew HB1.out.1 nq,below_drew HB1.out.2 nq⟩
    clear a0 a1 hw5
    obtain ⟨a0,a1,_,_⟩:=XA.out.up HB5.out.2
    have HND:Hid (∀ W,Below w5.heap.size w5 W→Nums .i64 W (.slice p3 n3 c3) d'∧d'.length≤1073741824):=fun W hW=>⟨HN.out.2.2.up (bstep HB5.out.1 hW),by have:=HP.out.2.1.1;rw [ntl_len] at this;omega⟩
    have HNX:Hid (∀ W,Below w5.heap.size w5 W→Nums .i64 W (.slice p2 n2 c2) x∧x.length≤1073741824):=fun W hW=>⟨HN.out.2.1.up (bstep HB5.out.1 hW),by have:=HP.out.2.2;omega⟩
    have z0:=cell_lt a0
    haveI:Nonempty World:=⟨w⟩
    clear cz cZ cA
    go_wp2_with fail
    refine rel [⟨0,22,Emp .i64 3 w5.heap.size⟩,⟨2,24,fun v W=>OwnK .i64 3 W w5.heap.size v d'⟩,⟨3,25,Emp .i64 33 w5.heap.size⟩,⟨6,28,fun v W=>OwnK .i64 33 W w5.heap.size v x⟩] 7 30 (by kernel_rfl) rfl rfl (by kernel_rfl) (by rfl) ?_ ?_
    ·intro e he v W W' h hb
     simp only [List.mem_cons,List.not_mem_nil,or_false] at he
     rcases he with rfl|rfl|rfl|rfl
     ·obtain ⟨g,e1,h1⟩:=h
      exact ⟨g,e1,h1.up hb⟩
     ·exact OwnK.up h hb
     ·obtain ⟨g,e1,h1⟩:=h
      exact ⟨g,e1,h1.up hb⟩
     ·exact OwnK.up h hb
    apply Exists.intro
    refine ⟨fun x=>?_,?_,?_⟩
    ·simp only [List.take_succ_cons,List.take_zero]
     refine relTold rfl rfl ?_ ?_
     ·intro F hF hf d_
      have hFc:=hF.cell
      have hFf:=hF.frozen
      simp [yieldsR,yieldsUpon,go_sem]
      exact ⟨⟨(F d_).heap.size,rfl,(own_lit (k:=.i64) (e:=3) (F d_) [] 0 rfl (by decide)).low (hF.below d_).size⟩,up_alloc _ _⟩
     (try simp only [putL])
     refine relQuiet rfl rfl ?_
     apply Exists.intro
     refine ⟨fun F hF hf K hK=>?_,?_⟩
     ·have hFc:=hF.cell
      have hFf:=hF.frozen
      go_big_quiet_op
      exact hK
     (try simp only [putL])
     refine relTold rfl rfl ?_ ?_
     ·intro F hF hf d_
      have hFc:=hF.cell
      have hFf:=hF.frozen
      have h9:=hf _ List.mem_cons_self (by rfl) d_
      obtain ⟨g9,e9,o9⟩:=h9
      simp only [] at e9
      rw [e9] at o9
      obtain ⟨v8,w8,hr,ho,hb⟩:=app0 numT (by decide) 28 (F d_) w5.heap.size g9 o9 (hF.below d_).size _ _ (HND.out (F d_) (hF.below d_)).1 (HND.out (F d_) (hF.below d_)).2
      simp [yieldsR,yieldsUpon,execOp,resolve,invoke,builtin,Act.eval,e9,hr,Result.andThen]
      exact ⟨ho,hb⟩
     (try simp only [putL])
     refine relTold rfl rfl ?_ ?_
     ·intro F hF hf d_
      have hFc:=hF.cell
      have hFf:=hF.frozen
      simp [yieldsR,yieldsUpon,go_sem]
      exact ⟨⟨(F d_).heap.size,rfl,(own_lit (k:=.i64) (e:=33) (F d_) [] 0 rfl (by decide)).low (hF.below d_).size⟩,up_alloc _ _⟩
     iterate 2
      (try simp only [putL])
      refine relQuiet rfl rfl ?_
      apply Exists.intro
      refine ⟨fun F hF hf K hK=>?_,?_⟩
      ·have hFc:=hF.cell
       have hFf:=hF.frozen
       go_big_quiet_op
       exact hK
     (try simp only [putL])
     refine relTold rfl rfl ?_ ?_
     ·intro F hF hf d_
      have hFc:=hF.cell
      have hFf:=hF.frozen
      have h9:=hf _ (List.mem_cons_of_mem _ (List.mem_cons_of_mem _ List.mem_cons_self)) (by rfl) d_
      obtain ⟨g9,e9,o9⟩:=h9
      simp only [] at e9
      rw [e9] at o9
      obtain ⟨v8,w8,hr,ho,hb⟩:=app0 fixT (by decide) 29 (F d_) w5.heap.size g9 o9 (hF.below d_).size _ _ (HNX.out (F d_) (hF.below d_)).1 (HNX.out (F d_) (hF.below d_)).2
      simp [yieldsR,yieldsUpon,execOp,resolve,invoke,builtin,Act.eval,e9,hr,Result.andThen]
      exact ⟨ho,hb⟩
     (try simp only [putL])
     refine relEnd ?_
     exact rfl
    ·exact fun x=>rfl
    ·intro w6 xs hB6 hf
     simp only [List.drop_succ_cons,List.drop_zero]
     have hfa:=hf _ (List.mem_cons_of_mem _ List.mem_cons_self)
     have hfb:=hf _ (List.mem_cons_of_mem _ (List.mem_cons_of_mem _ (List.mem_cons_of_mem _ List.mem_cons_self)))
     obtain ⟨fa,efa⟩:∃ fa,xs 2=fa:=⟨_,rfl⟩
     obtain ⟨fb,efb⟩:∃ fb,xs 6=fb:=⟨_,rfl⟩
     simp only [efa,efb] at hfa hfb ⊢
     clear efa efb hf
     obtain ⟨pa,na,ca,rfl,_⟩:=hfa.nums.lst
     obtain ⟨pb,nb,cb,rfl,_⟩:=hfb.nums.lst
     have HF:Hid (TRes (set2 w6 (w.heap.size+1) (.slice pa na ca) (.slice pb nb cb)) w.heap.size (.agg #[.slice pa na ca,.slice pb nb cb]) d' x∧Below w.heap.size w (set2 w6 (w.heap.size+1) (.slice pa na ca) (.slice pb nb cb))):=by
      exact ⟨(TRes.set hfa hfb (Nat.lt_of_lt_of_le (cell_lt XR.out.1) HB5.out.2.size)).low HB5.out.1.size,below_cell (bstep HB5.out.1 hB6) _ (by omega) _ _⟩
     clear hfa hfb a0 a1 z0
     have xr:=(XR.out.up (bstep HB5.out.2 hB6))
     have cf:=xr.set (.slice pa na ca) (.slice pb nb cb)
     obtain ⟨r0,r1,r2,r3⟩:=xr
     obtain ⟨y0,y1,_,_⟩:=cf
     go_wp2
     exact bodyPost_ret (v:=.tuple #[.agg #[.slice pa na ca,.slice pb nb cb],.int .i64 0]) (by simp [results,Tryz.results100,go_sem,y0,y1]) rfl ⟨_,rfl,HF.out⟩
   ·rw [if_neg hN,if_neg (fun h=>hN h.2),if_neg (fun h=>hN h.2)]
    obtain ⟨N,eN⟩:∃ N,prodN (ntl d')=N:=⟨_,rfl⟩
    rw [eN] at cZ hN
    rw [HX.out.1] at hN
    have hN':((N:Int) != (n2:Int))=true:=by simp;omega
    have hN2:¬ ((N:Int)=(n2:Int)):=by omega
    clear eN h1 h2 h3 hd hd' hp hg hlen hN
    go_enter Tryz.func100,Tryz.ntmps100
    go_wp2_with fail
    generalize hW0:World.alloc _ _=W0
    have HB0:=hidB (w:=w) hW0 (by go_grown)
    have XA:Hid (Cel W0 w.heap.size (.slice p n c) (.slice p2 n2 c2)):=celW hW0 (by simp [go_sem])
    have XR:Hid (Cel W0 (w.heap.size+1) (.slice none 0 0) (.slice none 0 0)):=celW hW0 (by simp [go_sem])
    clear hW0
    refine (cA W0 HB0.out).mono ?_
    rintro e w1 ⟨rfl,hB1⟩
    have HB1:=hid2 (bstep HB0.out hB1) hB1
    clear hB1
    go_wp2_with fail
    refine (cB w1 HB1.out.1).mono ?_
    rintro e w2 ⟨rfl,rfl⟩
    clear cB
    obtain ⟨a0,a1,_,_⟩:=XA.out.up HB1.out.2
    have cz:∀ m,Calls Tryz.prog 87 #[.slice p3 n3 c3] (w2.drewN m) fun e w'=>e = .returned (.int .i64 (N:Int))∧w'=w2.drewN m:=fun m=>cZ _ (below_drew HB1.out.1 m)
    go_wp2_with fail
    go_quiet (exact Calls.quiet_of_same (cz _))
    clear cz a0 a1
    have xr:=(XR.out.up (below_drew HB1.out.2 nq))
    have BF:=below_cell (below_drew HB1.out.1 nq) (w.heap.size+1) (by omega) (.slice none 0 0) (.slice none 0 0)
    have cf:=xr.set (.slice none 0 0) (.slice none 0 0)
    obtain ⟨r0,r1,r2,r3⟩:=xr
    obtain ⟨y0,y1,_,_⟩:=cf
    go_wp2
    exact bodyPost_ret (v:=.tuple #[.agg #[.slice none 0 0,.slice none 0 0],.int .i64 4]) (by simp [results,Tryz.results100,go_sem,y0,y1]) rfl ⟨_,rfl,TRes.none _ _,BF⟩
  ·rw [decide_eq_false hg] at cB
   rw [if_neg (fun h=>hg h.2),if_neg (fun h=>hg h.1.2),if_neg (fun h=>hg h.1.2)]
   clear h1 h2 h3 hd hd' hp hg cZ
   go_enter Tryz.func100,Tryz.ntmps100
   go_wp2_with fail
   generalize hW0:World.alloc _ _=W0
   have HB0:=hidB (w:=w) hW0 (by go_grown)
   have XA:Hid (Cel W0 w.heap.size (.slice p n c) (.slice p2 n2 c2)):=celW hW0 (by simp [go_sem])
   have XR:Hid (Cel W0 (w.heap.size+1) (.slice none 0 0) (.slice none 0 0)):=celW hW0 (by simp [go_sem])
   clear hW0
   refine (cA W0 HB0.out).mono ?_
   rintro e w1 ⟨rfl,hB1⟩
   have HB1:=hid2 (bstep HB0.out hB1) hB1
   clear hB1
   go_wp2_with fail
   refine (cB w1 HB1.out.1).mono ?_
   rintro e w2 ⟨rfl,rfl⟩
   have xr:=(XR.out.up HB1.out.2)
   have BF:=below_cell (HB1.out.1) (w.heap.size+1) (by omega) (.slice none 0 0) (.slice none 0 0)
   have cf:=xr.set (.slice none 0 0) (.slice none 0 0)
   obtain ⟨r0,r1,r2,r3⟩:=xr
   obtain ⟨y0,y1,_,_⟩:=cf
   go_wp2
   exact bodyPost_ret (v:=.tuple #[.agg #[.slice none 0 0,.slice none 0 0],.int .i64 1]) (by simp [results,Tryz.results100,go_sem,y0,y1]) rfl ⟨_,rfl,TRes.none _ _,BF⟩
 ·rw [decide_eq_false hp] at cA
  rw [if_neg (fun h=>hp h.1),if_neg (fun h=>hp h.1.1),if_neg (fun h=>hp h.1.1)]
  clear h1 h2 h3 hd hd' hp cZ cB
  go_enter Tryz.func100,Tryz.ntmps100
  go_wp2_with fail
  generalize hW0:World.alloc _ _=W0
  have HB0:=hidB (w:=w) hW0 (by go_grown)
  have XA:Hid (Cel W0 w.heap.size (.slice p n c) (.slice p2 n2 c2)):=celW hW0 (by simp [go_sem])
  have XR:Hid (Cel W0 (w.heap.size+1) (.slice none 0 0) (.slice none 0 0)):=celW hW0 (by simp [go_sem])
  clear hW0
  refine (cA W0 HB0.out).mono ?_
  rintro e w1 ⟨rfl,hB1⟩
  have HB1:=hid2 (bstep HB0.out hB1) hB1
  clear hB1
  have xr:=(XR.out.up HB1.out.2)
  have BF:=below_cell (HB1.out.1) (w.heap.size+1) (by omega) (.slice none 0 0) (.slice none 0 0)
  have cf:=xr.set (.slice none 0 0) (.slice none 0 0)
  obtain ⟨r0,r1,r2,r3⟩:=xr
  obtain ⟨y0,y1,_,_⟩:=cf
  go_wp2
  exact bodyPost_ret (v:=.tuple #[.agg #[.slice none 0 0,.slice none 0 0],.int .i64 1]) (by simp [results,Tryz.results100,go_sem,y0,y1]) rfl ⟨_,rfl,TRes.none _ _,BF⟩
end Go.Proofs.YtlhpmjcdkpfjdaaGreatDoor.Wd
namespace Go.Proofs.YtlhpmjcdkpfjdaaGreatDoor.Wd
open Go.RowKit Fx
theorem ne_nt:50≠49:=by decide
theorem nodeT:StT Tryz.prog 47 50 80:=⟨Tryz.underlying47,by kernel_rfl⟩
theorem rleaf_full (B tb:Nat) (ns:List Nd) (p p2:Option Addr) (n c n2 c2:Nat) (dd yy:List Int) (hd:RI dd) (w:World) (hT:Tap 49 50 w B tb ns) (h1:Nums .i64 w (.slice p n c) dd) (h2:Nums .i64 w (.slice p2 n2 c2) yy) (hfull:512≤ns.length):
  Calls Tryz.prog 31 #[.pointer (some ⟨tb,0,none⟩),.agg #[.slice p n c,.slice p2 n2 c2]] w fun e w'=>e = .returned (.tuple #[.int .i64 (leafR ns dd yy),.int .i64 (leafE ns dd yy)])∧Tap 49 50 w' B tb (leafN ns dd yy)∧Below B w w'∧Only [49,50] w w':=by
 have hTT:Hid (Tap 49 50 w B tb ns):=hT
 obtain ⟨pL,cL,xs0,hv,ho,hn0,hnc⟩:=hT.head
 obtain ⟨N,eN⟩:∃ N,ns.length=N:=⟨_,rfl⟩
 rw [eN] at hv ho hnc
 have hcell:=(head_cell hv).1
 have hz:=heap_lt hv
 have hl:512≤N:=by rw [← eN];exact hfull
 have hl':(512:Int)≤(N:Int):=by omega
 have e1:leafE ns dd yy=2:=if_pos hfull
 have e2:leafR ns dd yy=0:=if_neg fun h=>by omega
 have e3:leafN ns dd yy=ns:=if_neg fun h=>by omega
 rw [e1,e2,e3]
 have HBB:Hid (B≤w.heap.size):=Nat.le_trans hTT.out.1 (Nat.le_of_lt hz)
 clear hT hv ho hn0 hnc e1 e2 e3 h1 h2 hd hfull eN
 go_enter Tryz.func31,Tryz.ntmps31
 go_wp2
 exact bodyPost_ret (v:=.tuple #[.int .i64 0,.int .i64 2]) (by simp [results,Tryz.results31,go_sem]) rfl ⟨rfl,hTT.out.up (by go_grown),(by go_grown:Below w.heap.size w _).mono HBB.out,Only.of (by go_grown)⟩
theorem rleaf_bad (B tb:Nat) (ns:List Nd) (p p2:Option Addr) (n c n2 c2:Nat) (dd yy:List Int) (hd:RI dd) (w:World) (hT:Tap 49 50 w B tb ns) (h1:Nums .i64 w (.slice p n c) dd) (h2:Nums .i64 w (.slice p2 n2 c2) yy) (hroom:ns.length < 512) (hp:¬ isP dd yy):
  Calls Tryz.prog 31 #[.pointer (some ⟨tb,0,none⟩),.agg #[.slice p n c,.slice p2 n2 c2]] w fun e w'=>e = .returned (.tuple #[.int .i64 (leafR ns dd yy),.int .i64 (leafE ns dd yy)])∧Tap 49 50 w' B tb (leafN ns dd yy)∧Below B w w'∧Only [49,50] w w':=by
 have hTT:Hid (Tap 49 50 w B tb ns):=hT
 obtain ⟨pL,cL,xs0,hv,ho,hn0,hnc⟩:=hT.head
 obtain ⟨N,eN⟩:∃ N,ns.length=N:=⟨_,rfl⟩
 rw [eN] at hv ho hnc
 have hcell:=(head_cell hv).1
 have hz:=heap_lt hv
 have hl:Hid (N < 512):=by show _ < _;rw [← eN];exact hroom
 have hd1:decide ((512:Int)≤(N:Int))=false:=decide_eq_false (by have:=hl.out;omega)
 have hd2:decide (512≤N)=false:=decide_eq_false (by have:=hl.out;omega)
 have cA:=fun W (hW:Below w.heap.size w W)=>ris_any _ _ dd yy hd W (h1.up hW) (h2.up hW)
 rw [decide_eq_false hp] at cA
 have e1:leafE ns dd yy=1:=(if_neg (by omega)).trans (if_neg hp)
 have e2:leafR ns dd yy=0:=if_neg fun h=>hp h.2
 have e3:leafN ns dd yy=ns:=if_neg fun h=>hp h.2
 rw [e1,e2,e3]
 have HBB:Hid (B≤w.heap.size):=Nat.le_trans hTT.out.1 (Nat.le_of_lt hz)
 clear hT hv ho hn0 hnc e1 e2 e3 h1 h2 hd hp hroom eN
 go_enter Tryz.func31,Tryz.ntmps31
 go_wp2_with fail
 generalize hW0:World.alloc _ _=W0
 have HB0:=hidB (w:=w) hW0 (by go_grown)
 have XA:Hid (Cel W0 w.heap.size (.slice p n c) (.slice p2 n2 c2)):=celW hW0 (by simp [go_sem])
 clear hW0
 refine (cA W0 HB0.out).mono ?_
 rintro e w1 ⟨rfl,hB1⟩
 have HB1:=hid2 (bstep HB0.out hB1) hB1
 clear hB1 cA
 go_wp2
 exact bodyPost_ret (v:=.tuple #[.int .i64 0,.int .i64 1]) (by simp [results,Tryz.results31,go_sem]) rfl ⟨rfl,hTT.out.up HB1.out.1,HB1.out.1.mono HBB.out,Only.of HB1.out.1⟩
theorem owned_not_ten {W:World} {B n s b6:Nat} {v s1 t1:Value} {xs:List Value} (hb:W.heap[b6]?=some (.cells #[s1,t1] 31 (0,0))) (h:W.ownsRow B 50 s v n xs):v.ownBlock≠some b6:=by
 rcases h.2 with ⟨rfl,_⟩|⟨g,cap,cur,rfl,_,hg,_⟩
 ·simp [Value.ownBlock]
 ·intro e
  simp [Value.ownBlock] at e
  subst e
  rw [hb] at hg
  cases hg
theorem rleaf_good (B tb:Nat) (ns:List Nd) (p p2:Option Addr) (n c n2 c2:Nat) (dd yy:List Int) (hd:RI dd) (w:World) (hT:Tap 49 50 w B tb ns) (h1:Nums .i64 w (.slice p n c) dd) (h2:Nums .i64 w (.slice p2 n2 c2) yy) (hroom:ns.length < 512) (hp:isP dd yy):
  Calls Tryz.prog 31 #[.pointer (some ⟨tb,0,none⟩),.agg #[.slice p n c,.slice p2 n2 c2]] w fun e w'=>e = .returned (.tuple #[.int .i64 (leafR ns dd yy),.int .i64 (leafE ns dd yy)])∧Tap 49 50 w' B tb (leafN ns dd yy)∧Below B w w'∧Only [49,50] w w':=by
 have hTT:Hid (Tap 49 50 w B tb ns):=hT
 obtain ⟨pL0,cL0,xs00,hv,ho,hn0,hnc⟩:=hT.head
 obtain ⟨N,eN⟩:∃ N,ns.length=N:=⟨_,rfl⟩
 rw [eN] at hv ho hnc
 have hcell:=(head_cell hv).1
 have hz:=heap_lt hv
 have hl:Hid (N < 512):=by show _ < _;rw [← eN];exact hroom
 have hd1:decide ((512:Int)≤(N:Int))=false:=decide_eq_false (by have:=hl.out;omega)
 have hd2:decide (512≤N)=false:=decide_eq_false (by have:=hl.out;omega)
 have cA:=fun W (hW:Below w.heap.size w W)=>ris_any _ _ dd yy hd W (h1.up hW) (h2.up hW)
 rw [decide_eq_true hp] at cA
 have e1:leafE ns dd yy=0:=(if_neg (by omega)).trans (if_pos hp)
 have e2:leafR ns dd yy=(N:Int):=by rw [← eN];exact if_pos ⟨hroom,hp⟩
 have e3:leafN ns dd yy=ns++[⟨1,-1,-1,0,dd,yy⟩]:=if_pos ⟨hroom,hp⟩
 rw [e1,e2,e3]
 have HN:Hid (Nums .i64 w (.slice p n c) dd∧Nums .i64 w (.slice p2 n2 c2) yy∧isP dd yy):=⟨h1,h2,hp⟩
 haveI:Nonempty World:=⟨w⟩
 clear hT hv ho hn0 hnc e1 e2 e3 h1 h2 hd hp hroom
 go_enter Tryz.func31,Tryz.ntmps31
 go_wp2_with fail
 generalize hW0:World.alloc _ _=W0
 have HB0:=hidB (w:=w) hW0 (by go_grown)
 have XA:Hid (Cel W0 w.heap.size (.slice p n c) (.slice p2 n2 c2)):=celW hW0 (by simp [go_sem])
 clear hW0
 refine (cA W0 HB0.out).mono ?_
 rintro e w1 ⟨rfl,hB1⟩
 have HB1:=hid2 (bstep HB0.out hB1) hB1
 clear hB1 cA
 obtain ⟨a0,a1,_,_⟩:=XA.out.up HB1.out.2
 have z0:=cell_lt a0
 have HND:Hid (∀ W,Below w1.heap.size w1 W→Nums .i64 W (.slice p n c) dd∧dd.length≤1073741824):=fun W hW=>⟨HN.out.1.up (bstep HB1.out.1 hW),by have:=HN.out.2.2.1.1;rw [ntl_len] at this;omega⟩
 have HNX:Hid (∀ W,Below w1.heap.size w1 W→Nums .i64 W (.slice p2 n2 c2) yy∧yy.length≤1073741824):=fun W hW=>⟨HN.out.2.1.up (bstep HB1.out.1 hW),by have h3:=HN.out.2.2.1.2.2;have h4:=HN.out.2.2.2;omega⟩
 go_wp2_with fail
 refine rel [⟨0,16,Emp .i64 3 w1.heap.size⟩,⟨3,19,fun v W=>OwnK .i64 3 W w1.heap.size v dd⟩,⟨4,20,Emp .i64 33 w1.heap.size⟩,⟨7,23,fun v W=>OwnK .i64 33 W w1.heap.size v yy⟩,⟨8,24,OwnT w1.heap.size dd yy⟩,⟨9,6,NewC w1.heap.size⟩] 10 42 (by kernel_rfl) rfl rfl (by kernel_rfl) (by rfl) ?_ ?_
 ·intro e he v W W' h hb
  simp only [List.mem_cons,List.not_mem_nil,or_false] at he
  rcases he with rfl|rfl|rfl|rfl|rfl|rfl
  ·obtain ⟨g,e1,h1⟩:=h
   exact ⟨g,e1,h1.up hb⟩
  ·exact OwnK.up h hb
  ·obtain ⟨g,e1,h1⟩:=h
   exact ⟨g,e1,h1.up hb⟩
  ·exact OwnK.up h hb
  ·exact OwnT.up h hb
  ·exact NewC.up h hb
 apply Exists.intro
 refine ⟨fun x=>?_,?_,?_⟩
 ·simp only [List.take_succ_cons,List.take_zero]
  refine relTold rfl rfl ?_ ?_
  ·intro F hF hf d
   have hFc:=hF.cell
   have hFf:=hF.frozen
   simp [yieldsR,yieldsUpon,go_sem]
   exact ⟨⟨(F d).heap.size,rfl,(own_lit (k:=.i64) (e:=3) (F d) [] 0 rfl (by decide)).low (hF.below d).size⟩,up_alloc _ _⟩
  iterate 2
   (try simp only [putL])
   refine relQuiet rfl rfl ?_
   apply Exists.intro
   refine ⟨fun F hF hf K hK=>?_,?_⟩
   ·have hFc:=hF.cell
    have hFf:=hF.frozen
    go_big_quiet_op
    exact hK
  (try simp only [putL])
  refine relTold rfl rfl ?_ ?_
  ·intro F hF hf d
   have hFc:=hF.cell
   have hFf:=hF.frozen
   have h9:=hf _ List.mem_cons_self (by rfl) d
   obtain ⟨g9,e9,o9⟩:=h9
   simp only [] at e9
   rw [e9] at o9
   obtain ⟨v8,w8,hr,ho,hb⟩:=app0 numT (by decide) 28 (F d) w1.heap.size g9 o9 (hF.below d).size _ _ (HND.out (F d) (hF.below d)).1 (HND.out (F d) (hF.below d)).2
   simp [yieldsR,yieldsUpon,execOp,resolve,invoke,builtin,Act.eval,e9,hr,Result.andThen]
   exact ⟨ho,hb⟩
  (try simp only [putL])
  refine relTold rfl rfl ?_ ?_
  ·intro F hF hf d
   have hFc:=hF.cell
   have hFf:=hF.frozen
   simp [yieldsR,yieldsUpon,go_sem]
   exact ⟨⟨(F d).heap.size,rfl,(own_lit (k:=.i64) (e:=33) (F d) [] 0 rfl (by decide)).low (hF.below d).size⟩,up_alloc _ _⟩
  iterate 2
   (try simp only [putL])
   refine relQuiet rfl rfl ?_
   apply Exists.intro
   refine ⟨fun F hF hf K hK=>?_,?_⟩
   ·have hFc:=hF.cell
    have hFf:=hF.frozen
    go_big_quiet_op
    exact hK
  (try simp only [putL])
  refine relTold rfl rfl ?_ ?_
  ·intro F hF hf d
   have hFc:=hF.cell
   have hFf:=hF.frozen
   have h9:=hf _ (List.mem_cons_of_mem _ (List.mem_cons_of_mem _ List.mem_cons_self)) (by rfl) d
   obtain ⟨g9,e9,o9⟩:=h9
   simp only [] at e9
   rw [e9] at o9
   obtain ⟨v8,w8,hr,ho,hb⟩:=app0 fixT (by decide) 29 (F d) w1.heap.size g9 o9 (hF.below d).size _ _ (HNX.out (F d) (hF.below d)).1 (HNX.out (F d) (hF.below d)).2
   simp [yieldsR,yieldsUpon,execOp,resolve,invoke,builtin,Act.eval,e9,hr,Result.andThen]
   exact ⟨ho,hb⟩
  (try simp only [putL])
  refine relTold rfl rfl ?_ ?_
  ·intro F hF hf d
   have hFc:=hF.cell
   have hFf:=hF.frozen
   have h9:OwnK .i64 3 (F d) w1.heap.size (x 3) dd:=hf _ (List.mem_cons_of_mem _ List.mem_cons_self) (by rfl) d
   have h8:OwnK .i64 33 (F d) w1.heap.size (x 7) yy:=hf _ (List.mem_cons_of_mem _ (List.mem_cons_of_mem _ (List.mem_cons_of_mem _ List.mem_cons_self))) (by rfl) d
   obtain ⟨p9,n9,c9,e9⟩:=h9.form_
   obtain ⟨p8,n8,c8,e8⟩:=h8.form_
   rw [e9] at h9
   rw [e8] at h8
   simp [yieldsR,yieldsUpon,go_sem,e9,e8]
   exact ⟨⟨_,_,_,_,_,_,rfl,h9,h8⟩,Below.refl _ _⟩
  (try simp only [putL])
  refine relTold rfl rfl ?_ ?_
  ·intro F hF hf d
   have hFc:=hF.cell
   have hFf:=hF.frozen
   simp [yieldsR,yieldsUpon,go_sem]
   exact ⟨⟨(F d).heap.size,rfl,heap_alloc_new (F d) _,(hF.below d).size⟩,up_alloc _ _⟩
  (try simp only [putL])
  refine relEnd ?_
  exact rfl
 ·exact fun x=>rfl
 ·intro w5 xs5 hB5 hf
  simp only [List.drop_succ_cons,List.drop_zero]
  have hfa:=hf _ (List.mem_cons_of_mem _ (List.mem_cons_of_mem _ (List.mem_cons_of_mem _ (List.mem_cons_of_mem _ List.mem_cons_self))))
  have hfb:=hf _ (List.mem_cons_of_mem _ (List.mem_cons_of_mem _ (List.mem_cons_of_mem _ (List.mem_cons_of_mem _ (List.mem_cons_of_mem _ List.mem_cons_self)))))
  obtain ⟨y0,ey0⟩:∃ q,xs5 0=q:=⟨_,rfl⟩
  obtain ⟨y3,ey3⟩:∃ q,xs5 3=q:=⟨_,rfl⟩
  obtain ⟨y4,ey4⟩:∃ q,xs5 4=q:=⟨_,rfl⟩
  obtain ⟨y7,ey7⟩:∃ q,xs5 7=q:=⟨_,rfl⟩
  obtain ⟨y8,ey8⟩:∃ q,xs5 8=q:=⟨_,rfl⟩
  obtain ⟨y9,ey9⟩:∃ q,xs5 9=q:=⟨_,rfl⟩
  simp only [ey8,ey9] at hfa hfb
  simp only [ey0,ey3,ey4,ey7,ey8,ey9]
  clear ey0 ey3 ey4 ey7 ey8 ey9 hf
  obtain ⟨pa,na,ca,pb,nb,cb,rfl,hsa,hsb⟩:=hfa
  obtain ⟨b6,rfl,hb6,hlow6⟩:=hfb
  have o6:Only [31] w5 (set2 w5 b6 (.slice pa na ca) (.slice pb nb cb)):=(Only.set hb6 (by simp)).trans (Only.set (heap_setat hb6) (by simp))
  have hb6':(set2 w5 b6 (.slice pa na ca) (.slice pb nb cb)).heap[b6]?=some (.cells #[.slice pa na ca,.slice pb nb cb] 31 (0,0)):=by
   show (World.setCell _ _ _).heap[b6]?=_
   rw [heap_setat (heap_setat hb6)]
   rfl
  obtain ⟨r0,r1,r2,r3⟩:=new_cel hb6
  have hBB:B≤w.heap.size:=Nat.le_trans hTT.out.1 (Nat.le_of_lt hz)
  have hlw:w.heap.size≤b6:=Nat.le_trans HB1.out.1.size hlow6
  have HT6:Hid (Tap 49 50 (set2 w5 b6 (.slice pa na ca) (.slice pb nb cb)) B tb ns):=(hTT.out.up (bstep HB1.out.1 hB5)).only o6 (by decide) (by decide) (by decide) (by decide)
  have HB6':Hid (Below B w (set2 w5 b6 (.slice pa na ca) (.slice pb nb cb))∧B≤(set2 w5 b6 (.slice pa na ca) (.slice pb nb cb)).heap.size∧Only [49,50] w (set2 w5 b6 (.slice pa na ca) (.slice pb nb cb))):=by
   have hb:=below_cell (bstep HB1.out.1 hB5) b6 hlw (.slice pa na ca) (.slice pb nb cb)
   exact ⟨hb.mono hBB,Nat.le_trans hBB hb.size,Only.of hb⟩
  have HN6':Hid (NdC (set2 w5 b6 (.slice pa na ca) (.slice pb nb cb)) B ⟨1,-1,-1,0,dd,yy⟩ [.int .i64 1,.int .i64 (-1),.int .i64 (-1),.int .i64 0,.slice pa na ca,.slice pb nb cb]):=⟨_,_,rfl,(hsa.only o6 (by decide)).low (Nat.le_trans hBB HB1.out.1.size),(hsb.only o6 (by decide)).low (Nat.le_trans hBB HB1.out.1.size)⟩
  clear hsa hsb o6 a0 a1 z0
  go_wp2_with fail
  obtain ⟨w6,ew6⟩:∃ w6:World,set2 w5 b6 (.slice pa na ca) (.slice pb nb cb)=w6:=⟨_,rfl⟩
  rw [ew6] at HT6 HB6' HN6' hb6'
  simp only [ew6]
  have HB6:=HB6'
  have HND6:=HN6'
  obtain ⟨pL,cL,xs0,hv,ho,hn0,hnc⟩:=HT6.out.head
  rw [eN] at hv ho
  have HTP:Hid (B≤tb∧w6.heap[tb]?=some (.cells #[.slice pL N cL] 49 (0,0))∧ns.length=N∧w6.ownsRow B 50 6 (.slice pL N cL) N xs0∧NdsC w6 B ns xs0):=⟨hTT.out.1,hv,eN,ho,hn0⟩
  have HX6:Hid (Cel w6 b6 (.slice pa na ca) (.slice pb nb cb)∧some b6≠Value.ownBlock (.slice pL N cL)):=⟨new_cel hb6',Ne.symm (owned_not_ten hb6' ho)⟩
  have HRW:Hid (∀ k,Value.ownBlock (.slice pL N cL)=some k→k < w6.heap.size):=fun k hk=>(World.ownsRow.lt ho k hk).2
  have HU1:Hid (∀ q∈([.int .i64 1,.int .i64 (-1),.int .i64 (-1),.int .i64 0,.slice pa na ca,.slice pb nb cb]:List Value),q.oneCell'=true):=HND6.out.one
  clear hv ho hn0 hnc r0 r1 r2 r3 hb6 hb6' hB5 HB6' HN6' HT6 ew6
  refine from_region (by kernel_rfl) ?_
  refine seg (fun q W=>match q with|false=>Below w6.heap.size w6 W|true=>w6.grownBy W (Value.ownBlock (.slice pL N cL))) (fun W W'=>W.grownBy W' (Value.ownBlock (.slice pL N cL))) 8 [⟨7,32,LitS 50 w6.heap.size [.int .i64 1,.int .i64 (-1),.int .i64 (-1),.int .i64 0,.slice pa na ca,.slice pb nb cb]⟩,⟨8,33,OwnN 50 B (N+1) (xs0++[.int .i64 1,.int .i64 (-1),.int .i64 (-1),.int .i64 0,.slice pa na ca,.slice pb nb cb])⟩] 0 11 42 rfl rfl (by kernel_rfl) (by rfl) ?_ ?_ ?_ ?_ ?_ ?_
  ·intro q W W' h hb
   cases q
   ·exact bstep h hb
   ·exact grown_up h hb
  ·exact ⟨rfl,rfl,rfl,Nat.le_refl _,fun _ _=>rfl⟩
  ·exact .inl ⟨_,List.mem_cons_of_mem _ List.mem_cons_self,rfl⟩
  ·intro e he v W W' h hb
   simp only [List.mem_cons,List.not_mem_nil,or_false] at he
   rcases he with rfl|rfl
   ·exact LitS.up h hb
   ·exact OwnN.up h hb
  ·intro e he hne v W W' h hc ht
   simp only [List.mem_cons,List.not_mem_nil,or_false] at he
   rcases he with rfl|rfl
   ·exact LitS.grown h ht HRW.out
   ·exact absurd rfl hne
  apply Exists.intro
  refine ⟨fun x=>?_,?_,?_⟩
  ·simp only [List.drop_succ_cons,List.drop_zero,List.take_succ_cons,List.take_zero]
   iterate 4
    refine segQuiet rfl rfl ?_
    apply Exists.intro
    refine ⟨fun b F hF hf K hK=>?_,?_⟩
    ·have hFc:=hF.cls
     go_big_quiet_op
     exact hK
    (try simp only [putL])
   refine segQuiet rfl rfl ?_
   apply Exists.intro
   refine ⟨fun b F hF hf K hK=>?_,?_⟩
   ·have hFc:=hF.cls
    have q0:∀ d,(F d).cell? ⟨tb,0,none⟩=some (.slice pL N cL):=fun d=>by
     have hK:w6.grownBy (F d) (Value.ownBlock (.slice pL N cL)):=by
      cases b
      ·exact below_grown _ (hFc d)
      ·exact hFc d
     exact hK.cell (head_cell HTP.out.2.1).1 (Ne.symm (owned_off ne_nt HTP.out.2.1 HTP.out.2.2.2.1))
    clear hFc
    go_big_quiet_op
    exact hK
   (try simp only [putL])
   refine segQuiet rfl rfl ?_
   apply Exists.intro
   refine ⟨fun b F hF hf K hK=>?_,?_⟩
   ·have hFc:=hF.cls
    have q0:∀ d,(F d).cell? ⟨b6,0,none⟩=some (.slice pa na ca)∧(F d).cell? ⟨b6,1,none⟩=some (.slice pb nb cb):=fun d=>by
     have hK:w6.grownBy (F d) (Value.ownBlock (.slice pL N cL)):=by
      cases b
      ·exact below_grown _ (hFc d)
      ·exact hFc d
     exact ⟨hK.cell HX6.out.1.1 HX6.out.2,hK.cell HX6.out.1.2.1 HX6.out.2⟩
    have q1:=fun d=>(q0 d).1
    have q2:=fun d=>(q0 d).2
    clear hFc q0
    go_big_quiet_op
    exact hK
   (try simp only [putL])
   refine segQuiet rfl rfl ?_
   apply Exists.intro
   refine ⟨fun b F hF hf K hK=>?_,?_⟩
   ·have hFc:=hF.cls
    go_big_quiet_op
    exact hK
   (try simp only [putL])
   refine segTold rfl (by decide) rfl ?_ ?_
   ·intro b F hF hf d
    have hFc:=hF.cls
    have hcls:w6.heap.size≤(F d).heap.size:=by
     cases b
     ·exact (hFc d).size
     ·exact (hFc d).size
    simp [yieldsR,yieldsUpon,go_sem]
    exact ⟨⟨(F d).heap.size,rfl,heap_alloc_new (F d) _,hcls⟩,up_alloc _ _⟩
   (try simp only [putL])
   refine segBusy rfl rfl rfl ?_ ?_
   ·intro W hW hf
    have h7:=hf _ List.mem_cons_self (by rfl) W
    obtain ⟨g7,e7,hg7,_⟩:=h7
    simp only [] at e7
    obtain ⟨g8,c8,w8,hr8,ho8,hgr8⟩:=appN nodeT (by decide) 47 W B (.slice pL N cL) N xs0 (owns_only (S:=[]) HTP.out.2.2.2.1 (Only.of hW) (by simp)) g7 [.int .i64 1,.int .i64 (-1),.int .i64 (-1),.int .i64 0,.slice pa na ca,.slice pb nb cb] hg7 rfl HU1.out (by have:=hl.out;omega) (Nat.le_trans HTP.out.1 (Nat.le_trans (Nat.le_of_lt (heap_lt HTP.out.2.1)) (Below.size hW)))
    simp [leavesR,leavesUpon,execOp,resolve,invoke,builtin,Act.eval,e7,hr8,Result.andThen]
    exact ⟨ho8,grown_trans (below_grown _ hW) hgr8,hgr8⟩
   iterate 2
    (try simp only [putL])
    refine segQuiet rfl rfl ?_
    apply Exists.intro
    refine ⟨fun b F hF hf K hK=>?_,?_⟩
    ·have hFc:=hF.cls
     go_big_quiet_op
     exact hK
   (try simp only [putL])
   refine segEnd ?_
   exact rfl
  ·exact fun x=>rfl
  ·intro w8 xs8 hC8 hf8
   have hC8':w6.grownBy w8 (Value.ownBlock (.slice pL N cL)):=hC8
   refine from_list 11 (by kernel_rfl) ?_
   simp only [List.drop_succ_cons,List.drop_zero]
   have h8:=hf8 _ (List.mem_cons_of_mem _ List.mem_cons_self)
   obtain ⟨x7,e7⟩:∃ q,xs8 7=q:=⟨_,rfl⟩
   obtain ⟨x8,e8⟩:∃ q,xs8 8=q:=⟨_,rfl⟩
   simp only [e8] at h8
   simp only [e7,e8]
   obtain ⟨g8,c8,rfl,_,_⟩:=World.ownsRow.form h8 (by omega)
   obtain ⟨hTp,hOn⟩:=Tap.push (TT:=49) (NT:=50) ne_nt (by decide) (by decide) (nd:=⟨1,-1,-1,0,dd,yy⟩) HTP.out.1 HTP.out.2.1 (by rw [HTP.out.2.2.1];exact HTP.out.2.2.2.1) HTP.out.2.2.2.2 HND6.out hC8' (by rw [HTP.out.2.2.1];exact h8)
   have hv8:w8.heap[tb]?=some (.cells #[.slice pL N cL] 49 (0,0)):=by
    rw [hC8'.block tb (heap_lt HTP.out.2.1) (Ne.symm (owned_off ne_nt HTP.out.2.1 HTP.out.2.2.2.1))]
    exact HTP.out.2.1
   obtain ⟨r0,r1⟩:=head_cell hv8
   have y0:=(head_cell (v:=.slice (some ⟨g8,0,none⟩) (N+1) c8) (e:=49) (W:=w8.setCell ⟨tb,0,none⟩ (.slice (some ⟨g8,0,none⟩) (N+1) c8)) (by rw [heap_setat hv8];rfl)).1
   have HF:Hid (Tap 49 50 (w8.setCell ⟨tb,0,none⟩ (.slice (some ⟨g8,0,none⟩) (N+1) c8)) B tb (ns++[⟨1,-1,-1,0,dd,yy⟩])∧Below B w (w8.setCell ⟨tb,0,none⟩ (.slice (some ⟨g8,0,none⟩) (N+1) c8))∧Only [49,50] w (w8.setCell ⟨tb,0,none⟩ (.slice (some ⟨g8,0,none⟩) (N+1) c8))):=
    ⟨hTp,(Below.grown HB6.out.1 hC8' HB6.out.2.1 (OwnN_block HTP.out.2.2.2.1)).setCell (p:=⟨tb,0,none⟩) HTP.out.1 _,HB6.out.2.2.trans hOn⟩
   clear hTp hOn hC8 hC8' h8 hf8 hv8
   have hN1:((N+1:Nat):Int) - 1=(N:Int):=by omega
   have hN2:wrap64 (N:Int)=(N:Int):=by have:=hl.out;unfold wrap64;omega
   go_wp2
   exact bodyPost_ret (v:=.tuple #[.int .i64 (N:Int),.int .i64 0]) (by simp [results,Tryz.results31,go_sem,hN1,hN2]) rfl ⟨rfl,HF.out⟩
theorem rleaf_any (B tb:Nat) (ns:List Nd) (p p2:Option Addr) (n c n2 c2:Nat) (dd yy:List Int) (hd:RI dd) (w:World) (hT:Tap 49 50 w B tb ns) (h1:Nums .i64 w (.slice p n c) dd) (h2:Nums .i64 w (.slice p2 n2 c2) yy):
  Calls Tryz.prog 31 #[.pointer (some ⟨tb,0,none⟩),.agg #[.slice p n c,.slice p2 n2 c2]] w fun e w'=>e = .returned (.tuple #[.int .i64 (leafR ns dd yy),.int .i64 (leafE ns dd yy)])∧Tap 49 50 w' B tb (leafN ns dd yy)∧Below B w w'∧Only [49,50] w w':=by
 by_cases hf:512≤ns.length
 ·exact rleaf_full B tb ns p p2 n c n2 c2 dd yy hd w hT h1 h2 hf
 ·by_cases hp:isP dd yy
  ·exact rleaf_good B tb ns p p2 n c n2 c2 dd yy hd w hT h1 h2 (by omega) hp
  ·exact rleaf_bad B tb ns p p2 n c n2 c2 dd yy hd w hT h1 h2 (by omega) hp
end Go.Proofs.YtlhpmjcdkpfjdaaGreatDoor.Wd
