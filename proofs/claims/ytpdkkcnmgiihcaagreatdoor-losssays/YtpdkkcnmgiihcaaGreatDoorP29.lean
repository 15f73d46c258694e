/- Tensors: what the reference's Scale and Reshape hand back. · What the reference's Join hands back. · What the reference's From hands back. -/
import Derived.Test.YtpdkkcnmgiihcaaGreatDoorP09
import Derived.Test.YtpdkkcnmgiihcaaGreatDoorP03
import Derived.Test.YtpdkkcnmgiihcaaGreatDoorP28
import Derived.ArgAppend
import Derived.Test.YtpdkkcnmgiihcaaGreatDoorP00
set_option linter.unusedVariables false
set_option linter.unusedSimpArgs false
set_option maxHeartbeats 16000000
set_option maxRecDepth 16000
namespace Go.Proofs.YtpdkkcnmgiihcaaGreatDoor.Wd
open Go.RowKit
theorem rscale_any (p p2:Option Addr) (n c n2 c2:Nat) (d x:List Int) (hd:RI d) (hx:RI x) (K:Int) (hK:Fx.InR K) (w:World) (h1:Nums .i64 w (.slice p n c) d) (h2:Nums .i64 w (.slice p2 n2 c2) x):
  Calls Tryz.prog 55 #[.agg #[.slice p n c,.slice p2 n2 c2],.int .i64 K] w fun e w'=>∃ v',e = .returned (.tuple #[v',.int .i64 (scaleE d x)])∧TRes w' w.heap.size v' (scaleD d x) (scaleV d x K)∧Below w.heap.size w w':=by
 have cA:=fun W (hW:Below w.heap.size w W)=>ris_any _ _ d x hd W (h1.up hW) (h2.up hW)
 by_cases hp:isP d x
 ·rw [decide_eq_true hp] at cA
  unfold scaleE scaleD scaleV
  rw [if_pos hp,if_pos hp,if_pos hp]
  have cN:=fun W (hW:Below w.heap.size w W)=>rnew_any _ d hd hp.1 0 W (h1.up hW)
  obtain ⟨V,eV⟩:∃ V,(x.map fun y=>Fx.mulI y K)=V:=⟨_,rfl⟩
  rw [eV]
  obtain ⟨_,_,_,e4,HX⟩:=h2.lst
  cases e4
  have hlen:x.length≤4096:=by rw [hp.2];exact hp.1.2.2
  have hpos:1≤x.length:=by rw [hp.2];exact hp.1.pos
  rw [← hp.2] at cN
  rw [HX.out.1] at hlen hpos cN
  have hlen':(n2:Int)≤4096:=by omega
  have HV:Hid ((x.map fun y=>Fx.mulI y K)=V∧V.length=n2∧RI x∧Fx.InR K∧x.length=n2):=⟨eV,by rw [← eV,List.length_map];exact HX.out.1,hx,hK,HX.out.1⟩
  clear eV h1 h2 hd hx hp hK
  go_enter Tryz.func55,Tryz.ntmps55
  go_wp2_with fail
  generalize hW0:World.alloc _ _=W0
  have HB0:=hidB (w:=w) hW0 (by go_grown)
  have XA:Hid (Cel W0 w.heap.size (.slice p n c) (.slice p2 n2 c2)):=celW hW0 (by simp [go_sem])
  have XR:Hid (Cel W0 (w.heap.size+1) (.slice none 0 0) (.slice none 0 0)):=celW hW0 (by simp [go_sem])
  clear hW0
  refine (cA W0 HB0.out).mono ?_
  rintro e w1 ⟨rfl,hB1⟩
  have HB1:=hid2 (bstep HB0.out hB1) hB1
  clear hB1
  clear cA
  obtain ⟨a0,a1,_,_⟩:=XA.out.up HB1.out.2
  go_wp2_with fail
  refine (cN w1 HB1.out.1).mono ?_
  rintro e w4 ⟨v4,rfl,⟨s4,g,cg,rfl,hs4,ht4,hOff,hgB⟩,hB4⟩
  obtain ⟨p4,n4,c4,rfl,_⟩:=hs4.nums.lst
  have HOff:Hid (Off g (.slice p4 n4 c4)):=hOff
  go_wp2_with fail
  generalize hW5:World.alloc _ _=W5
  obtain ⟨b5,hb5⟩:∃ b5,w4.heap.size=b5:=⟨_,rfl⟩
  have B5:Below w4.heap.size w4 W5:=by rw [← hW5];exact up_alloc w4 _
  have XT:Hid (Cel W5 b5 (.slice p4 n4 c4) (.slice (some ⟨g,0,none⟩) n2 cg)):=by
   show Cel _ _ _ _
   unfold Cel
   rw [← hW5,← hb5]
   simp [go_sem]
  have HB5:Hid (Below w.heap.size w W5∧Below W0.heap.size W0 W5):=⟨bstep HB1.out.1 (bstep hB4 B5),bstep HB1.out.2 (bstep hB4 B5)⟩
  have HD5:Hid (OwnK .i64 3 W5 w1.heap.size (.slice p4 n4 c4) d):=hs4.up B5
  have HX5:Hid (Cel W5 w.heap.size (.slice p n c) (.slice p2 n2 c2)∧Cel W5 (w.heap.size+1) (.slice none 0 0) (.slice none 0 0)):=⟨XA.out.up HB5.out.2,XR.out.up HB5.out.2⟩
  have HO5:Hid (OwnK .i64 33 W5 g (.slice (some ⟨g,0,none⟩) n2 cg) (rowF V 0)):=by
   show OwnK _ _ _ _ _ _
   rw [rowF_zero,HV.out.2.1]
   exact (ht4.up B5).base
  have hz:=cell_lt XR.out.1
  have hgl:=ht4.size
  have Hg:Hid (W0.heap.size≤g∧w.heap.size+1 < W0.heap.size∧g < b5∧w1.heap.size≤g∧W0.heap.size≤w1.heap.size):=⟨Nat.le_trans HB1.out.2.size hgB,hz,by omega,hgB,HB1.out.2.size⟩
  rw [hb5]
  clear hW5 B5 hb5 hz hgl hs4 ht4 hB4 hgB hOff a0 a1 cN
  go_loopg [7] n2 (fun gg i wr=>∃ (k:Nat),k≤n2∧gg=n2 - k∧i = .int .i64 (k:Int)∧Hid (OwnK .i64 33 wr g (.slice (some ⟨g,0,none⟩) n2 cg) (rowF V k))∧Hid (Below w.heap.size w wr∧Stay g W5 wr))
  case atStart=>exact ⟨0,by omega,by omega,by first|rfl|simp,HO5,HB5.out.1,Stay.refl _ _⟩
  case round=>
   obtain ⟨k,hk,hgg,rfl,HRk,hBS⟩:=hrel
   obtain ⟨R1,hR1⟩:∃ R1:World,R1=wr:=⟨_,rfl⟩
   subst hR1
   by_cases hkn:k < n2
   ·have hk':(k:Int) < (n2:Int):=by omega
    have hnb:b5≠g:=by have:=Hg.out;omega
    have hne0:w.heap.size≠g:=by have:=Hg.out;omega
    obtain ⟨t0,t1,_,_⟩:=XT.out.stay hBS.out.2 hnb
    obtain ⟨a0,a1,_,_⟩:=HX5.out.1.stay hBS.out.2 hne0
    obtain ⟨q,o,rfl,hc0⟩:=HX.out.2 k hkn
    have hc1:=cell_low hc0 hBS.out.1
    have rx:=HV.out.2.2.1.in k (by rw [HV.out.2.2.2.2];exact hkn)
    obtain ⟨X,eX⟩:∃ X,x.getD k 0=X:=⟨_,rfl⟩
    rw [eX] at hc1 rx
    obtain ⟨Z,eZ⟩:∃ Z,Fx.mulI X K=Z:=⟨_,rfl⟩
    have HZ:Hid (V.getD k 0=Z):=by
     show _=_
     rw [← HV.out.1,List.getD_eq_getElem?_getD,List.getElem?_map,List.getElem?_eq_getElem (by rw [HV.out.2.2.2.2];exact hkn),← eZ,← eX,getD_lt x k 0 (by rw [HV.out.2.2.2.2];exact hkn)]
     rfl
    have cz:∀ W,Calls Tryz.prog 72 #[.int .i64 X,.int .i64 K] W fun e w'=>e = .returned (.int .i64 Z)∧Below W.heap.size W w':=fun W=>Rf.mul_ref X K rx HV.out.2.2.2.1 Z eZ W
    have z0:=cell_lt a0
    have z1:=cell_lt t0
    have z2:=cell_lt hc1
    have z3:=HRk.out.size
    clear eX eZ hc0 hnb hne0
    go_wp2_with fail
    refine flow 11 34 (by kernel_rfl) rfl rfl (by kernel_rfl) ?_
    apply Exists.intro
    refine ⟨?_,?_⟩
    ·intro F hF
     have hFc:=hF.cell
     have hFf:=hF.frozen
     simp only [List.take_succ_cons,List.take_zero,List.eraseIdx_cons_succ,List.eraseIdx_cons_zero]
     repeat (go_big_quiet_step (exact hF.call (cz _)))
     refine wpQuiet_nil ?_
     exact rfl
    ·intro W1 hb1
     simp only [List.drop_succ_cons,List.drop_zero]
     have HR2:=HRk.out.up hb1
     obtain ⟨hown,hfz⟩:=HR2.cell (by rw [rowF_len];exact HV.out.2.1) k hkn
     have H5:Hid (OwnK .i64 33 (W1.setCell ⟨g,k,none⟩ (.int .i64 Z)) g (.slice (some ⟨g,0,none⟩) n2 cg) (rowF V (k+1))):=by
      have:=HR2.store (by rw [rowF_len];exact HV.out.2.1) k Z
      have e2:=rowF_set V k (by rw [HV.out.2.1];exact hkn)
      rw [HZ.out] at e2
      rw [e2] at this
      exact this
     have hgw:w.heap.size≤g:=by have:=Hg.out;omega
     have H6:Hid (Below w.heap.size w (W1.setCell ⟨g,k,none⟩ (.int .i64 Z))∧Stay g W5 (W1.setCell ⟨g,k,none⟩ (.int .i64 Z))):=⟨(bstep hBS.out.1 hb1).setCell (p:=⟨g,k,none⟩) hgw _,(hBS.out.2.up hb1).set _ _⟩
     clear HR2 hb1 cz z0 z1 z2 z3 a0 a1 t0 t1 hgw
     go_wp2
     go_roundg (n2 - (k+1))
     case measure=>omega
     case rel=>exact ⟨k+1,by omega,rfl,by first|rfl|simp,H5,H6⟩
   ·obtain rfl:k=n2:=by omega
    have hfin:=HRk.out
    rw [← HV.out.2.1,rowF_full,HV.out.2.1] at hfin
    have HXR:Hid (Cel W5 (w.heap.size+1) (.slice none 0 0) (.slice none 0 0)):=HX5.out.2
    have hnb:b5≠g:=by have:=Hg.out;omega
    obtain ⟨t0,t1,_,_⟩:=XT.out.stay hBS.out.2 hnb
    have hne1:w.heap.size+1≠g:=by have:=Hg.out;omega
    have hfd:=HD5.out.stay hBS.out.2 (fun ad n1 c1 e1=>HOff.out ad n1 c1 e1)
    have HF:Hid (TRes (set2 R1 (w.heap.size+1) (.slice p4 n4 c4) (.slice (some ⟨g,0,none⟩) k cg)) w.heap.size (.agg #[.slice p4 n4 c4,.slice (some ⟨g,0,none⟩) k cg]) d V∧Below w.heap.size w (set2 R1 (w.heap.size+1) (.slice p4 n4 c4) (.slice (some ⟨g,0,none⟩) k cg))):=
     ⟨(TRes.set (hfd.low Hg.out.2.2.2.2) (hfin.low Hg.out.1) Hg.out.2.1).low HB0.out.size,below_cell hBS.out.1 _ (by omega) _ _⟩
    have xr:=HXR.out.stay hBS.out.2 hne1
    have cf:=xr.set (.slice p4 n4 c4) (.slice (some ⟨g,0,none⟩) k cg)
    obtain ⟨r0,r1,r2,r3⟩:=xr
    obtain ⟨y0,y1,_,_⟩:=cf
    clear hfin hfd hne1 hnb
    go_wp2
    exact bodyPost_ret (v:=.tuple #[.agg #[.slice p4 n4 c4,.slice (some ⟨g,0,none⟩) k cg],.int .i64 0]) (by simp [results,Tryz.results55,go_sem,y0,y1]) rfl ⟨_,rfl,HF.out⟩
 ·rw [decide_eq_false hp] at cA
  unfold scaleE scaleD scaleV
  rw [if_neg hp,if_neg hp,if_neg hp]
  clear h1 h2 hd hx hp hK
  go_enter Tryz.func55,Tryz.ntmps55
  go_wp2_with fail
  generalize hW0:World.alloc _ _=W0
  have HB0:=hidB (w:=w) hW0 (by go_grown)
  have XA:Hid (Cel W0 w.heap.size (.slice p n c) (.slice p2 n2 c2)):=celW hW0 (by simp [go_sem])
  have XR:Hid (Cel W0 (w.heap.size+1) (.slice none 0 0) (.slice none 0 0)):=celW hW0 (by simp [go_sem])
  clear hW0
  refine (cA W0 HB0.out).mono ?_
  rintro e w1 ⟨rfl,hB1⟩
  have HB1:=hid2 (bstep HB0.out hB1) hB1
  clear hB1
  have xr:=(XR.out.up HB1.out.2)
  have BF:=below_cell (HB1.out.1) (w.heap.size+1) (by omega) (.slice none 0 0) (.slice none 0 0)
  have cf:=xr.set (.slice none 0 0) (.slice none 0 0)
  obtain ⟨r0,r1,r2,r3⟩:=xr
  obtain ⟨y0,y1,_,_⟩:=cf
  go_wp2
  exact bodyPost_ret (v:=.tuple #[.agg #[.slice none 0 0,.slice none 0 0],.int .i64 1]) (by simp [results,Tryz.results55,go_sem,y0,y1]) rfl ⟨_,rfl,TRes.none _ _,BF⟩
/-- An empty slice of the call's own. -/
def Emp (k:IntKind) (e:TypeId) (B:Nat) (v:Value) (W:World):Prop:=∃ g,v = .slice (some ⟨g,0,none⟩) 0 0∧OwnK k e W B v []
theorem app0 {P:Program} {t e:TypeId} {k:IntKind} {b:Nat} (T:NumT P t e k b) (hb8:b≤8) (ty:TypeId) (W:World) (B g:Nat) (h0:OwnK k e W B (.slice (some ⟨g,0,none⟩) 0 0) []) (hB:B≤W.heap.size) (v:Value) (l:List Int) (hv:Nums k W v l) (hl:l.length≤1073741824):
  ∃ v' w',(Builtin.append_ #[t,t] ty #[.slice (some ⟨g,0,none⟩) 0 0,v]).run P W = .ok v' w'∧OwnK k e w' B v' l∧Below W.heap.size W w':=by
 obtain ⟨i0,hi,hz0,hz1,hz2⟩:=info_of T
 rcases hv with ⟨rfl,rfl⟩|⟨ad,c,rfl,hc⟩
 ·exact ⟨_,W,run_append_owned_none W B t ty e i0 1 T.ht hi _ _ _ h0,h0,Below.refl _ _⟩
 ·by_cases h:l = []
  ·subst h
   refine ⟨.slice (some ⟨g,0,none⟩) 0 0,W,?_,h0,Below.refl _ _⟩
   have hf:=run_firstCells_some (P:=P) W i0.size 0 ad 0 c [] (by simp) (fun j u hu=>by simp at hu)
   simp [Builtin.append_,run_underlying T.ht,sizeOf,typeInfo,hi,Builtin.lenOf,hf,storeCells]
  ·have hpos:0 < l.length:=by cases l with|nil=>exact absurd rfl h|cons a l=>simp
   have hm:(0+l.length)*b≤1073741824*8:=Nat.mul_le_mul (by omega) hb8
   obtain ⟨v',w',hr,ho,hgr⟩:=run_append_arg_grows (P:=P) (w:=W) t ty e i0 (.int k 0) 1 b T.ht hi hz0 hz1 hz2 rfl (by decide) ⟨g,0,none⟩ 0 0 [] rfl (fun j u hu=>by simp at hu) ad l.length c (vals k l) (by simp [vals]) hc (by omega) (by unfold maxLen;omega) (by omega)
   refine ⟨v',w',hr,?_,Below.grown (Below.refl _ _) hgr (Nat.le_refl _) (fun j hj=>by cases hj)⟩
   rw [Nat.zero_add,List.nil_append] at ho
   exact OwnK.low (B:=W.heap.size) ho hB
theorem rjoin_a (p p2:Option Addr) (na nb c c2:Nat) (a b:List Nat) (ha:goodN a) (hb:goodN b) (hab:nb≤na) (w:World) (hu:Nums .i64 w (.slice p na c) (itl a)) (hv:Nums .i64 w (.slice p2 nb c2) (itl b)) (ca:Calls Tryz.prog 47 #[.slice p na c] w fun e w'=>e = .returned (.bool true)∧w'=w) (cb:Calls Tryz.prog 47 #[.slice p2 nb c2] w fun e w'=>e = .returned (.bool true)∧w'=w):
  Calls Tryz.prog 68 #[.slice p na c,.slice p2 nb c2] w fun e w'=>∃ v',e = .returned (.tuple #[v',.int .i64 (joinE (itl a) (itl b))])∧OwnK .i64 3 w' w.heap.size v' (joinL (itl a) (itl b))∧Below w.heap.size w w':=by
 have HA:Hid (Lst w p na (itl a)∧a.length=na):=by
  obtain ⟨p',n',c',e,h⟩:=hu.lst
  cases e
  exact ⟨h.out,by rw [← itl_len a];exact h.out.1⟩
 have HB:Hid (Lst w p2 nb (itl b)∧b.length=nb):=by
  obtain ⟨p',n',c',e,h⟩:=hv.lst
  cases e
  exact ⟨h.out,by rw [← itl_len b];exact h.out.1⟩
 have hn1:na≤4:=by rw [← HA.out.2];exact ha.1
 have hn2:nb≤4:=by rw [← HB.out.2];exact hb.1
 have habI:(nb:Int)≤(na:Int):=by omega
 have HG:Hid (goodN a∧goodN b∧max a.length b.length=na):=⟨ha,hb,by rw [HA.out.2,HB.out.2];omega⟩
 obtain ⟨L,eL⟩:∃ L,itl (joinN a b)=L:=⟨_,rfl⟩
 have HL:Hid (itl (joinN a b)=L∧L.length=na):=⟨eL,by rw [← eL,itl_len,joinN_len];exact HG.out.2.2⟩
 obtain ⟨X,eX⟩:∃ X,joinL (itl a) (itl b)=X:=⟨_,rfl⟩
 obtain ⟨E,eE⟩:∃ E,joinE (itl a) (itl b)=E:=⟨_,rfl⟩
 have HX:Hid (joinL (itl a) (itl b)=X∧joinE (itl a) (itl b)=E):=⟨eX,eE⟩
 rw [eX,eE]
 clear ha hb eL eX eE hu hv
 go_enter Tryz.func68,Tryz.ntmps68
 go_wp2_with fail
 refine ca.mono ?_
 rintro e w0 ⟨rfl,rfl⟩
 clear ca
 go_wp2_with fail
 refine cb.mono ?_
 rintro e w0 ⟨rfl,rfl⟩
 clear cb
 go_wp2_with (at_make;refine wpList_makeK numT (by decide) _ rfl (.tmp 27) (.tmp 27) rfl .i64 .i64 na na na rfl rfl rfl rfl (by omega) w0.heap.size w0 (Nat.le_refl _) (Below.refl _ _) ?_;intro w1 HO B0 B1;clear B0)
 rw [← HL.out.2,← rowB_zero L,HL.out.2] at HO
 go_loopg [8] na (fun gg v wr=>∃ (k:Nat),k≤na∧gg=na - k∧v = .int .i64 ((k:Int)+1)∧Hid (∀ i,1≤i→i≤k→fitN (sideN a i) (sideN b i))∧Hid (OwnK .i64 3 wr w0.heap.size (.slice (some ⟨w0.heap.size,0,none⟩) na na) (rowB L k))∧Hid (Below w0.heap.size w0 wr))
 case atStart=>exact ⟨0,by omega,by omega,by first|rfl|simp,fun i h1 h2=>by omega,HO,B1⟩
 case round=>
  obtain ⟨k,hk,hg,rfl,Hx,HR,hB⟩:=hrel
  by_cases hkn:k < na
  ·have hkn':(k:Int)+1≤(na:Int):=by omega
   obtain ⟨j,hj⟩:∃ j,j=na - 1 - k:=⟨_,rfl⟩
   have hjm:j < na:=by omega
   have hjk:(na:Int) - ((k:Int)+1)=(j:Int):=by omega
   have hjn:(j:Int) < (na:Int):=by omega
   have Hj:Hid (j+k+1=na):=by show _=_;omega
   clear hj
   by_cases hka:k < na
   ·have hka':(k:Int)+1≤(na:Int):=by omega
    obtain ⟨qa,oa,rfl,ca⟩:=(HA.out.1.up hB.out).2 j (by omega)
    have sa:=side_at a (k+1) (by omega) (by have:=HA.out.2;omega)
    rw [HA.out.2,show na - (k+1)=j by have:=Hj.out;omega] at sa
    have ra:=side_rng HG.out.1 (k+1)
    obtain ⟨x,ea⟩:∃ z:Int,((sideN a (k+1):Nat):Int)=z:=⟨_,rfl⟩
    rw [sa,ea] at ca
    have har:1≤x∧x≤4096:=by omega
    clear sa ra
    by_cases hkb:k < nb
    ·have hkb':(k:Int)+1≤(nb:Int):=by omega
     obtain ⟨jb,hjb⟩:∃ jb,jb=nb - (k+1):=⟨_,rfl⟩
     have hjbI:(nb:Int) - ((k:Int)+1)=(jb:Int):=by omega
     have hjbn:(jb:Int) < (nb:Int):=by omega
     obtain ⟨qb,ob,rfl,cb⟩:=(HB.out.1.up hB.out).2 jb (by omega)
     have sb:=side_at b (k+1) (by omega) (by have:=HB.out.2;omega)
     rw [HB.out.2,← hjb] at sb
     have rb:=side_rng HG.out.2.1 (k+1)
     obtain ⟨y,eb⟩:∃ z:Int,((sideN b (k+1):Nat):Int)=z:=⟨_,rfl⟩
     rw [sb,eb] at cb
     have hbr:1≤y∧y≤4096:=by omega
     clear sb rb hjb
     have HS:Hid (((sideN a (k+1):Nat):Int)=x∧((sideN b (k+1):Nat):Int)=y∧1≤x∧1≤y):=⟨ea,eb,har.1,hbr.1⟩
     clear ea eb
     by_cases hxy:x=y
     ·subst hxy
      have HZ:Hid (x=L.getD j 0):=by
       show _=_
       rw [← HL.out.1,join_at a b j k (by rw [HG.out.2.2];exact Hj.out)]
       have:=HS.out
       omega
      have Hn:Hid (∀ i,1≤i→i≤k+1→fitN (sideN a i) (sideN b i)):=fun i h1 h2=>by
       rcases Nat.lt_or_ge k i with h|h
       ·rw [show i=k+1 by omega]
        have:=HS.out
        unfold fitN
        omega
       ·exact Hx.out i h1 h
      obtain ⟨hown,hfz⟩:=HR.out.cell (by rw [rowB_len];exact HL.out.2) j hjm
      have H2:Hid (OwnK .i64 3 (wr.setCell ⟨w0.heap.size,j,none⟩ (.int .i64 (x))) w0.heap.size (.slice (some ⟨w0.heap.size,0,none⟩) na na) (rowB L (k+1))):=by
       have:=HR.out.store (by rw [rowB_len];exact HL.out.2) j (x)
       rw [HZ.out,rowB_set L j k (by rw [HL.out.2];exact Hj.out)] at this
       rw [HZ.out]
       exact this
      have HB2:Hid (Below w0.heap.size w0 (wr.setCell ⟨w0.heap.size,j,none⟩ (.int .i64 (x)))):=hB.out.setCell (p:=⟨w0.heap.size,j,none⟩) (Nat.le_refl _) _
      clear Hx
      go_wp2
      go_roundg (na - (k+1))
      case measure=>omega
      case rel=>exact ⟨k+1,by omega,rfl,by first|rfl|simp,Hn,H2,HB2⟩
     have hxy':(x != y)=true:=by simp [hxy]
     by_cases hx1:x=1
     ·subst hx1
      have hy1:1 < y:=by omega
      have hy1':¬ y=1:=by omega
      have HZ:Hid (y=L.getD j 0):=by
       show _=_
       rw [← HL.out.1,join_at a b j k (by rw [HG.out.2.2];exact Hj.out)]
       have:=HS.out
       omega
      have Hn:Hid (∀ i,1≤i→i≤k+1→fitN (sideN a i) (sideN b i)):=fun i h1 h2=>by
       rcases Nat.lt_or_ge k i with h|h
       ·rw [show i=k+1 by omega]
        have:=HS.out
        unfold fitN
        omega
       ·exact Hx.out i h1 h
      obtain ⟨hown,hfz⟩:=HR.out.cell (by rw [rowB_len];exact HL.out.2) j hjm
      have H2:Hid (OwnK .i64 3 (wr.setCell ⟨w0.heap.size,j,none⟩ (.int .i64 (y))) w0.heap.size (.slice (some ⟨w0.heap.size,0,none⟩) na na) (rowB L (k+1))):=by
       have:=HR.out.store (by rw [rowB_len];exact HL.out.2) j (y)
       rw [HZ.out,rowB_set L j k (by rw [HL.out.2];exact Hj.out)] at this
       rw [HZ.out]
       exact this
      have HB2:Hid (Below w0.heap.size w0 (wr.setCell ⟨w0.heap.size,j,none⟩ (.int .i64 (y)))):=hB.out.setCell (p:=⟨w0.heap.size,j,none⟩) (Nat.le_refl _) _
      clear Hx
      go_wp2
      go_roundg (na - (k+1))
      case measure=>omega
      case rel=>exact ⟨k+1,by omega,rfl,by first|rfl|simp,Hn,H2,HB2⟩
     have hx1':(x != 1)=true:=by simp [hx1]
     by_cases hy1:y=1
     ·subst hy1
      have hx2:¬ x < 1:=by omega
      have hx3:1 < x:=by omega
      have HZ:Hid (x=L.getD j 0):=by
       show _=_
       rw [← HL.out.1,join_at a b j k (by rw [HG.out.2.2];exact Hj.out)]
       have:=HS.out
       omega
      have Hn:Hid (∀ i,1≤i→i≤k+1→fitN (sideN a i) (sideN b i)):=fun i h1 h2=>by
       rcases Nat.lt_or_ge k i with h|h
       ·rw [show i=k+1 by omega]
        have:=HS.out
        unfold fitN
        omega
       ·exact Hx.out i h1 h
      obtain ⟨hown,hfz⟩:=HR.out.cell (by rw [rowB_len];exact HL.out.2) j hjm
      have H2:Hid (OwnK .i64 3 (wr.setCell ⟨w0.heap.size,j,none⟩ (.int .i64 (x))) w0.heap.size (.slice (some ⟨w0.heap.size,0,none⟩) na na) (rowB L (k+1))):=by
       have:=HR.out.store (by rw [rowB_len];exact HL.out.2) j (x)
       rw [HZ.out,rowB_set L j k (by rw [HL.out.2];exact Hj.out)] at this
       rw [HZ.out]
       exact this
      have HB2:Hid (Below w0.heap.size w0 (wr.setCell ⟨w0.heap.size,j,none⟩ (.int .i64 (x)))):=hB.out.setCell (p:=⟨w0.heap.size,j,none⟩) (Nat.le_refl _) _
      clear Hx
      go_wp2
      go_roundg (na - (k+1))
      case measure=>omega
      case rel=>exact ⟨k+1,by omega,rfl,by first|rfl|simp,Hn,H2,HB2⟩
     have hy1':(y != 1)=true:=by simp [hy1]
     have hX:=join_unlike HG.out.1 HG.out.2.1 (fun h=>by
      have h1:=h (k+1) (by omega) (by rw [HG.out.2.2];omega)
      have:=HS.out
      unfold fitN at h1
      omega)
     rw [HX.out.1,HX.out.2] at hX
     obtain ⟨rfl,rfl⟩:=hX
     clear Hx
     go_wp2
     go_ret2
     exact ⟨_,rfl,OwnK.nil _ _ _ _,hB.out⟩
    ·have hkb':(nb:Int) < (k:Int)+1:=by omega
     have eb:((sideN b (k+1):Nat):Int)=1:=by rw [sideN_far b (k+1) (by have:=HB.out.2;omega)];rfl
     have HS:Hid (((sideN a (k+1):Nat):Int)=x∧((sideN b (k+1):Nat):Int)=1∧1≤x∧(1:Int)≤1):=⟨ea,eb,har.1,by omega⟩
     clear ea eb
     by_cases hxy:x=1
     ·subst hxy
      have HZ:Hid (1=L.getD j 0):=by
       show _=_
       rw [← HL.out.1,join_at a b j k (by rw [HG.out.2.2];exact Hj.out)]
       have:=HS.out
       omega
      have Hn:Hid (∀ i,1≤i→i≤k+1→fitN (sideN a i) (sideN b i)):=fun i h1 h2=>by
       rcases Nat.lt_or_ge k i with h|h
       ·rw [show i=k+1 by omega]
        have:=HS.out
        unfold fitN
        omega
       ·exact Hx.out i h1 h
      obtain ⟨hown,hfz⟩:=HR.out.cell (by rw [rowB_len];exact HL.out.2) j hjm
      have H2:Hid (OwnK .i64 3 (wr.setCell ⟨w0.heap.size,j,none⟩ (.int .i64 (1))) w0.heap.size (.slice (some ⟨w0.heap.size,0,none⟩) na na) (rowB L (k+1))):=by
       have:=HR.out.store (by rw [rowB_len];exact HL.out.2) j (1)
       rw [HZ.out,rowB_set L j k (by rw [HL.out.2];exact Hj.out)] at this
       rw [HZ.out]
       exact this
      have HB2:Hid (Below w0.heap.size w0 (wr.setCell ⟨w0.heap.size,j,none⟩ (.int .i64 (1)))):=hB.out.setCell (p:=⟨w0.heap.size,j,none⟩) (Nat.le_refl _) _
      clear Hx
      go_wp2
      go_roundg (na - (k+1))
      case measure=>omega
      case rel=>exact ⟨k+1,by omega,rfl,by first|rfl|simp,Hn,H2,HB2⟩
     ·have hxy':(x != 1)=true:=by simp [hxy]
      have hx3:1 < x:=by omega
      have HZ:Hid (x=L.getD j 0):=by
       show _=_
       rw [← HL.out.1,join_at a b j k (by rw [HG.out.2.2];exact Hj.out)]
       have:=HS.out
       omega
      have Hn:Hid (∀ i,1≤i→i≤k+1→fitN (sideN a i) (sideN b i)):=fun i h1 h2=>by
       rcases Nat.lt_or_ge k i with h|h
       ·rw [show i=k+1 by omega]
        have:=HS.out
        unfold fitN
        omega
       ·exact Hx.out i h1 h
      obtain ⟨hown,hfz⟩:=HR.out.cell (by rw [rowB_len];exact HL.out.2) j hjm
      have H2:Hid (OwnK .i64 3 (wr.setCell ⟨w0.heap.size,j,none⟩ (.int .i64 (x))) w0.heap.size (.slice (some ⟨w0.heap.size,0,none⟩) na na) (rowB L (k+1))):=by
       have:=HR.out.store (by rw [rowB_len];exact HL.out.2) j (x)
       rw [HZ.out,rowB_set L j k (by rw [HL.out.2];exact Hj.out)] at this
       rw [HZ.out]
       exact this
      have HB2:Hid (Below w0.heap.size w0 (wr.setCell ⟨w0.heap.size,j,none⟩ (.int .i64 (x)))):=hB.out.setCell (p:=⟨w0.heap.size,j,none⟩) (Nat.le_refl _) _
      clear Hx
      go_wp2
      go_roundg (na - (k+1))
      case measure=>omega
      case rel=>exact ⟨k+1,by omega,rfl,by first|rfl|simp,Hn,H2,HB2⟩
   ·omega
  ·obtain rfl:k=na:=by omega
   have hfin:=HR.out
   rw [← HL.out.2,rowB_full,HL.out.2] at hfin
   have HF:Hid (OwnK .i64 3 wr w0.heap.size (.slice (some ⟨w0.heap.size,0,none⟩) k k) L∧Below w0.heap.size w0 wr):=⟨hfin,hB.out⟩
   have hfits:fitsN a b:=fun i h1 h2=>Hx.out i h1 (by rw [HG.out.2.2] at h2;exact h2)
   have cg:=rgood_any _ L (by rw [← HL.out.1];exact RI_join HG.out.1 HG.out.2.1) wr hfin.nums
   rw [← HL.out.1,ntl_itl] at cg
   by_cases hgj:goodN (joinN a b)
   ·rw [decide_eq_true hgj] at cg
    have hX:=join_fine HG.out.1 HG.out.2.1 hfits hgj
    rw [HX.out.1,HX.out.2,HL.out.1] at hX
    obtain ⟨rfl,rfl⟩:=hX
    clear hfin hfits hgj Hx
    go_wp2_with fail
    refine cg.mono ?_
    rintro e w5 ⟨rfl,rfl⟩
    go_wp2
    go_ret2
    exact ⟨_,rfl,HF.out⟩
   ·rw [decide_eq_false hgj] at cg
    have hX:=join_great HG.out.1 HG.out.2.1 hfits hgj
    rw [HX.out.1,HX.out.2] at hX
    obtain ⟨rfl,rfl⟩:=hX
    clear hfin hfits hgj Hx
    go_wp2_with fail
    refine cg.mono ?_
    rintro e w5 ⟨rfl,rfl⟩
    go_wp2
    go_ret2
    exact ⟨_,rfl,OwnK.nil _ _ _ _,HF.out.2⟩
theorem rjoin_b (p p2:Option Addr) (na nb c c2:Nat) (a b:List Nat) (ha:goodN a) (hb:goodN b) (hab:na < nb) (w:World) (hu:Nums .i64 w (.slice p na c) (itl a)) (hv:Nums .i64 w (.slice p2 nb c2) (itl b)) (ca:Calls Tryz.prog 47 #[.slice p na c] w fun e w'=>e = .returned (.bool true)∧w'=w) (cb:Calls Tryz.prog 47 #[.slice p2 nb c2] w fun e w'=>e = .returned (.bool true)∧w'=w):
  Calls Tryz.prog 68 #[.slice p na c,.slice p2 nb c2] w fun e w'=>∃ v',e = .returned (.tuple #[v',.int .i64 (joinE (itl a) (itl b))])∧OwnK .i64 3 w' w.heap.size v' (joinL (itl a) (itl b))∧Below w.heap.size w w':=by
 have HA:Hid (Lst w p na (itl a)∧a.length=na):=by
  obtain ⟨p',n',c',e,h⟩:=hu.lst
  cases e
  exact ⟨h.out,by rw [← itl_len a];exact h.out.1⟩
 have HB:Hid (Lst w p2 nb (itl b)∧b.length=nb):=by
  obtain ⟨p',n',c',e,h⟩:=hv.lst
  cases e
  exact ⟨h.out,by rw [← itl_len b];exact h.out.1⟩
 have hn1:na≤4:=by rw [← HA.out.2];exact ha.1
 have hn2:nb≤4:=by rw [← HB.out.2];exact hb.1
 have habI:(na:Int) < (nb:Int):=by omega
 have HG:Hid (goodN a∧goodN b∧max a.length b.length=nb):=⟨ha,hb,by rw [HA.out.2,HB.out.2];omega⟩
 obtain ⟨L,eL⟩:∃ L,itl (joinN a b)=L:=⟨_,rfl⟩
 have HL:Hid (itl (joinN a b)=L∧L.length=nb):=⟨eL,by rw [← eL,itl_len,joinN_len];exact HG.out.2.2⟩
 obtain ⟨X,eX⟩:∃ X,joinL (itl a) (itl b)=X:=⟨_,rfl⟩
 obtain ⟨E,eE⟩:∃ E,joinE (itl a) (itl b)=E:=⟨_,rfl⟩
 have HX:Hid (joinL (itl a) (itl b)=X∧joinE (itl a) (itl b)=E):=⟨eX,eE⟩
 rw [eX,eE]
 clear ha hb eL eX eE hu hv
 go_enter Tryz.func68,Tryz.ntmps68
 go_wp2_with fail
 refine ca.mono ?_
 rintro e w0 ⟨rfl,rfl⟩
 clear ca
 go_wp2_with fail
 refine cb.mono ?_
 rintro e w0 ⟨rfl,rfl⟩
 clear cb
 go_wp2_with (at_make;refine wpList_makeK numT (by decide) _ rfl (.tmp 27) (.tmp 27) rfl .i64 .i64 nb nb nb rfl rfl rfl rfl (by omega) w0.heap.size w0 (Nat.le_refl _) (Below.refl _ _) ?_;intro w1 HO B0 B1;clear B0)
 rw [← HL.out.2,← rowB_zero L,HL.out.2] at HO
 go_loopg [8] nb (fun gg v wr=>∃ (k:Nat),k≤nb∧gg=nb - k∧v = .int .i64 ((k:Int)+1)∧Hid (∀ i,1≤i→i≤k→fitN (sideN a i) (sideN b i))∧Hid (OwnK .i64 3 wr w0.heap.size (.slice (some ⟨w0.heap.size,0,none⟩) nb nb) (rowB L k))∧Hid (Below w0.heap.size w0 wr))
 case atStart=>exact ⟨0,by omega,by omega,by first|rfl|simp,fun i h1 h2=>by omega,HO,B1⟩
 case round=>
  obtain ⟨k,hk,hg,rfl,Hx,HR,hB⟩:=hrel
  by_cases hkn:k < nb
  ·have hkn':(k:Int)+1≤(nb:Int):=by omega
   obtain ⟨j,hj⟩:∃ j,j=nb - 1 - k:=⟨_,rfl⟩
   have hjm:j < nb:=by omega
   have hjk:(nb:Int) - ((k:Int)+1)=(j:Int):=by omega
   have hjn:(j:Int) < (nb:Int):=by omega
   have Hj:Hid (j+k+1=nb):=by show _=_;omega
   clear hj
   by_cases hka:k < na
   ·have hka':(k:Int)+1≤(na:Int):=by omega
    obtain ⟨ja,hja⟩:∃ ja,ja=na - (k+1):=⟨_,rfl⟩
    have hjaI:(na:Int) - ((k:Int)+1)=(ja:Int):=by omega
    have hjan:(ja:Int) < (na:Int):=by omega
    obtain ⟨qa,oa,rfl,ca⟩:=(HA.out.1.up hB.out).2 ja (by omega)
    have sa:=side_at a (k+1) (by omega) (by have:=HA.out.2;omega)
    rw [HA.out.2,← hja] at sa
    have ra:=side_rng HG.out.1 (k+1)
    obtain ⟨x,ea⟩:∃ z:Int,((sideN a (k+1):Nat):Int)=z:=⟨_,rfl⟩
    rw [sa,ea] at ca
    have har:1≤x∧x≤4096:=by omega
    clear sa ra hja
    by_cases hkb:k < nb
    ·have hkb':(k:Int)+1≤(nb:Int):=by omega
     obtain ⟨qb,ob,rfl,cb⟩:=(HB.out.1.up hB.out).2 j (by omega)
     have sb:=side_at b (k+1) (by omega) (by have:=HB.out.2;omega)
     rw [HB.out.2,show nb - (k+1)=j by have:=Hj.out;omega] at sb
     have rb:=side_rng HG.out.2.1 (k+1)
     obtain ⟨y,eb⟩:∃ z:Int,((sideN b (k+1):Nat):Int)=z:=⟨_,rfl⟩
     rw [sb,eb] at cb
     have hbr:1≤y∧y≤4096:=by omega
     clear sb rb
     have HS:Hid (((sideN a (k+1):Nat):Int)=x∧((sideN b (k+1):Nat):Int)=y∧1≤x∧1≤y):=⟨ea,eb,har.1,hbr.1⟩
     clear ea eb
     by_cases hxy:x=y
     ·subst hxy
      have HZ:Hid (x=L.getD j 0):=by
       show _=_
       rw [← HL.out.1,join_at a b j k (by rw [HG.out.2.2];exact Hj.out)]
       have:=HS.out
       omega
      have Hn:Hid (∀ i,1≤i→i≤k+1→fitN (sideN a i) (sideN b i)):=fun i h1 h2=>by
       rcases Nat.lt_or_ge k i with h|h
       ·rw [show i=k+1 by omega]
        have:=HS.out
        unfold fitN
        omega
       ·exact Hx.out i h1 h
      obtain ⟨hown,hfz⟩:=HR.out.cell (by rw [rowB_len];exact HL.out.2) j hjm
      have H2:Hid (OwnK .i64 3 (wr.setCell ⟨w0.heap.size,j,none⟩ (.int .i64 (x))) w0.heap.size (.slice (some ⟨w0.heap.size,0,none⟩) nb nb) (rowB L (k+1))):=by
       have:=HR.out.store (by rw [rowB_len];exact HL.out.2) j (x)
       rw [HZ.out,rowB_set L j k (by rw [HL.out.2];exact Hj.out)] at this
       rw [HZ.out]
       exact this
      have HB2:Hid (Below w0.heap.size w0 (wr.setCell ⟨w0.heap.size,j,none⟩ (.int .i64 (x)))):=hB.out.setCell (p:=⟨w0.heap.size,j,none⟩) (Nat.le_refl _) _
      clear Hx
      go_wp2
      go_roundg (nb - (k+1))
      case measure=>omega
      case rel=>exact ⟨k+1,by omega,rfl,by first|rfl|simp,Hn,H2,HB2⟩
     have hxy':(x != y)=true:=by simp [hxy]
     by_cases hx1:x=1
     ·subst hx1
      have hy1:1 < y:=by omega
      have hy1':¬ y=1:=by omega
      have HZ:Hid (y=L.getD j 0):=by
       show _=_
       rw [← HL.out.1,join_at a b j k (by rw [HG.out.2.2];exact Hj.out)]
       have:=HS.out
       omega
      have Hn:Hid (∀ i,1≤i→i≤k+1→fitN (sideN a i) (sideN b i)):=fun i h1 h2=>by
       rcases Nat.lt_or_ge k i with h|h
       ·rw [show i=k+1 by omega]
        have:=HS.out
        unfold fitN
        omega
       ·exact Hx.out i h1 h
      obtain ⟨hown,hfz⟩:=HR.out.cell (by rw [rowB_len];exact HL.out.2) j hjm
      have H2:Hid (OwnK .i64 3 (wr.setCell ⟨w0.heap.size,j,none⟩ (.int .i64 (y))) w0.heap.size (.slice (some ⟨w0.heap.size,0,none⟩) nb nb) (rowB L (k+1))):=by
       have:=HR.out.store (by rw [rowB_len];exact HL.out.2) j (y)
       rw [HZ.out,rowB_set L j k (by rw [HL.out.2];exact Hj.out)] at this
       rw [HZ.out]
       exact this
      have HB2:Hid (Below w0.heap.size w0 (wr.setCell ⟨w0.heap.size,j,none⟩ (.int .i64 (y)))):=hB.out.setCell (p:=⟨w0.heap.size,j,none⟩) (Nat.le_refl _) _
      clear Hx
      go_wp2
      go_roundg (nb - (k+1))
      case measure=>omega
      case rel=>exact ⟨k+1,by omega,rfl,by first|rfl|simp,Hn,H2,HB2⟩
     have hx1':(x != 1)=true:=by simp [hx1]
     by_cases hy1:y=1
     ·subst hy1
      have hx2:¬ x < 1:=by omega
      have hx3:1 < x:=by omega
      have HZ:Hid (x=L.getD j 0):=by
       show _=_
       rw [← HL.out.1,join_at a b j k (by rw [HG.out.2.2];exact Hj.out)]
       have:=HS.out
       omega
      have Hn:Hid (∀ i,1≤i→i≤k+1→fitN (sideN a i) (sideN b i)):=fun i h1 h2=>by
       rcases Nat.lt_or_ge k i with h|h
       ·rw [show i=k+1 by omega]
        have:=HS.out
        unfold fitN
        omega
       ·exact Hx.out i h1 h
      obtain ⟨hown,hfz⟩:=HR.out.cell (by rw [rowB_len];exact HL.out.2) j hjm
      have H2:Hid (OwnK .i64 3 (wr.setCell ⟨w0.heap.size,j,none⟩ (.int .i64 (x))) w0.heap.size (.slice (some ⟨w0.heap.size,0,none⟩) nb nb) (rowB L (k+1))):=by
       have:=HR.out.store (by rw [rowB_len];exact HL.out.2) j (x)
       rw [HZ.out,rowB_set L j k (by rw [HL.out.2];exact Hj.out)] at this
       rw [HZ.out]
       exact this
      have HB2:Hid (Below w0.heap.size w0 (wr.setCell ⟨w0.heap.size,j,none⟩ (.int .i64 (x)))):=hB.out.setCell (p:=⟨w0.heap.size,j,none⟩) (Nat.le_refl _) _
      clear Hx
      go_wp2
      go_roundg (nb - (k+1))
      case measure=>omega
      case rel=>exact ⟨k+1,by omega,rfl,by first|rfl|simp,Hn,H2,HB2⟩
     have hy1':(y != 1)=true:=by simp [hy1]
     have hX:=join_unlike HG.out.1 HG.out.2.1 (fun h=>by
      have h1:=h (k+1) (by omega) (by rw [HG.out.2.2];omega)
      have:=HS.out
      unfold fitN at h1
      omega)
     rw [HX.out.1,HX.out.2] at hX
     obtain ⟨rfl,rfl⟩:=hX
     clear Hx
     go_wp2
     go_ret2
     exact ⟨_,rfl,OwnK.nil _ _ _ _,hB.out⟩
    ·omega
   ·have hka':(na:Int) < (k:Int)+1:=by omega
    have hkb:k < nb:=by omega
    have hkb':(k:Int)+1≤(nb:Int):=by omega
    have ea:((sideN a (k+1):Nat):Int)=1:=by rw [sideN_far a (k+1) (by have:=HA.out.2;omega)];rfl
    obtain ⟨qb,ob,rfl,cb⟩:=(HB.out.1.up hB.out).2 j (by omega)
    have sb:=side_at b (k+1) (by omega) (by have:=HB.out.2;omega)
    rw [HB.out.2,show nb - (k+1)=j by have:=Hj.out;omega] at sb
    have rb:=side_rng HG.out.2.1 (k+1)
    obtain ⟨y,eb⟩:∃ z:Int,((sideN b (k+1):Nat):Int)=z:=⟨_,rfl⟩
    rw [sb,eb] at cb
    have hbr:1≤y∧y≤4096:=by omega
    clear sb rb
    have HS:Hid (((sideN a (k+1):Nat):Int)=1∧((sideN b (k+1):Nat):Int)=y∧(1:Int)≤1∧1≤y):=⟨ea,eb,by omega,hbr.1⟩
    clear ea eb
    by_cases hxy:y=1
    ·subst hxy
     have HZ:Hid (1=L.getD j 0):=by
      show _=_
      rw [← HL.out.1,join_at a b j k (by rw [HG.out.2.2];exact Hj.out)]
      have:=HS.out
      omega
     have Hn:Hid (∀ i,1≤i→i≤k+1→fitN (sideN a i) (sideN b i)):=fun i h1 h2=>by
      rcases Nat.lt_or_ge k i with h|h
      ·rw [show i=k+1 by omega]
       have:=HS.out
       unfold fitN
       omega
      ·exact Hx.out i h1 h
     obtain ⟨hown,hfz⟩:=HR.out.cell (by rw [rowB_len];exact HL.out.2) j hjm
     have H2:Hid (OwnK .i64 3 (wr.setCell ⟨w0.heap.size,j,none⟩ (.int .i64 (1))) w0.heap.size (.slice (some ⟨w0.heap.size,0,none⟩) nb nb) (rowB L (k+1))):=by
      have:=HR.out.store (by rw [rowB_len];exact HL.out.2) j (1)
      rw [HZ.out,rowB_set L j k (by rw [HL.out.2];exact Hj.out)] at this
      rw [HZ.out]
      exact this
     have HB2:Hid (Below w0.heap.size w0 (wr.setCell ⟨w0.heap.size,j,none⟩ (.int .i64 (1)))):=hB.out.setCell (p:=⟨w0.heap.size,j,none⟩) (Nat.le_refl _) _
     clear Hx
     go_wp2
     go_roundg (nb - (k+1))
     case measure=>omega
     case rel=>exact ⟨k+1,by omega,rfl,by first|rfl|simp,Hn,H2,HB2⟩
    ·have hxy':(1 != y)=true:=by simp;omega
     have hxy2:¬ (1=y):=by omega
     have hy3:1 < y:=by omega
     have HZ:Hid (y=L.getD j 0):=by
      show _=_
      rw [← HL.out.1,join_at a b j k (by rw [HG.out.2.2];exact Hj.out)]
      have:=HS.out
      omega
     have Hn:Hid (∀ i,1≤i→i≤k+1→fitN (sideN a i) (sideN b i)):=fun i h1 h2=>by
      rcases Nat.lt_or_ge k i with h|h
      ·rw [show i=k+1 by omega]
       have:=HS.out
       unfold fitN
       omega
      ·exact Hx.out i h1 h
     obtain ⟨hown,hfz⟩:=HR.out.cell (by rw [rowB_len];exact HL.out.2) j hjm
     have H2:Hid (OwnK .i64 3 (wr.setCell ⟨w0.heap.size,j,none⟩ (.int .i64 (y))) w0.heap.size (.slice (some ⟨w0.heap.size,0,none⟩) nb nb) (rowB L (k+1))):=by
      have:=HR.out.store (by rw [rowB_len];exact HL.out.2) j (y)
      rw [HZ.out,rowB_set L j k (by rw [HL.out.2];exact Hj.out)] at this
      rw [HZ.out]
      exact this
     have HB2:Hid (Below w0.heap.size w0 (wr.setCell ⟨w0.heap.size,j,none⟩ (.int .i64 (y)))):=hB.out.setCell (p:=⟨w0.heap.size,j,none⟩) (Nat.le_refl _) _
     clear Hx
     go_wp2
     go_roundg (nb - (k+1))
     case measure=>omega
     case rel=>exact ⟨k+1,by omega,rfl,by first|rfl|simp,Hn,H2,HB2⟩
  ·obtain rfl:k=nb:=by omega
   have hfin:=HR.out
   rw [← HL.out.2,rowB_full,HL.out.2] at hfin
   have HF:Hid (OwnK .i64 3 wr w0.heap.size (.slice (some ⟨w0.heap.size,0,none⟩) k k) L∧Below w0.heap.size w0 wr):=⟨hfin,hB.out⟩
   have hfits:fitsN a b:=fun i h1 h2=>Hx.out i h1 (by rw [HG.out.2.2] at h2;exact h2)
   have cg:=rgood_any _ L (by rw [← HL.out.1];exact RI_join HG.out.1 HG.out.2.1) wr hfin.nums
   rw [← HL.out.1,ntl_itl] at cg
   by_cases hgj:goodN (joinN a b)
   ·rw [decide_eq_true hgj] at cg
    have hX:=join_fine HG.out.1 HG.out.2.1 hfits hgj
    rw [HX.out.1,HX.out.2,HL.out.1] at hX
    obtain ⟨rfl,rfl⟩:=hX
    clear hfin hfits hgj Hx
    go_wp2_with fail
    refine cg.mono ?_
    rintro e w5 ⟨rfl,rfl⟩
    go_wp2
    go_ret2
    exact ⟨_,rfl,HF.out⟩
   ·rw [decide_eq_false hgj] at cg
    have hX:=join_great HG.out.1 HG.out.2.1 hfits hgj
    rw [HX.out.1,HX.out.2] at hX
    obtain ⟨rfl,rfl⟩:=hX
    clear hfin hfits hgj Hx
    go_wp2_with fail
    refine cg.mono ?_
    rintro e w5 ⟨rfl,rfl⟩
    go_wp2
    go_ret2
    exact ⟨_,rfl,OwnK.nil _ _ _ _,HF.out.2⟩
theorem rjoin_any (u v:Value) (a b:List Int) (ha:RI a) (hb:RI b) (w:World) (hu:Nums .i64 w u a) (hv:Nums .i64 w v b):
  Calls Tryz.prog 68 #[u,v] w fun e w'=>∃ v',e = .returned (.tuple #[v',.int .i64 (joinE a b)])∧OwnK .i64 3 w' w.heap.size v' (joinL a b)∧Below w.heap.size w w':=by
 have ca:=rgood_any u a ha w hu
 have cb:=rgood_any v b hb w hv
 obtain ⟨p,n,c,rfl,HA⟩:=hu.lst
 obtain ⟨p2,n2,c2,rfl,HB⟩:=hv.lst
 by_cases hga:goodN (ntl a)
 ·rw [decide_eq_true hga] at ca
  by_cases hgb:goodN (ntl b)
  ·rw [decide_eq_true hgb] at cb
   obtain ⟨a,ha',rfl⟩:=good_itl hga
   obtain ⟨b,hb',rfl⟩:=good_itl hgb
   rcases Nat.lt_or_ge n n2 with h|h
   ·exact rjoin_b p p2 n n2 c c2 a b ha' hb' h w hu hv ca cb
   ·exact rjoin_a p p2 n n2 c c2 a b ha' hb' h w hu hv ca cb
  ·rw [decide_eq_false hgb] at cb
   obtain ⟨e1,e2⟩:=join_none (a:=a) (b:=b) fun h=>hgb h.2
   rw [e1,e2]
   clear e1 e2 hga hgb hu hv
   go_enter Tryz.func68,Tryz.ntmps68
   go_wp2_with fail
   refine ca.mono ?_
   rintro e w0 ⟨rfl,rfl⟩
   go_wp2_with fail
   refine cb.mono ?_
   rintro e w0 ⟨rfl,rfl⟩
   go_wp2
   go_ret2
   exact ⟨_,rfl,OwnK.nil _ _ _ _,Below.refl _ _⟩
 ·rw [decide_eq_false hga] at ca
  obtain ⟨e1,e2⟩:=join_none (a:=a) (b:=b) fun h=>hga h.1
  rw [e1,e2]
  clear e1 e2 hga hu hv
  go_enter Tryz.func68,Tryz.ntmps68
  go_wp2_with fail
  refine ca.mono ?_
  rintro e w0 ⟨rfl,rfl⟩
  go_wp2
  go_ret2
  exact ⟨_,rfl,OwnK.nil _ _ _ _,Below.refl _ _⟩
theorem rfrom_any (u v:Value) (d big:List Int) (hd:RI d) (hb:RI big) (a:Int) (w:World) (hu:Nums .i64 w u d) (hv:Nums .i64 w v big):
  Calls Tryz.prog 69 #[u,v,.int .i64 a] w fun e w'=>e = .returned (.tuple #[.int .i64 (fromI d big a),.bool (fromB d big a)])∧Below w.heap.size w w':=by
 have cj:=rjoin_any u v d big hd hb w hu hv
 have HU:Hid (Nums .i64 w u d):=hu
 have HV:Hid (Nums .i64 w v big):=hv
 have HR:Hid (RI d∧RI big):=⟨hd,hb⟩
 have hE:=joinE_rng d big
 obtain ⟨E,eE⟩:∃ E,joinE d big=E:=⟨_,rfl⟩
 have HE:Hid (joinE d big=E):=eE
 rw [eE] at cj hE
 obtain ⟨RF,eF⟩:∃ RF,fromI d big a=RF:=⟨_,rfl⟩
 obtain ⟨RB,eB⟩:∃ RB,fromB d big a=RB:=⟨_,rfl⟩
 have HT:Hid (fromI d big a=RF∧fromB d big a=RB):=⟨eF,eB⟩
 rw [eF,eB]
 obtain ⟨p2,m,c2,rfl,HB⟩:=hv.lst
 obtain ⟨p,n,c,rfl,HA⟩:=hu.lst
 clear hu hv hd hb eE eF eB
 go_enter Tryz.func69,Tryz.ntmps69
 go_wp2_with fail
 refine cj.mono ?_
 rintro e w1 ⟨v1,rfl,hown,hB1⟩
 have HO:Hid (OwnK .i64 3 w1 w.heap.size v1 (joinL d big)∧Below w.heap.size w w1):=⟨hown,hB1⟩
 clear hown hB1 cj
 by_cases hE0:E=0
 ·subst hE0
  have cs:=rsame_any v1 (.slice p2 m c2) (joinL d big) big (by have:=joinL_len d big;omega) w1 HO.out.1.nums (HV.out.up HO.out.2)
  go_wp2_with fail
  refine cs.mono ?_
  rintro e w2 ⟨rfl,nn,hw2⟩
  have hB2:Below w.heap.size w w2:=by rw [hw2];exact below_drew HO.out.2 nn
  have HB2:Hid (Below w.heap.size w w2):=hB2
  clear cs hw2 hB2
  by_cases hsame:joinL d big=big
  ·rw [decide_eq_true hsame]
   have cp:=rplace_any (.slice p2 m c2) big HR.out.2 a w2 (HV.out.up HB2.out)
   by_cases hin:0≤a∧a < ((sizeN (ntl big):Nat):Int)
   ·rw [decide_eq_true hin] at cp
    have eP:placeI big a=itl (placeN (ntl big) a.toNat):=if_pos hin
    rw [eP] at cp
    obtain ⟨x,y,a',rfl,rfl,haa,hx,hy,hf,hj,ha,hyes,hval⟩:=from_yes (d:=d) (big:=big) (a:=a) ⟨HE.out,hsame,hin⟩
    have hxn:x.length=n:=by rw [← itl_len x];exact HA.out.1
    have hym:y.length=m:=by rw [← itl_len y];exact HB.out.1
    have hnm:n≤m:=by rw [← hxn,← hym];exact join_le hj
    have hn:n≤4:=by rw [← hxn];exact hx.1
    have hm:m≤4:=by rw [← hym];exact hy.1
    have HX:Hid (goodN x∧goodN y∧x.length=n∧y.length=m):=⟨hx,hy,hxn,hym⟩
    obtain ⟨Q,eQ⟩:∃ Q,qN x y a'=Q:=⟨_,rfl⟩
    obtain ⟨PL,ePL⟩:∃ PL,itl (placeN y a')=PL:=⟨_,rfl⟩
    have HQ:Hid (Inside x Q∧∀ i,i < n→((Q.getD i 0:Nat):Int)=if ((x.getD i 0:Nat):Int)=1 then 0 else PL.getD (m - n+i) 0):=by
     refine ⟨by rw [← eQ];exact qN_inside hx hy hf hj a' ha,fun i hi=>?_⟩
     rw [← eQ,← ePL,qN_pick (join_le hj) a' i (by omega),hxn,hym]
    have HRR:Hid (gK x Q n=RF∧RB=true):=by
     refine ⟨?_,?_⟩
     ·rw [← HT.out.1,hval,← eQ]
      unfold gK
      rw [← hxn,hornK_from x y a' (join_le hj)]
     ·rw [← HT.out.2,hyes]
    rw [ntl_itl,haa,Int.toNat_natCast,ePL,← haa] at cp
    have HPL:Hid (PL.length=m):=by show _=_;rw [← ePL,itl_len,placeN_len];exact hym
    clear hsame eP haa eQ ePL hx hy hf hj ha hxn hym hyes hval HE HO HB HT hin
    go_wp2_with fail
    refine cp.mono ?_
    rintro e w3 ⟨v3,rfl,ho3,hB3⟩
    clear cp
    obtain ⟨p3,m3,c3,rfl,HP⟩:=ho3.nums.lst
    have hm3:PL.length=m3:=HP.out.1
    have hB4:Below w.heap.size w w3:=HB2.out.trans (hB3.mono HB2.out.size)
    have HB4:Hid (Below w.heap.size w w3):=hB4
    have hnmI:(m:Int) - (n:Int)=((m - n:Nat):Int):=by omega
    clear ho3 hB3 hB4
    obtain rfl:m3=m:=by rw [← hm3];exact HPL.out
    clear hm3
    go_wp2_with fail
    go_loopg [12,13] n (fun gg f b wr=>∃ (k:Nat) (F:Int),k≤n∧gg=n - k∧f = .int .i64 F∧b = .int .i64 (k:Int)∧Hid (F=gK x Q k)∧wr=w3)
    case atStart=>exact ⟨0,0,by omega,by omega,rfl,by first|rfl|simp,rfl,rfl⟩
    case round=>
     obtain ⟨k,F,hk,hg,rfl,rfl,HK,rfl⟩:=hrel
     by_cases hkn:k < n
     ·have hkn':(k:Int) < (n:Int):=by omega
      obtain ⟨q,o,rfl,ca⟩:=(HA.out.up HB4.out).2 k hkn
      obtain ⟨q3,o3,rfl,cb⟩:=HP.out.2 (m3 - n+k) (by omega)
      rw [itl_getD] at ca
      have e1:=HQ.out.2 k hkn
      have e2:=gK_succ x Q k
      have r0:=HX.out.1.at k (by rw [HX.out.2.2.1];exact hkn)
      have r1:=gK_rng HX.out.1 HQ.out.1 k (by rw [HX.out.2.2.1];omega)
      have r2:=gK_rng HX.out.1 HQ.out.1 (k+1) (by rw [HX.out.2.2.1];omega)
      rw [← HK.out] at e2 r1
      obtain ⟨X,eX⟩:∃ X:Int,((x.getD k 0:Nat):Int)=X:=⟨_,rfl⟩
      obtain ⟨Y,eY⟩:∃ Y:Int,PL.getD (m3 - n+k) 0=Y:=⟨_,rfl⟩
      have hX:1≤X∧X≤4096:=by omega
      rw [eX] at ca e1 e2
      rw [eY] at cb e1
      rw [e1] at e2
      have hidx:((m3 - n:Nat):Int)+(k:Int)=((m3 - n+k:Nat):Int):=by omega
      obtain ⟨jj,ejj⟩:∃ jj,m3 - n+k=jj:=⟨_,rfl⟩
      rw [ejj] at hidx cb
      have hjj:(jj:Int) < (m3:Int):=by omega
      have hq0:(0:Int)≤((Q.getD k 0:Nat):Int):=by omega
      rw [e1] at hq0
      have h3:=mul_small F X r1.1 (by omega) (by omega) (by omega)
      obtain ⟨t3,et3⟩:∃ t,F*X=t:=⟨_,rfl⟩
      rw [et3] at h3 e2
      by_cases hX1:X=1
      ·subst hX1
       rw [if_pos rfl] at e2
       have HN:Hid (t3+0=gK x Q (k+1)):=e2.symm
       rw [e2] at r2
       have HN':Hid (t3=gK x Q (k+1)):=by show _=_;rw [e2,Int.add_zero]
       clear eX eY e1 e2 ejj
       go_wp2
       go_roundg (n - (k+1))
       case measure=>omega
       case rel=>exact ⟨k+1,t3,by omega,rfl,by first|rfl|simp [et3],by first|rfl|simp,HN',rfl⟩
      ·rw [if_neg hX1] at e2 hq0
       have hX1':(X==1)=false:=by simp [hX1]
       obtain ⟨t4,et4⟩:∃ t,t3+Y=t:=⟨_,rfl⟩
       rw [et4] at e2
       rw [e2] at r2
       have HN:Hid (t4=gK x Q (k+1)):=e2.symm
       clear eX eY e1 e2 ejj
       go_wp2
       go_roundg (n - (k+1))
       case measure=>omega
       case rel=>exact ⟨k+1,t4,by omega,rfl,by first|rfl|simp [et3,et4],by first|rfl|simp,HN,rfl⟩
     ·obtain rfl:k=n:=by omega
      go_wp2
      go_ret2
      exact ⟨ret_two (HK.out.trans HRR.out.1) HRR.out.2.symm,HB4.out⟩
   ·rw [decide_eq_false hin] at cp
    have HN:Hid (RB=false∧RF=0):=by have:=from_no (d:=d) (big:=big) (a:=a) (fun h=>hin h.2.2);rw [HT.out.1,HT.out.2] at this;exact this
    clear hsame hin
    go_wp2_with fail
    refine cp.mono ?_
    rintro e w3 ⟨v3,rfl,ho3,hB3⟩
    have hB4:Below w.heap.size w w3:=HB2.out.trans (hB3.mono HB2.out.size)
    have HB4:Hid (Below w.heap.size w w3):=hB4
    clear ho3 hB3 hB4 cp
    go_wp2
    go_ret2
    exact ⟨ret_two HN.out.2.symm HN.out.1.symm,HB4.out⟩
  ·rw [decide_eq_false hsame]
   have HN:Hid (RB=false∧RF=0):=by have:=from_no (d:=d) (big:=big) (a:=a) (fun h=>hsame h.2.1);rw [HT.out.1,HT.out.2] at this;exact this
   clear hsame
   go_wp2
   go_ret2
   exact ⟨ret_two HN.out.2.symm HN.out.1.symm,HB2.out⟩
 ·have HN:Hid (RB=false∧RF=0):=by have:=from_no (d:=d) (big:=big) (a:=a) (fun h=>hE0 (by rw [← HE.out];exact h.1));rw [HT.out.1,HT.out.2] at this;exact this
  have hE1:(E != 0)=true:=by simp [hE0]
  go_wp2
  go_ret2
  exact ⟨ret_two HN.out.2.symm HN.out.1.symm,HO.out.2⟩
theorem from_at {x y:List Nat} (hx:goodN x) (hy:goodN y) (hf:fitsN x y) (hj:joinN x y=y) (k:Nat) (hk:k < prodN y):fromI (itl x) (itl y) (k:Int)=((fromN x y k:Nat):Int)∧fromB (itl x) (itl y) (k:Int)=true:=by
 have hgj:goodN (joinN x y):=by rw [hj];exact hy
 obtain ⟨h1,h2⟩:=join_fine hx hy hf hgj
 have hb:fromB (itl x) (itl y) (k:Int)=true:=by
  unfold fromB
  refine decide_eq_true ⟨h2,by rw [h1,hj],by omega,?_⟩
  rw [ntl_itl,sizeN_good hy]
  omega
 refine ⟨?_,hb⟩
 unfold fromI
 rw [if_pos hb,ntl_itl,ntl_itl,Int.toNat_natCast]
end Go.Proofs.YtpdkkcnmgiihcaaGreatDoor.Wd
