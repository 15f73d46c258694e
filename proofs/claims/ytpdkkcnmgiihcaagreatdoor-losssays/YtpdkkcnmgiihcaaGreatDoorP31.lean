/- Tensors: what the reference's Each hands back. · The reference's numbers, by what they stand for: sums, products, rounding. · The reference's numbers, word by word: what From and Plus hand back, as one value each. · The reference's numbers, each call's value told ahead of the world; a number that lies in a block. -/
import Derived.Test.YtpdkkcnmgiihcaaGreatDoorP09
import Derived.Test.YtpdkkcnmgiihcaaGreatDoorP28
import Derived.Test.YtpdkkcnmgiihcaaGreatDoorP29
import Derived.Test.YtpdkkcnmgiihcaaGreatDoorP04
import Derived.Test.YtpdkkcnmgiihcaaGreatDoorP26
import Derived.Test.YtpdkkcnmgiihcaaGreatDoorP00
import Derived.Test.YtpdkkcnmgiihcaaGreatDoorP02
set_option linter.unusedVariables false
set_option linter.unusedSimpArgs false
set_option maxHeartbeats 16000000
set_option maxRecDepth 16000
namespace Go.Proofs.YtpdkkcnmgiihcaaGreatDoor.Wd
open Go.RowKit
theorem reach_no (o:Int) (f:Int→Int→Int) (p p2 p3 p5:Option Addr) (n c n2 c2 n3 c3 n5 c5:Nat) (d x d' y:List Int) (hd:RI d) (hx:RI x) (hd':RI d') (hy:RI y) (w:World) (h1:Nums .i64 w (.slice p n c) d) (h2:Nums .i64 w (.slice p2 n2 c2) x) (h3:Nums .i64 w (.slice p3 n3 c3) d') (h4:Nums .i64 w (.slice p5 n5 c5) y)
  (hno:¬ (isP d x∧isP d' y∧joinE d d'=0)):
  Calls Tryz.prog 40 #[.int .i64 o,.agg #[.slice p n c,.slice p2 n2 c2],.agg #[.slice p3 n3 c3,.slice p5 n5 c5]] w fun e w'=>∃ v',e = .returned (.tuple #[v',.int .i64 (eachE d x d' y)])∧TRes w' w.heap.size v' (eachD d x d' y) (eachV (f) d x d' y)∧Below w.heap.size w w':=by
 have cA:=fun W (hW:Below w.heap.size w W)=>ris_any _ _ d x hd W (h1.up hW) (h2.up hW)
 have cB:=fun W (hW:Below w.heap.size w W)=>ris_any _ _ d' y hd' W (h3.up hW) (h4.up hW)
 have cJ:=fun W (hW:Below w.heap.size w W)=>rjoin_any _ _ d d' hd hd' W (h1.up hW) (h3.up hW)
 by_cases ha:isP d x
 ·rw [decide_eq_true ha] at cA
  by_cases hb:isP d' y
  ·rw [decide_eq_true hb] at cB
   have hE:joinE d d'≠0:=fun h=>hno ⟨ha,hb,h⟩
   obtain ⟨e1,e2,e3⟩:=each_bad (op:=f) ⟨ha,hb⟩ hE
   rw [e1,e2,e3]
   obtain ⟨E,eE⟩:∃ E,joinE d d'=E:=⟨_,rfl⟩
   obtain ⟨JL,eJ⟩:∃ JL,joinL d d'=JL:=⟨_,rfl⟩
   rw [eE] at hE cJ ⊢
   rw [eJ] at cJ
   have hE':(E != 0)=true:=by simp [hE]
   clear eE eJ e1 e2 e3 ha hb hno h1 h2 h3 h4 hd hx hd' hy
   go_enter Tryz.func40,Tryz.ntmps40
   go_wp2_with fail
   generalize hW0:World.alloc _ _=W0
   have HB0:=hidB (w:=w) hW0 (by go_grown)
   have XA:Hid (Cel W0 w.heap.size (.slice p n c) (.slice p2 n2 c2)):=celW hW0 (by simp [go_sem])
   have XB:Hid (Cel W0 (w.heap.size+1) (.slice p3 n3 c3) (.slice p5 n5 c5)):=celW hW0 (by simp [go_sem])
   have XR:Hid (Cel W0 (w.heap.size+2) (.slice none 0 0) (.slice none 0 0)):=celW hW0 (by simp [go_sem])
   clear hW0
   refine (cA W0 HB0.out).mono ?_
   rintro e w1 ⟨rfl,hB1⟩
   have HB1:=hid2 (bstep HB0.out hB1) hB1
   clear hB1
   obtain ⟨b0,b1,_,_⟩:=XB.out.up HB1.out.2
   go_wp2_with fail
   refine (cB w1 HB1.out.1).mono ?_
   rintro e w2 ⟨rfl,hB2⟩
   have HB2:=hid2 (bstep HB1.out.1 hB2) (bstep HB1.out.2 hB2)
   clear hB2 b0 b1
   obtain ⟨a0,a1,_,_⟩:=XA.out.up HB2.out.2
   obtain ⟨b0,b1,_,_⟩:=XB.out.up HB2.out.2
   go_wp2_with fail
   refine (cJ w2 HB2.out.1).mono ?_
   rintro e w3 ⟨vj,rfl,hO3,hB3⟩
   have HB3:=hid2 (bstep HB2.out.1 hB3) (bstep HB2.out.2 hB3)
   have HO3:Hid (OwnK .i64 3 w3 w2.heap.size vj JL):=hO3
   clear hB3 hO3 a0 a1 b0 b1
   have xr:=(XR.out.up HB3.out.2)
   have BF:=below_cell (HB3.out.1) (w.heap.size+2) (by omega) (.slice none 0 0) (.slice none 0 0)
   have cf:=xr.set (.slice none 0 0) (.slice none 0 0)
   obtain ⟨r0,r1,r2,r3⟩:=xr
   obtain ⟨y0,y1,_,_⟩:=cf
   go_wp2
   exact bodyPost_ret (v:=.tuple #[.agg #[.slice none 0 0,.slice none 0 0],.int .i64 E]) (by simp [results,Tryz.results40,go_sem,y0,y1]) rfl ⟨_,rfl,TRes.none _ _,BF⟩
  ·rw [decide_eq_false hb] at cB
   obtain ⟨e1,e2,e3⟩:=each_none (op:=f) (d:=d) (x:=x) (d':=d') (y:=y) fun h=>hb h.2
   rw [e1,e2,e3]
   clear e1 e2 e3 ha hb hno h1 h2 h3 h4 hd hx hd' hy cJ
   go_enter Tryz.func40,Tryz.ntmps40
   go_wp2_with fail
   generalize hW0:World.alloc _ _=W0
   have HB0:=hidB (w:=w) hW0 (by go_grown)
   have XA:Hid (Cel W0 w.heap.size (.slice p n c) (.slice p2 n2 c2)):=celW hW0 (by simp [go_sem])
   have XB:Hid (Cel W0 (w.heap.size+1) (.slice p3 n3 c3) (.slice p5 n5 c5)):=celW hW0 (by simp [go_sem])
   have XR:Hid (Cel W0 (w.heap.size+2) (.slice none 0 0) (.slice none 0 0)):=celW hW0 (by simp [go_sem])
   clear hW0
   refine (cA W0 HB0.out).mono ?_
   rintro e w1 ⟨rfl,hB1⟩
   have HB1:=hid2 (bstep HB0.out hB1) hB1
   clear hB1
   obtain ⟨b0,b1,_,_⟩:=XB.out.up HB1.out.2
   go_wp2_with fail
   refine (cB w1 HB1.out.1).mono ?_
   rintro e w2 ⟨rfl,hB2⟩
   have HB2:=hid2 (bstep HB1.out.1 hB2) (bstep HB1.out.2 hB2)
   clear hB2 b0 b1
   have xr:=(XR.out.up HB2.out.2)
   have BF:=below_cell (HB2.out.1) (w.heap.size+2) (by omega) (.slice none 0 0) (.slice none 0 0)
   have cf:=xr.set (.slice none 0 0) (.slice none 0 0)
   obtain ⟨r0,r1,r2,r3⟩:=xr
   obtain ⟨y0,y1,_,_⟩:=cf
   go_wp2
   exact bodyPost_ret (v:=.tuple #[.agg #[.slice none 0 0,.slice none 0 0],.int .i64 1]) (by simp [results,Tryz.results40,go_sem,y0,y1]) rfl ⟨_,rfl,TRes.none _ _,BF⟩
 ·rw [decide_eq_false ha] at cA
  obtain ⟨e1,e2,e3⟩:=each_none (op:=f) (d:=d) (x:=x) (d':=d') (y:=y) fun h=>ha h.1
  rw [e1,e2,e3]
  clear e1 e2 e3 ha hno h1 h2 h3 h4 hd hx hd' hy cJ cB
  go_enter Tryz.func40,Tryz.ntmps40
  go_wp2_with fail
  generalize hW0:World.alloc _ _=W0
  have HB0:=hidB (w:=w) hW0 (by go_grown)
  have XA:Hid (Cel W0 w.heap.size (.slice p n c) (.slice p2 n2 c2)):=celW hW0 (by simp [go_sem])
  have XB:Hid (Cel W0 (w.heap.size+1) (.slice p3 n3 c3) (.slice p5 n5 c5)):=celW hW0 (by simp [go_sem])
  have XR:Hid (Cel W0 (w.heap.size+2) (.slice none 0 0) (.slice none 0 0)):=celW hW0 (by simp [go_sem])
  clear hW0
  refine (cA W0 HB0.out).mono ?_
  rintro e w1 ⟨rfl,hB1⟩
  have HB1:=hid2 (bstep HB0.out hB1) hB1
  clear hB1
  have xr:=(XR.out.up HB1.out.2)
  have BF:=below_cell (HB1.out.1) (w.heap.size+2) (by omega) (.slice none 0 0) (.slice none 0 0)
  have cf:=xr.set (.slice none 0 0) (.slice none 0 0)
  obtain ⟨r0,r1,r2,r3⟩:=xr
  obtain ⟨y0,y1,_,_⟩:=cf
  go_wp2
  exact bodyPost_ret (v:=.tuple #[.agg #[.slice none 0 0,.slice none 0 0],.int .i64 1]) (by simp [results,Tryz.results40,go_sem,y0,y1]) rfl ⟨_,rfl,TRes.none _ _,BF⟩
theorem reach_yes (o:Int) (f:Int→Int→Int) (K:FuncId) (ho:(o=0∧K=70)∨(o=1∧K=71)∨(o=2∧K=72)) (hz:∀ X Y:Int,Fx.InR X→Fx.InR Y→∀ W,Calls Tryz.prog K #[.int .i64 X,.int .i64 Y] W fun e w'=>e = .returned (.int .i64 (f X Y))∧Below W.heap.size W w') (p p2 p3 p5:Option Addr) (n c n2 c2 n3 c3 n5 c5:Nat) (d x d' y:List Int) (hd:RI d) (hx:RI x) (hd':RI d') (hy:RI y) (w:World) (h1:Nums .i64 w (.slice p n c) d) (h2:Nums .i64 w (.slice p2 n2 c2) x) (h3:Nums .i64 w (.slice p3 n3 c3) d') (h4:Nums .i64 w (.slice p5 n5 c5) y)
  (a b J:List Nat) (hJ:Joint d x d' y a b J):
  Calls Tryz.prog 40 #[.int .i64 o,.agg #[.slice p n c,.slice p2 n2 c2],.agg #[.slice p3 n3 c3,.slice p5 n5 c5]] w fun e w'=>∃ v',e = .returned (.tuple #[v',.int .i64 (eachE d x d' y)])∧TRes w' w.heap.size v' (eachD d x d' y) (eachV (f) d x d' y)∧Below w.heap.size w w':=by
 have cA:=fun W (hW:Below w.heap.size w W)=>ris_any _ _ d x hd W (h1.up hW) (h2.up hW)
 have cB:=fun W (hW:Below w.heap.size w W)=>ris_any _ _ d' y hd' W (h3.up hW) (h4.up hW)
 have cJ:=fun W (hW:Below w.heap.size w W)=>rjoin_any _ _ d d' hd hd' W (h1.up hW) (h3.up hW)
 obtain ⟨e1,e2,e3⟩:=hJ.E (op:=f)
 rw [e1,e2,e3]
 have hpa:isP d x:=by rw [hJ.da];unfold isP;rw [ntl_itl];exact ⟨hJ.ga,hJ.lx⟩
 have hpb:isP d' y:=by rw [hJ.db];unfold isP;rw [ntl_itl];exact ⟨hJ.gb,hJ.ly⟩
 rw [decide_eq_true hpa] at cA
 rw [decide_eq_true hpb] at cB
 rw [hJ.je,hJ.jn] at cJ
 obtain ⟨JL,eJ⟩:∃ JL,itl J=JL:=⟨_,rfl⟩
 obtain ⟨V,eV⟩:∃ V,((List.range (prodN J)).map fun i=>(f) (x.getD (fromN a J i) 0) (y.getD (fromN b J i) 0))=V:=⟨_,rfl⟩
 obtain ⟨N,eN⟩:∃ N,prodN J=N:=⟨_,rfl⟩
 rw [eJ] at cJ ⊢
 rw [eV]
 have HJ:Hid (Joint d x d' y a b J∧itl J=JL∧((List.range (prodN J)).map fun i=>(f) (x.getD (fromN a J i) 0) (y.getD (fromN b J i) 0))=V∧prodN J=N∧V.length=N):=⟨hJ,eJ,eV,eN,by rw [← eV,← eN];simp⟩
 have hN:1≤N∧N≤4096:=by rw [← eN];exact ⟨hJ.gJ.pos,hJ.gJ.2.2⟩
 have hN':1≤(N:Int)∧(N:Int)≤4096:=by omega
 have HR:Hid (RI x∧RI y):=⟨hx,hy⟩
 have H0:Hid (Nums .i64 w (.slice p n c) (itl a)∧Nums .i64 w (.slice p2 n2 c2) x∧Nums .i64 w (.slice p3 n3 c3) (itl b)∧Nums .i64 w (.slice p5 n5 c5) y):=⟨by rw [← hJ.da];exact h1,h2,by rw [← hJ.db];exact h3,h4⟩
 clear e1 e2 e3 hpa hpb eJ eV eN h1 h2 h3 h4 hd hx hd' hy hJ
 have HO:Hid ((o=0∧K=70)∨(o=1∧K=71)∨(o=2∧K=72)):=ho
 have HCz:Hid (∀ X Y:Int,Fx.InR X→Fx.InR Y→∀ W,Calls Tryz.prog K #[.int .i64 X,.int .i64 Y] W fun e w'=>e = .returned (.int .i64 (f X Y))∧Below W.heap.size W w'):=hz
 clear ho hz
 go_enter Tryz.func40,Tryz.ntmps40
 go_wp2_with fail
 generalize hW0:World.alloc _ _=W0
 have HB0:=hidB (w:=w) hW0 (by go_grown)
 have XA:Hid (Cel W0 w.heap.size (.slice p n c) (.slice p2 n2 c2)):=celW hW0 (by simp [go_sem])
 have XB:Hid (Cel W0 (w.heap.size+1) (.slice p3 n3 c3) (.slice p5 n5 c5)):=celW hW0 (by simp [go_sem])
 have XR:Hid (Cel W0 (w.heap.size+2) (.slice none 0 0) (.slice none 0 0)):=celW hW0 (by simp [go_sem])
 clear hW0
 refine (cA W0 HB0.out).mono ?_
 rintro e w1 ⟨rfl,hB1⟩
 have HB1:=hid2 (bstep HB0.out hB1) hB1
 clear hB1
 obtain ⟨b0,b1,_,_⟩:=XB.out.up HB1.out.2
 go_wp2_with fail
 refine (cB w1 HB1.out.1).mono ?_
 rintro e w2 ⟨rfl,hB2⟩
 have HB2:=hid2 (bstep HB1.out.1 hB2) (bstep HB1.out.2 hB2)
 clear hB2 b0 b1
 obtain ⟨a0,a1,_,_⟩:=XA.out.up HB2.out.2
 obtain ⟨b0,b1,_,_⟩:=XB.out.up HB2.out.2
 go_wp2_with fail
 refine (cJ w2 HB2.out.1).mono ?_
 rintro e w3 ⟨vj,rfl,hO3,hB3⟩
 have HB3:=hid2 (bstep HB2.out.1 hB3) (bstep HB2.out.2 hB3)
 have HO3:Hid (OwnK .i64 3 w3 w2.heap.size vj JL):=hO3
 clear hB3 hO3 a0 a1 b0 b1
 clear cA cB cJ
 have cN:=rnew_any vj JL (by rw [← HJ.out.2.1];exact RI_itl HJ.out.1.gJ.le) (by rw [← HJ.out.2.1,ntl_itl];exact HJ.out.1.gJ) 0 w3 HO3.out.nums
 rw [← HJ.out.2.1,ntl_itl,HJ.out.2.2.2.1,HJ.out.2.1] at cN
 go_wp2_with fail
 refine cN.mono ?_
 rintro e w4 ⟨v4,rfl,⟨s4,g,cg,rfl,hs4,ht4,hOff,hgB⟩,hB4⟩
 obtain ⟨p4,n4,c4,rfl,_⟩:=hs4.nums.lst
 have HOff:Hid (Off g (.slice p4 n4 c4)):=hOff
 go_wp2_with fail
 generalize hW5:World.alloc _ _=W5
 obtain ⟨b5,hb5⟩:∃ b5,w4.heap.size=b5:=⟨_,rfl⟩
 have B5:Below w4.heap.size w4 W5:=by rw [← hW5];exact up_alloc w4 _
 have XT:Hid (Cel W5 b5 (.slice p4 n4 c4) (.slice (some ⟨g,0,none⟩) N cg)):=by
  show Cel _ _ _ _
  unfold Cel
  rw [← hW5,← hb5]
  simp [go_sem]
 have HB5:Hid (Below w.heap.size w W5∧Below W0.heap.size W0 W5):=⟨bstep HB3.out.1 (bstep hB4 B5),bstep HB3.out.2 (bstep hB4 B5)⟩
 have HD5:Hid (OwnK .i64 3 W5 w3.heap.size (.slice p4 n4 c4) JL):=hs4.up B5
 have HX5:Hid (Cel W5 w.heap.size (.slice p n c) (.slice p2 n2 c2)∧Cel W5 (w.heap.size+1) (.slice p3 n3 c3) (.slice p5 n5 c5)∧Cel W5 (w.heap.size+2) (.slice none 0 0) (.slice none 0 0)):=⟨XA.out.up HB5.out.2,XB.out.up HB5.out.2,XR.out.up HB5.out.2⟩
 have HO5:Hid (OwnK .i64 33 W5 g (.slice (some ⟨g,0,none⟩) N cg) (rowF V 0)):=by
  show OwnK _ _ _ _ _ _
  rw [rowF_zero,HJ.out.2.2.2.2]
  exact (ht4.up B5).base
 have hz:=cell_lt XR.out.1
 have hgl:=ht4.size
 have Hg:Hid (W0.heap.size≤g∧w.heap.size+2 < W0.heap.size∧g < b5∧w3.heap.size≤g∧W0.heap.size≤w3.heap.size):=⟨Nat.le_trans HB3.out.2.size hgB,hz,by omega,hgB,HB3.out.2.size⟩
 rw [hb5]
 have HJ5:Hid (OwnK .i64 3 W5 w2.heap.size vj JL∧Off g vj):=⟨HO3.out.up (bstep hB4 B5),HO3.out.off_new hgB⟩
 have cFr:∀ W (k:Nat) (u:Value) (e:List Nat),Nums .i64 W u (itl e)→Nums .i64 W vj (itl J)→goodN e→fitsN e J→joinN e J=J→k < N→Calls Tryz.prog 69 #[u,vj,.int .i64 (k:Int)] W fun e' w'=>e' = .returned (.tuple #[.int .i64 ((fromN e J k:Nat):Int),.bool true])∧Below W.heap.size W w':=fun W k u e hu hv ge fe je hk=>by
  have:=rfrom_any _ _ (itl e) (itl J) (RI_itl ge.le) (RI_itl HJ.out.1.gJ.le) (k:Int) W hu hv
  obtain ⟨f1,f2⟩:=from_at ge HJ.out.1.gJ fe je k (by rw [HJ.out.2.2.2.1];exact hk)
  rw [f1,f2] at this
  exact this
 have HFr:Hid (∀ W (k:Nat) (u:Value) (e:List Nat),Nums .i64 W u (itl e)→Nums .i64 W vj (itl J)→goodN e→fitsN e J→joinN e J=J→k < N→Calls Tryz.prog 69 #[u,vj,.int .i64 (k:Int)] W fun e' w'=>e' = .returned (.tuple #[.int .i64 ((fromN e J k:Nat):Int),.bool true])∧Below W.heap.size W w'):=cFr
 clear hW5 B5 hb5 hz hgl hs4 ht4 hB4 hgB hOff cN cFr
 go_loopg [11] N (fun gg i wr=>∃ (k:Nat),k≤N∧gg=N - k∧i = .int .i64 (k:Int)∧Hid (OwnK .i64 33 wr g (.slice (some ⟨g,0,none⟩) N cg) (rowF V k))∧Hid (Below w.heap.size w wr∧Stay g W5 wr))
 case atStart=>exact ⟨0,by omega,by omega,by first|rfl|simp,HO5,HB5.out.1,Stay.refl _ _⟩
 case round=>
  obtain ⟨k,hk,hgg,rfl,HRk,hBS⟩:=hrel
  obtain ⟨R1,hR1⟩:∃ R1:World,R1=wr:=⟨_,rfl⟩
  subst hR1
  have hnb:b5≠g:=by have:=Hg.out;omega
  obtain ⟨t0,t1,_,_⟩:=XT.out.stay hBS.out.2 hnb
  by_cases hkn:k < N
  ·have hk':(k:Int) < (N:Int):=by omega
   have hne0:w.heap.size≠g:=by have:=Hg.out;omega
   have hne1:w.heap.size+1≠g:=by have:=Hg.out;omega
   have hkJ:k < prodN J:=by rw [HJ.out.2.2.2.1];exact hkn
   have ia:=fromN_lt HJ.out.1.ga.2.1 HJ.out.1.gJ.2.1 HJ.out.1.fa HJ.out.1.ja k hkJ
   have ib:=fromN_lt HJ.out.1.gb.2.1 HJ.out.1.gJ.2.1 HJ.out.1.fb HJ.out.1.jb k hkJ
   have hvj:∀ W,Stay g W5 W→Nums .i64 W vj (itl J):=fun W hW=>by rw [HJ.out.2.1];exact HJ5.out.1.nums.stay hW HJ5.out.2
   have HVj:Hid (∀ W,Stay g W5 W→Nums .i64 W vj (itl J)):=hvj
   have c1:=HFr.out R1 k (.slice p n c) a (H0.out.1.up hBS.out.1) (hvj R1 hBS.out.2) HJ.out.1.ga HJ.out.1.fa HJ.out.1.ja hkn
   have c2':∀ W,Below w.heap.size w W→Stay g W5 W→Calls Tryz.prog 69 #[.slice p3 n3 c3,vj,.int .i64 (k:Int)] W fun e' w'=>e' = .returned (.tuple #[.int .i64 ((fromN b J k:Nat):Int),.bool true])∧Below W.heap.size W w':=fun W h1 h2=>HFr.out W k _ b (H0.out.2.2.1.up h1) (HVj.out W h2) HJ.out.1.gb HJ.out.1.fb HJ.out.1.jb hkn
   obtain ⟨i,ei⟩:∃ i,fromN a J k=i:=⟨_,rfl⟩
   obtain ⟨j,ej⟩:∃ j,fromN b J k=j:=⟨_,rfl⟩
   rw [ei] at c1 ia
   rw [ej] at c2' ib
   obtain ⟨_,_,_,e4,HX⟩:=H0.out.2.1.lst
   cases e4
   obtain ⟨_,_,_,e4,HY⟩:=H0.out.2.2.2.lst
   cases e4
   rw [← HJ.out.1.lx,HX.out.1] at ia
   rw [← HJ.out.1.ly,HY.out.1] at ib
   have ia':(i:Int) < (n2:Int):=by omega
   have ib':(j:Int) < (n5:Int):=by omega
   obtain ⟨qx,ox,rfl,hx0⟩:=HX.out.2 i ia
   obtain ⟨qy,oy,rfl,hy0⟩:=HY.out.2 j ib
   have rx:=HR.out.1.in i (by rw [HX.out.1];exact ia)
   have ry:=HR.out.2.in j (by rw [HY.out.1];exact ib)
   obtain ⟨X,eX⟩:∃ X,x.getD i 0=X:=⟨_,rfl⟩
   obtain ⟨Y,eY⟩:∃ Y,y.getD j 0=Y:=⟨_,rfl⟩
   rw [eX] at hx0 rx
   rw [eY] at hy0 ry
   obtain ⟨Z,eZ⟩:∃ Z,(f) X Y=Z:=⟨_,rfl⟩
   have HZ:Hid (V.getD k 0=Z):=by
    show _=_
    rw [← HJ.out.2.2.1,getD_map_range _ _ _ _ hkJ,ei,ej,eX,eY]
    exact eZ
   have cz:=HCz.out X Y rx ry
   rw [eZ] at cz
   have HXY:Hid (w.cell? ⟨qx,ox+i,none⟩=some (.int .i64 X)∧w.cell? ⟨qy,oy+j,none⟩=some (.int .i64 Y)):=⟨hx0,hy0⟩
   obtain ⟨a0,a1,_,_⟩:=HX5.out.1.stay hBS.out.2 hne0
   clear eX eY eZ ei ej HX HY ia ib hkJ hx0 hy0 hvj rx ry
   go_wp2_with fail
   refine c1.mono ?_
   rintro e R2 ⟨rfl,hbR⟩
   have HBS2:Hid (Below w.heap.size w R2∧Stay g W5 R2):=⟨bstep hBS.out.1 hbR,hBS.out.2.up hbR⟩
   have HRk2:Hid (OwnK .i64 33 R2 g (.slice (some ⟨g,0,none⟩) N cg) (rowF V k)):=HRk.out.up hbR
   have c2:=c2' R2 HBS2.out.1 HBS2.out.2
   clear c1 c2' hbR a0 a1 t0 t1
   obtain ⟨b0,b1,_,_⟩:=HX5.out.2.1.stay HBS2.out.2 hne1
   go_wp2_with fail
   refine c2.mono ?_
   rintro e R3 ⟨rfl,hbR⟩
   have HBS3:Hid (Below w.heap.size w R3∧Stay g W5 R3):=⟨bstep HBS2.out.1 hbR,HBS2.out.2.up hbR⟩
   have HRk3:Hid (OwnK .i64 33 R3 g (.slice (some ⟨g,0,none⟩) N cg) (rowF V k)):=HRk2.out.up hbR
   clear c2 hbR b0 b1
   obtain ⟨a0,a1,_,_⟩:=HX5.out.1.stay HBS3.out.2 hne0
   obtain ⟨b0,b1,_,_⟩:=HX5.out.2.1.stay HBS3.out.2 hne1
   obtain ⟨t0,t1,_,_⟩:=XT.out.stay HBS3.out.2 hnb
   have hx1:=cell_low HXY.out.1 HBS3.out.1
   have hy1:=cell_low HXY.out.2 HBS3.out.1
   have z0:=cell_lt a0
   have z1:=cell_lt b0
   have z2:=cell_lt t0
   have z3:=cell_lt hx1
   have z4:=cell_lt hy1
   have z5:=HRk3.out.size
   have Hk:Hid (k < V.length):=by show _ < _;rw [HJ.out.2.2.2.2];exact hkn
   clear hne0 hne1 hnb
   rcases HO.out with ⟨rfl,rfl⟩|⟨rfl,rfl⟩|⟨rfl,rfl⟩
   all_goals
    go_wp2_with fail
    refine flow 15 113 (by kernel_rfl) rfl rfl (by kernel_rfl) ?_
    apply Exists.intro
    refine ⟨?_,?_⟩
    ·intro F hF
     have hFc:=hF.cell
     have hFf:=hF.frozen
     simp only [List.take_succ_cons,List.take_zero,List.eraseIdx_cons_succ,List.eraseIdx_cons_zero]
     repeat (go_big_quiet_step (exact hF.call (cz _)))
     refine wpQuiet_nil ?_
     exact rfl
    ·intro W1 hb1
     simp only [List.drop_succ_cons,List.drop_zero]
     have HR2:=HRk3.out.up hb1
     obtain ⟨hown,hfz⟩:=HR2.cell (by rw [rowF_len];exact HJ.out.2.2.2.2) k hkn
     have H5:Hid (OwnK .i64 33 (W1.setCell ⟨g,k,none⟩ (.int .i64 Z)) g (.slice (some ⟨g,0,none⟩) N cg) (rowF V (k+1))):=by
      have:=HR2.store (by rw [rowF_len];exact HJ.out.2.2.2.2) k Z
      have e2:=rowF_set V k Hk.out
      rw [HZ.out] at e2
      rw [e2] at this
      exact this
     have hgw:w.heap.size≤g:=by have:=Hg.out;omega
     have H6:Hid (Below w.heap.size w (W1.setCell ⟨g,k,none⟩ (.int .i64 Z))∧Stay g W5 (W1.setCell ⟨g,k,none⟩ (.int .i64 Z))):=⟨(bstep HBS3.out.1 hb1).setCell (p:=⟨g,k,none⟩) hgw _,(HBS3.out.2.up hb1).set _ _⟩
     clear HR2 hb1 cz z0 z1 z2 z3 z4 z5 a0 a1 b0 b1 t0 t1 hgw
     go_wp2
     go_roundg (N - (k+1))
     case measure=>omega
     case rel=>exact ⟨k+1,by omega,rfl,by first|rfl|simp,H5,H6⟩
  ·obtain rfl:k=N:=by omega
   have hfin:=HRk.out
   rw [← HJ.out.2.2.2.2,rowF_full,HJ.out.2.2.2.2] at hfin
   have HXR:Hid (Cel W5 (w.heap.size+2) (.slice none 0 0) (.slice none 0 0)):=HX5.out.2.2
   have hne1:w.heap.size+2≠g:=by have:=Hg.out;omega
   have hfd:=HD5.out.stay hBS.out.2 (fun ad n1 c1 e1=>HOff.out ad n1 c1 e1)
   have HF:Hid (TRes (set2 R1 (w.heap.size+2) (.slice p4 n4 c4) (.slice (some ⟨g,0,none⟩) k cg)) w.heap.size (.agg #[.slice p4 n4 c4,.slice (some ⟨g,0,none⟩) k cg]) JL V∧Below w.heap.size w (set2 R1 (w.heap.size+2) (.slice p4 n4 c4) (.slice (some ⟨g,0,none⟩) k cg))):=
    ⟨(TRes.set (hfd.low Hg.out.2.2.2.2) (hfin.low Hg.out.1) Hg.out.2.1).low HB0.out.size,below_cell hBS.out.1 _ (by omega) _ _⟩
   have xr:=HXR.out.stay hBS.out.2 hne1
   have cf:=xr.set (.slice p4 n4 c4) (.slice (some ⟨g,0,none⟩) k cg)
   obtain ⟨r0,r1,r2,r3⟩:=xr
   obtain ⟨y0,y1,_,_⟩:=cf
   clear hfin hfd hne1 hnb
   go_wp2
   exact bodyPost_ret (v:=.tuple #[.agg #[.slice p4 n4 c4,.slice (some ⟨g,0,none⟩) k cg],.int .i64 0]) (by simp [results,Tryz.results40,go_sem,y0,y1]) rfl ⟨_,rfl,HF.out⟩
theorem reach0_any (p p2 p3 p5:Option Addr) (n c n2 c2 n3 c3 n5 c5:Nat) (d x d' y:List Int) (hd:RI d) (hx:RI x) (hd':RI d') (hy:RI y) (w:World) (h1:Nums .i64 w (.slice p n c) d) (h2:Nums .i64 w (.slice p2 n2 c2) x) (h3:Nums .i64 w (.slice p3 n3 c3) d') (h4:Nums .i64 w (.slice p5 n5 c5) y):
  Calls Tryz.prog 40 #[.int .i64 0,.agg #[.slice p n c,.slice p2 n2 c2],.agg #[.slice p3 n3 c3,.slice p5 n5 c5]] w fun e w'=>∃ v',e = .returned (.tuple #[v',.int .i64 (eachE d x d' y)])∧TRes w' w.heap.size v' (eachD d x d' y) (eachV (fun a b=>Fx.hold (a+b)) d x d' y)∧Below w.heap.size w w':=by
 by_cases h:isP d x∧isP d' y∧joinE d d'=0
 ·obtain ⟨a,b,J,hJ⟩:=joint ⟨h.1,h.2.1⟩ h.2.2
  exact reach_yes 0 (fun a b=>Fx.hold (a+b)) 70 (by decide) (fun X Y hX hY W=>Rf.add_ref X Y hX hY _ rfl W) p p2 p3 p5 n c n2 c2 n3 c3 n5 c5 d x d' y hd hx hd' hy w h1 h2 h3 h4 a b J hJ
 ·exact reach_no 0 (fun a b=>Fx.hold (a+b)) p p2 p3 p5 n c n2 c2 n3 c3 n5 c5 d x d' y hd hx hd' hy w h1 h2 h3 h4 h
theorem reach1_any (p p2 p3 p5:Option Addr) (n c n2 c2 n3 c3 n5 c5:Nat) (d x d' y:List Int) (hd:RI d) (hx:RI x) (hd':RI d') (hy:RI y) (w:World) (h1:Nums .i64 w (.slice p n c) d) (h2:Nums .i64 w (.slice p2 n2 c2) x) (h3:Nums .i64 w (.slice p3 n3 c3) d') (h4:Nums .i64 w (.slice p5 n5 c5) y):
  Calls Tryz.prog 40 #[.int .i64 1,.agg #[.slice p n c,.slice p2 n2 c2],.agg #[.slice p3 n3 c3,.slice p5 n5 c5]] w fun e w'=>∃ v',e = .returned (.tuple #[v',.int .i64 (eachE d x d' y)])∧TRes w' w.heap.size v' (eachD d x d' y) (eachV (fun a b=>Fx.hold (a - b)) d x d' y)∧Below w.heap.size w w':=by
 by_cases h:isP d x∧isP d' y∧joinE d d'=0
 ·obtain ⟨a,b,J,hJ⟩:=joint ⟨h.1,h.2.1⟩ h.2.2
  exact reach_yes 1 (fun a b=>Fx.hold (a - b)) 71 (by decide) (fun X Y hX hY W=>Rf.sub_ref X Y hX hY _ rfl W) p p2 p3 p5 n c n2 c2 n3 c3 n5 c5 d x d' y hd hx hd' hy w h1 h2 h3 h4 a b J hJ
 ·exact reach_no 1 (fun a b=>Fx.hold (a - b)) p p2 p3 p5 n c n2 c2 n3 c3 n5 c5 d x d' y hd hx hd' hy w h1 h2 h3 h4 h
theorem reach2_any (p p2 p3 p5:Option Addr) (n c n2 c2 n3 c3 n5 c5:Nat) (d x d' y:List Int) (hd:RI d) (hx:RI x) (hd':RI d') (hy:RI y) (w:World) (h1:Nums .i64 w (.slice p n c) d) (h2:Nums .i64 w (.slice p2 n2 c2) x) (h3:Nums .i64 w (.slice p3 n3 c3) d') (h4:Nums .i64 w (.slice p5 n5 c5) y):
  Calls Tryz.prog 40 #[.int .i64 2,.agg #[.slice p n c,.slice p2 n2 c2],.agg #[.slice p3 n3 c3,.slice p5 n5 c5]] w fun e w'=>∃ v',e = .returned (.tuple #[v',.int .i64 (eachE d x d' y)])∧TRes w' w.heap.size v' (eachD d x d' y) (eachV (Fx.mulI) d x d' y)∧Below w.heap.size w w':=by
 by_cases h:isP d x∧isP d' y∧joinE d d'=0
 ·obtain ⟨a,b,J,hJ⟩:=joint ⟨h.1,h.2.1⟩ h.2.2
  exact reach_yes 2 (Fx.mulI) 72 (by decide) (fun X Y hX hY W=>Rf.mul_ref X Y hX hY _ rfl W) p p2 p3 p5 n c n2 c2 n3 c3 n5 c5 d x d' y hd hx hd' hy w h1 h2 h3 h4 a b J hJ
 ·exact reach_no 2 (Fx.mulI) p p2 p3 p5 n c n2 c2 n3 c3 n5 c5 d x d' y hd hx hd' hy w h1 h2 h3 h4 h
end Go.Proofs.YtpdkkcnmgiihcaaGreatDoor.Wd
namespace Go.Proofs.YtpdkkcnmgiihcaaGreatDoor.Rf
open Go.RowKit Fx
/-- The number that a value stands for. -/
def IsS (v:Value) (S:Int):Prop:=∃ s x,IsN v s x∧sv s x=S
theorem abs_of {v:Value} {s:Bool} {x S:Int} (h:IsN v s x) (e:sv s x=S):x=(S.natAbs:Int):=by
 have:=h.rng
 unfold sv at e
 cases s <;> simp at e <;> omega
theorem zeroS:IsS (.agg #[.bool false,.int .u64 0,.int .u64 0,.int .u64 0,.int .u64 0]) 0:=⟨false,0,⟨0,0,0,0,rfl,by unfold U;omega,by unfold U;omega,by unfold U;omega,by unfold U;omega,by rw [PS4];rfl⟩,rfl⟩
theorem IsS.agg {v:Value} {S:Int} (h:IsS v S):∃ s a0 a1 a2 a3,v = .agg #[.bool s,.int .u64 a0,.int .u64 a1,.int .u64 a2,.int .u64 a3]∧IsS (.agg #[.bool s,.int .u64 a0,.int .u64 a1,.int .u64 a2,.int .u64 a3]) S:=by
 have h':=h
 obtain ⟨s,x,⟨a0,a1,a2,a3,rfl,_⟩,_⟩:=h
 exact ⟨s,a0,a1,a2,a3,rfl,h'⟩
theorem sv_rq (s:Bool) (x d:Int) (hd:0 < d):sv s (rqI x d)=Wd.rqI (sv s x) d:=by
 unfold sv
 cases s
 ·rfl
 ·exact (Wd.rqI_neg x d hd).symm
theorem heldS (v:Value) (S:Int) (hv:IsS v S) (w:World):
  Calls Tryz.prog 60 #[v] w fun e w'=>e = .returned (.int .i64 (hold S))∧Below w.heap.size w w':=by
 obtain ⟨s,x,h1,h2⟩:=hv
 rw [← h2]
 exact held_ref v s x h1 w
def nv (s:Bool) (x:Int):Value:=.agg #[.bool s,.int .u64 (x % 18446744073709551616),.int .u64 (x / 18446744073709551616 % 18446744073709551616),.int .u64 (x / 340282366920938463463374607431768211456 % 18446744073709551616),.int .u64 (x / 6277101735386680763835789423207666416102355444464034512896 % 18446744073709551616)]
theorem IsN.nv {v:Value} {s:Bool} {x:Int} (h:IsN v s x):v=nv s x:=by
 obtain ⟨a0,a1,a2,a3,rfl,p0,p1,p2,p3,hX⟩:=h
 rw [PS4] at hX
 unfold U at *
 unfold Rf.nv
 have e0:x % 18446744073709551616=a0:=by omega
 have e1:x / 18446744073709551616 % 18446744073709551616=a1:=by omega
 have e2:x / 340282366920938463463374607431768211456 % 18446744073709551616=a2:=by omega
 have e3:x / 6277101735386680763835789423207666416102355444464034512896 % 18446744073709551616=a3:=by omega
 rw [e0,e1,e2,e3]
/-- The words of a number. -/
theorem nv_words (s:Bool) (x:Int) (h0:0≤x) (h:x < 115792089237316195423570985008687907853269984665640564039457584007913129639936):
  ∃ a0 a1 a2 a3:Int,nv s x = .agg #[.bool s,.int .u64 a0,.int .u64 a1,.int .u64 a2,.int .u64 a3]∧IsN (.agg #[.bool s,.int .u64 a0,.int .u64 a1,.int .u64 a2,.int .u64 a3]) s x:=by
 refine ⟨_,_,_,_,rfl,_,_,_,_,rfl,?_,?_,?_,?_,?_⟩
 ·unfold U;omega
 ·unfold U;omega
 ·unfold U;omega
 ·unfold U;omega
 ·rw [PS4];omega
def pls (s:Bool) (x:Int) (t:Bool) (y:Int):Bool×Int:=if s=t then (s,x+y) else if x < y then (t,y - x) else (s,x - y)
theorem pls_sv (s:Bool) (x:Int) (t:Bool) (y:Int):sv (pls s x t y).1 (pls s x t y).2=sv s x+sv t y:=by
 unfold pls sv
 cases s <;> cases t <;> simp <;> (try split) <;> (try simp) <;> omega
theorem pls_le (s:Bool) (x:Int) (t:Bool) (y:Int) (hx:0≤x) (hy:0≤y):0≤(pls s x t y).2∧(pls s x t y).2≤x+y:=by
 unfold pls
 split
 ·simp;omega
 ·split <;> simp <;> omega
theorem plus_nv (v u:Value) (s t:Bool) (x y:Int) (hv:IsN v s x) (hu:IsN u t y) (hxy:x+y < 115792089237316195423570985008687907853269984665640564039457584007913129639936) (w:World):
  Calls Tryz.prog 87 #[v,u] w fun e w'=>e = .returned (nv (pls s x t y).1 (pls s x t y).2)∧Below w.heap.size w w':=by
 have hx:=hv.rng
 have hy:=hu.rng
 obtain ⟨a0,a1,a2,a3,rfl,p0,p1,p2,p3,hX⟩:=hv
 obtain ⟨b0,b1,b2,b3,rfl,q0,q1,q2,q3,hY⟩:=hu
 by_cases hst:s=t
 ·subst hst
  refine (Plus_same s a0 a1 a2 a3 b0 b1 b2 b3 p0 p1 p2 p3 q0 q1 q2 q3 w).mono ?_
  rintro e w' ⟨c0,c1,c2,c3,cr,rfl,u0,u1,u2,u3,hinv,hb⟩
  refine ⟨?_,hb⟩
  have:pls s x s y=(s,x+y):=by simp [pls]
  rw [this]
  refine congrArg Ending.returned (IsN.nv ⟨c0,c1,c2,c3,rfl,u0,u1,u2,u3,?_⟩)
  have h:=hinv.out
  rw [hX,hY,BP4] at h
  have hc:0≤PS 4 c0 c1 c2 c3:=by rw [PS4];unfold U at *;omega
  omega
 ·have hst':(s==t)=false:=by simpa using hst
  by_cases hlt:x < y
  ·refine (Plus_lt s t hst' a0 a1 a2 a3 b0 b1 b2 b3 p0 p1 p2 p3 q0 q1 q2 q3 (by show decide _=true;rw [hX,hY];simpa using hlt) w).mono ?_
   rintro e w' ⟨c0,c1,c2,c3,cr,rfl,u0,u1,u2,u3,hinv,hb⟩
   refine ⟨?_,hb⟩
   have:pls s x t y=(t,y - x):=by simp [pls,hst,hlt]
   rw [this]
   refine congrArg Ending.returned (IsN.nv ⟨c0,c1,c2,c3,rfl,u0,u1,u2,u3,?_⟩)
   have h:=hinv.out
   rw [hX,hY,BP4] at h
   have hc:PS 4 c0 c1 c2 c3 < 115792089237316195423570985008687907853269984665640564039457584007913129639936:=by rw [PS4];unfold U at *;omega
   omega
  ·refine (Plus_ge s t hst' a0 a1 a2 a3 b0 b1 b2 b3 p0 p1 p2 p3 q0 q1 q2 q3 (by show decide _=false;rw [hX,hY];simpa using hlt) w).mono ?_
   rintro e w' ⟨c0,c1,c2,c3,cr,rfl,u0,u1,u2,u3,hinv,hb⟩
   refine ⟨?_,hb⟩
   have:pls s x t y=(s,x - y):=by simp [pls,hst,hlt]
   rw [this]
   refine congrArg Ending.returned (IsN.nv ⟨c0,c1,c2,c3,rfl,u0,u1,u2,u3,?_⟩)
   have h:=hinv.out
   rw [hX,hY,BP4] at h
   have hc:PS 4 c0 c1 c2 c3 < 115792089237316195423570985008687907853269984665640564039457584007913129639936:=by rw [PS4];unfold U at *;omega
   omega
theorem from_nv (n:Int) (hn:InR n) (w:World):
  Calls Tryz.prog 62 #[.int .i64 n] w fun e w'=>e = .returned (nv (decide (n < 0)) (n.natAbs:Int))∧Below w.heap.size w w':=
 (from_any n hn w).mono fun e w' ⟨v,he,hv,hb⟩=>⟨by rw [he,hv.nv],hb⟩
theorem plusD {v u:Value} {S T:Int} (hv:IsS v S) (hu:IsS u T) (hb:(S.natAbs:Int)+(T.natAbs:Int) < 115792089237316195423570985008687907853269984665640564039457584007913129639936):
  ∃ z,IsS z (S+T)∧∀ W,Calls Tryz.prog 87 #[v,u] W fun e w'=>e = .returned z∧Below W.heap.size W w':=by
 obtain ⟨s,x,h1,h2⟩:=hv
 obtain ⟨t,y,h3,h4⟩:=hu
 have hx:=abs_of h1 h2
 have hy:=abs_of h3 h4
 have hl:=pls_le s x t y (by omega) (by omega)
 obtain ⟨a0,a1,a2,a3,e,hN⟩:=nv_words (pls s x t y).1 (pls s x t y).2 hl.1 (by omega)
 refine ⟨nv (pls s x t y).1 (pls s x t y).2,⟨_,_,by rw [e];exact hN,by rw [pls_sv,h2,h4]⟩,fun W=>?_⟩
 exact plus_nv v u s t x y h1 h3 (by omega) W
theorem fromD {a:Int} (ha:InR a):∃ z,IsS z a∧∀ W,Calls Tryz.prog 62 #[.int .i64 a] W fun e w'=>e = .returned z∧Below W.heap.size W w':=by
 obtain ⟨a0,a1,a2,a3,e,hN⟩:=nv_words (decide (a < 0)) (a.natAbs:Int) (by omega) (by unfold InR at ha;omega)
 exact ⟨nv (decide (a < 0)) (a.natAbs:Int),⟨_,_,by rw [e];exact hN,sv_from a⟩,fun W=>from_nv a ha W⟩
theorem dividedD {v:Value} {S n:Int} (hv:IsS v S) (hn:InR n) (h0:0 < n):∃ z,IsS z (Wd.rqI S n)∧∀ W,Calls Tryz.prog 61 #[v,.int .i64 n] W fun e w'=>e = .returned z∧Below W.heap.size W w':=by
 obtain ⟨s,x,h1,h2⟩:=hv
 have hx:=h1.rng
 have h3:x / n≤x:=Int.ediv_le_self _ hx.1
 have h4:0≤x / n:=Int.ediv_nonneg hx.1 (by omega)
 have hq:0≤rqI x n∧rqI x n < 115792089237316195423570985008687907853269984665640564039457584007913129639936:=by
  unfold rqI
  split
  ·rename_i hc
   have h5:0 < x % n:=by
    have:=Int.emod_nonneg x (show n≠0 by omega)
    omega
   have h6:=Int.mul_ediv_add_emod x n
   have h7:x / n*1≤x / n*n:=Int.mul_le_mul_of_nonneg_left (by omega) h4
   rw [Int.mul_comm] at h6
   omega
  ·omega
 obtain ⟨a0,a1,a2,a3,e,hN⟩:=nv_words s (rqI x n) hq.1 hq.2
 refine ⟨nv s (rqI x n),⟨_,_,by rw [e];exact hN,by rw [sv_rq _ _ _ h0,h2]⟩,fun W=>?_⟩
 refine (divided_any v s x n h1 hn (by omega) W).mono ?_
 rintro e w' ⟨z,rfl,h5,h7⟩
 rw [show decide (n < 0)=false from decide_eq_false (by omega),Bool.bne_false,show ((n.natAbs:Nat):Int)=n by omega] at h5
 exact ⟨by rw [h5.nv],h7⟩
end Go.Proofs.YtpdkkcnmgiihcaaGreatDoor.Rf
namespace Go.Proofs.YtpdkkcnmgiihcaaGreatDoor.Wd
open Go.RowKit Fx
/-- One of the reference's numbers in the five cells of a block, which may be written. -/
def LiesS (W:World) (b:Nat) (S:Int):Prop:=
 ∃ (r:Bool) (a0 a1 a2 a3:Int),b < W.heap.size∧W.cell? ⟨b,0,none⟩=some (.bool r)∧W.cell? ⟨b,1,none⟩=some (.int .u64 a0)∧W.cell? ⟨b,2,none⟩=some (.int .u64 a1)∧W.cell? ⟨b,3,none⟩=some (.int .u64 a2)∧W.cell? ⟨b,4,none⟩=some (.int .u64 a3)∧
  W.frozen? ⟨b,0,none⟩=false∧W.frozen? ⟨b,1,none⟩=false∧W.frozen? ⟨b,2,none⟩=false∧W.frozen? ⟨b,3,none⟩=false∧W.frozen? ⟨b,4,none⟩=false∧Rf.IsS (.agg #[.bool r,.int .u64 a0,.int .u64 a1,.int .u64 a2,.int .u64 a3]) S
theorem LiesS.up {W W':World} {b:Nat} {S:Int} (h:LiesS W b S) (hb:Below W.heap.size W W'):LiesS W' b S:=by
 obtain ⟨r,a0,a1,a2,a3,h0,c0,c1,c2,c3,c4,f0,f1,f2,f3,f4,hN⟩:=h
 exact ⟨r,a0,a1,a2,a3,Nat.lt_of_lt_of_le h0 hb.size,keep hb c0,keep hb c1,keep hb c2,keep hb c3,keep hb c4,keepf hb c0 f0,keepf hb c1 f1,keepf hb c2 f2,keepf hb c3 f3,keepf hb c4 f4,hN⟩
theorem LiesS.set {W:World} {b:Nat} {S S':Int} {r':Bool} {t0 t1 t2 t3:Int} (h:LiesS W b S) (hN:Rf.IsS (.agg #[.bool r',.int .u64 t0,.int .u64 t1,.int .u64 t2,.int .u64 t3]) S'):
  LiesS (((((W.setCell ⟨b,0,none⟩ (.bool r')).setCell ⟨b,1,none⟩ (.int .u64 t0)).setCell ⟨b,2,none⟩ (.int .u64 t1)).setCell ⟨b,3,none⟩ (.int .u64 t2)).setCell ⟨b,4,none⟩ (.int .u64 t3)) b S':=by
 obtain ⟨r,a0,a1,a2,a3,h0,c0,c1,c2,c3,c4,f0,f1,f2,f3,f4,_⟩:=h
 obtain ⟨g0,g1,g2,g3,g4⟩:=Rf.five W b (.bool r') (.int .u64 t0) (.int .u64 t1) (.int .u64 t2) (.int .u64 t3) c0 c1 c2 c3 c4
 exact ⟨r',t0,t1,t2,t3,by rw [set5_size];exact h0,g0,g1,g2,g3,g4,(set5_frozen _ _ _ _ _ _ _ _).trans f0,(set5_frozen _ _ _ _ _ _ _ _).trans f1,(set5_frozen _ _ _ _ _ _ _ _).trans f2,(set5_frozen _ _ _ _ _ _ _ _).trans f3,(set5_frozen _ _ _ _ _ _ _ _).trans f4,hN⟩
theorem stay_set5 {g:Nat} (W:World) (x0 x1 x2 x3 x4:Value):Stay g W (((((W.setCell ⟨g,0,none⟩ x0).setCell ⟨g,1,none⟩ x1).setCell ⟨g,2,none⟩ x2).setCell ⟨g,3,none⟩ x3).setCell ⟨g,4,none⟩ x4):=(((((Stay.refl g W).set 0 x0).set 1 x1).set 2 x2).set 3 x3).set 4 x4
theorem LiesS.stay {g:Nat} {W W':World} {b:Nat} {S:Int} (h:LiesS W b S) (hs:Stay g W W') (hg:b≠g):LiesS W' b S:=by
 obtain ⟨r,a0,a1,a2,a3,h0,c0,c1,c2,c3,c4,f0,f1,f2,f3,f4,hN⟩:=h
 exact ⟨r,a0,a1,a2,a3,Nat.lt_of_lt_of_le h0 hs.size,hs.cell c0 hg,hs.cell c1 hg,hs.cell c2 hg,hs.cell c3 hg,hs.cell c4 hg,(hs.frozen h0 hg).trans f0,(hs.frozen h0 hg).trans f1,(hs.frozen h0 hg).trans f2,(hs.frozen h0 hg).trans f3,(hs.frozen h0 hg).trans f4,hN⟩
theorem sums_room {x:List Int} (hx:RI x) (i:Nat→Nat) (n:Nat) (hn:n≤4096) (a:Int) (ha:InR a):((sumI (fun q=>x.getD (i q) 0) n).natAbs:Int)+(a.natAbs:Int) < 115792089237316195423570985008687907853269984665640564039457584007913129639936:=by
 have h1:=sumI_rng (f:=fun q=>x.getD (i q) 0) (B:=9223372036854775808) (by omega) n fun q _=>by have:=getD_inR hx (i q);unfold InR at this;omega
 generalize sumI (fun q=>x.getD (i q) 0) n=S at *
 unfold InR at ha
 omega
end Go.Proofs.YtpdkkcnmgiihcaaGreatDoor.Wd
